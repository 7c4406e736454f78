import PyProof.Rows.All
import OpenK.KLine
import KE.KItem
import Wide.Once
import Wide.FinOn
import Lean
import PyProof.EqAt
import PyProof.EqKinds
import PyProof.TupleCall
import PyProof.TupleKey
import KE.KIntText
import KE.IntTextLaws
import OpenK.KOwn
import KE.KIsAll
import PyProof.InstStoreFacts
import PyProof.RaisesMany
import PyProof.RulesAs
import KE.KTryMore
import PyProof.MaxThree
import PyProof.WalkInts
import KE.KRevIter
import PyProof.ListRange
import KE.RegMulBits
import PyProof.ReprRoads
import PyProof.ReprLen
import PyProof.Rows.SumAny
import PyProof.Rows.RuleN_abs
import Wide.Seal
import PyProof.FactsAll.bool_1
import PyProof.DictRoadsH
import PyProof.MinMaxWalk
import PyProof.Rows.CallKwBuiltin
import PyProof.ZipIter
import PyProof.StrLaws
import PyProof.Rows.FStr
import PyProof.Rows.StrNews
import PyProof.Rows.StrItems
import PyProof.StrLawsChain
import PyProof.StrLawsTight
import PyProof.StrCalls
import PyProof.LongRange
import OpenK.KTop
import PySem.Challenge.RW_curveyard_k50_whole_number_and_place
set_option Elab.async false
set_option Elab.async false
set_option linter.all false
set_option maxRecDepth 100000
set_option maxRecDepth 100000
noncomputable section
namespace L2
open PySem PySem.Spec PyProof.Rows
def vS (s:Stmt)(j:Nat):Stmt:=match s with
 | .ClassDef _ _ _ body _ _ _ _ _ _ _=>body.getD j (.Pass ⟨0,0,0,0⟩)
 | _=>.Pass ⟨0,0,0,0⟩
def zP (s:Stmt):Arguments:=match s with
 | .FunctionDef _ a _ _ _ _ _ _ _ _=>a
 | _=>{ posonlyargs:=[],args:=[],vararg:=none,kwonlyargs:=[],kw_defaults:=[],kwarg:=none,defaults:=[] }
def zQ (s:Stmt):List Stmt:=match s with
 | .FunctionDef _ _ b _ _ _ _ _ _ _=>b
 | _=>[]
def zX (s:Stmt):Scope:=match s with
 | .FunctionDef _ _ _ _ _ _ sc _ _ _=>sc
 | _=>{ kind:=.function,names:=[],isGenerator:=false,isCoroutine:=false }
end L2
namespace My
open PySem L2
def top (i:Nat):Stmt:=PySem.Challenge.pw_curveyard_k50_whole_number_and_place.main.body.getD i (.Pass ⟨0,0,0,0⟩)
end My
namespace My
open PySem PySem.W L2 PyData
def zVL:Params->Frag:=fun P =>
 (nat_lit 3,⟨.type "dict",none,.dict #[⟨keyHash P "__name__",.str "__name__" 165,.str "law_curveyard_k50_whole_number_and_place" 650⟩,⟨keyHash P "__doc__",.str "__doc__" 166,.none⟩,⟨keyHash P "__package__",.str "__package__" 167,.none⟩,⟨keyHash P "__loader__",.str "__loader__" 168,.builtin "__main__.__loader__#opaque"⟩,⟨keyHash P "__spec__",.str "__spec__" 169,.none⟩,⟨keyHash P "__annotations__",.str "__annotations__" 170,.ref 6⟩,⟨keyHash P "__builtins__",.str "__builtins__" 171,.ref 4⟩,⟨keyHash P "__file__",.str "__file__" 173,.str "/claim/cut.py" 172⟩,⟨keyHash P "__cached__",.str "__cached__" 174,.none⟩,⟨keyHash P "BITS",.str "BITS" 190,.str "01" 189⟩,⟨keyHash P "FLIPS",.str "FLIPS" 192,.str "+-" 191⟩,⟨keyHash P "AXES",.str "AXES" 194,.str "xyz" 193⟩,⟨keyHash P "turned",.str "turned" 200,.ref 19⟩,⟨keyHash P "still",.str "still" 206,.ref 24⟩,⟨keyHash P "after",.str "after" 212,.ref 29⟩,⟨keyHash P "undone",.str "undone" 223,.ref 36⟩,⟨keyHash P "turn_of",.str "turn_of" 229,.ref 41⟩,⟨keyHash P "corner_of",.str "corner_of" 235,.ref 46⟩,⟨keyHash P "Part",.str "Part" 270,.ref 63⟩,⟨keyHash P "Curve",.str "Curve" 305,.ref 84⟩,⟨keyHash P "first_state",.str "first_state" 312,.ref 95⟩,⟨keyHash P "part_at",.str "part_at" 325,.ref 102⟩,⟨keyHash P "digit_at",.str "digit_at" 331,.ref 107⟩,⟨keyHash P "walked",.str "walked" 340,.ref 114⟩,⟨keyHash P "YardError",.str "YardError" 360,.ref 124⟩,⟨keyHash P "OffFloor",.str "OffFloor" 376,.ref 137⟩,⟨keyHash P "TextError",.str "TextError" 401,.ref 156⟩,⟨keyHash P "BadRow",.str "BadRow" 417,.ref 168⟩,⟨keyHash P "CornerTwice",.str "CornerTwice" 433,.ref 180⟩,⟨keyHash P "Unmet",.str "Unmet" 462,.ref 199⟩,⟨keyHash P "LETTERS",.str "LETTERS" 466,.str "abcdefghijklmnopqrstuvwxyz" 465⟩,⟨keyHash P "LONGEST_WORD",.str "LONGEST_WORD" 468,.int 12 467⟩,⟨keyHash P "is_word",.str "is_word" 475,.ref 208⟩,⟨keyHash P "is_made_of",.str "is_made_of" 481,.ref 213⟩,⟨keyHash P "full",.str "full" 493,.ref 220⟩,⟨keyHash P "has_place",.str "has_place" 499,.ref 225⟩,⟨keyHash P "ask_place",.str "ask_place" 508,.ref 232⟩,⟨keyHash P "place_at",.str "place_at" 521,.ref 239⟩,⟨keyHash P "digits_of",.str "digits_of" 532,.ref 246⟩,⟨keyHash P "deeper",.str "deeper" 538,.ref 251⟩,⟨keyHash P "number_at",.str "number_at" 544,.ref 256⟩,⟨keyHash P "next_to",.str "next_to" 550,.ref 261⟩,⟨keyHash P "unmet_at",.str "unmet_at" 568,.ref 268⟩,⟨keyHash P "meeting_of",.str "meeting_of" 574,.ref 273⟩,⟨keyHash P "PROMISES",.str "PROMISES" 581,.ref 274⟩,⟨keyHash P "DIMS",.str "DIMS" 588,.ref 275⟩,⟨keyHash P "curve_of",.str "curve_of" 598,.ref 282⟩,⟨keyHash P "curve_from",.str "curve_from" 612,.ref 289⟩,⟨keyHash P "words_at",.str "words_at" 620,.ref 296⟩,⟨keyHash P "read_head",.str "read_head" 627,.ref 303⟩,⟨keyHash P "read_part",.str "read_part" 639,.ref 310⟩,⟨keyHash P "fitted",.str "fitted" 649,.ref 317⟩,⟨keyHash P "_law_cell_at",.str "_law_cell_at" 659,.ref 324⟩,⟨keyHash P "_law_mix",.str "_law_mix" 668,.ref 331⟩,⟨keyHash P "_law_cut",.str "_law_cut" 677,.ref 338⟩,⟨keyHash P "_law_same",.str "_law_same" 686,.ref 345⟩,⟨keyHash P "_law_turned",.str "_law_turned" 692,.ref 350⟩,⟨keyHash P "_law_after",.str "_law_after" 698,.ref 355⟩,⟨keyHash P "_law_undone",.str "_law_undone" 707,.ref 362⟩,⟨keyHash P "_law_turn",.str "_law_turn" 713,.ref 367⟩,⟨keyHash P "_law_base",.str "_law_base" 722,.ref 374⟩,⟨keyHash P "_law_joined",.str "_law_joined" 728,.ref 379⟩,⟨keyHash P "_law_corners",.str "_law_corners" 734,.ref 384⟩,⟨keyHash P "_law_loose",.str "_law_loose" 746,.ref 391⟩,⟨keyHash P "_law_altered",.str "_law_altered" 761,.ref 398⟩,⟨keyHash P "_law_drawn",.str "_law_drawn" 770,.ref 405⟩,⟨keyHash P "_law_text",.str "_law_text" 776,.ref 410⟩,⟨keyHash P "_law_level",.str "_law_level" 783,.ref 417⟩,⟨keyHash P "_law_number",.str "_law_number" 796,.ref 424⟩,⟨keyHash P "_law_place",.str "_law_place" 802,.ref 429⟩,⟨keyHash P "_law_on",.str "_law_on" 812,.ref 436⟩,⟨keyHash P "_law_undone_both",.str "_law_undone_both" 829,.ref 443⟩,⟨keyHash P "law",.str "law" 843,.ref 450⟩] 73,#[]⟩) ::
 (nat_lit 18,⟨.type "code",none,.fields #[.str "turned" 195,.str "turned" 196,.str "/claim/cut.py" 197,.int 5 0,.int 2 0,.int 0 0,.int 0 0,.int 3 0,.ref 15,.bool true,.int 181 0,.ref 16,.none,.none,.none,.ref 17,.int 198 0,.int 5 0,.str "/claim/cut.py" 199],#[]⟩) ::
 (nat_lit 19,⟨.type "function",none,.func (fnOf "turned" "turned" (zP (top 4)) (zQ (top 4)) (zX (top 4)) (.none) (.none) (.none) (.str "curveyard.turns" 187) none (.ref 18) (.none)),#[]⟩) ::
 (nat_lit 23,⟨.type "code",none,.fields #[.str "still" 201,.str "still" 202,.str "/claim/cut.py" 203,.int 7 0,.int 1 0,.int 0 0,.int 0 0,.int 3 0,.ref 20,.bool true,.int 181 0,.ref 21,.none,.none,.none,.ref 22,.int 204 0,.int 7 0,.str "/claim/cut.py" 205],#[]⟩) ::
 (nat_lit 24,⟨.type "function",none,.func (fnOf "still" "still" (zP (top 5)) (zQ (top 5)) (zX (top 5)) (.none) (.none) (.none) (.str "curveyard.turns" 187) none (.ref 23) (.none)),#[]⟩) ::
 (nat_lit 28,⟨.type "code",none,.fields #[.str "after" 207,.str "after" 208,.str "/claim/cut.py" 209,.int 9 0,.int 2 0,.int 0 0,.int 0 0,.int 3 0,.ref 25,.bool true,.int 181 0,.ref 26,.none,.none,.none,.ref 27,.int 210 0,.int 9 0,.str "/claim/cut.py" 211],#[]⟩) ::
 (nat_lit 29,⟨.type "function",none,.func (fnOf "after" "after" (zP (top 6)) (zQ (top 6)) (zX (top 6)) (.none) (.none) (.none) (.str "curveyard.turns" 187) none (.ref 28) (.none)),#[]⟩) ::
 (nat_lit 35,⟨.type "code",none,.fields #[.str "undone" 213,.str "undone" 214,.str "/claim/cut.py" 215,.int 11 0,.int 1 0,.int 0 0,.int 0 0,.int 3 0,.ref 30,.bool true,.int 181 0,.ref 31,.none,.ref 32,.ref 33,.ref 34,.int 221 0,.int 11 0,.str "/claim/cut.py" 222],#[]⟩) ::
 (nat_lit 36,⟨.type "function",none,.func (fnOf "undone" "undone" (zP (top 7)) (zQ (top 7)) (zX (top 7)) (.none) (.none) (.none) (.str "curveyard.turns" 187) none (.ref 35) (.none)),#[]⟩) ::
 (nat_lit 40,⟨.type "code",none,.fields #[.str "turn_of" 224,.str "turn_of" 225,.str "/claim/cut.py" 226,.int 17 0,.int 2 0,.int 0 0,.int 0 0,.int 3 0,.ref 37,.bool true,.int 181 0,.ref 38,.none,.none,.none,.ref 39,.int 227 0,.int 17 0,.str "/claim/cut.py" 228],#[]⟩) ::
 (nat_lit 41,⟨.type "function",none,.func (fnOf "turn_of" "turn_of" (zP (top 8)) (zQ (top 8)) (zX (top 8)) (.none) (.none) (.none) (.str "curveyard.turns" 187) none (.ref 40) (.none)),#[]⟩) ::
 (nat_lit 45,⟨.type "code",none,.fields #[.str "corner_of" 230,.str "corner_of" 231,.str "/claim/cut.py" 232,.int 25 0,.int 2 0,.int 0 0,.int 0 0,.int 3 0,.ref 42,.bool true,.int 181 0,.ref 43,.none,.none,.none,.ref 44,.int 233 0,.int 25 0,.str "/claim/cut.py" 234],#[]⟩) ::
 (nat_lit 46,⟨.type "function",none,.func (fnOf "corner_of" "corner_of" (zP (top 9)) (zQ (top 9)) (zX (top 9)) (.none) (.none) (.none) (.str "curveyard.turns" 187) none (.ref 45) (.none)),#[]⟩) ::
 (nat_lit 59,⟨.type "code",none,.fields #[.str "__init__" 250,.str "Part.__init__" 251,.str "/claim/cut.py" 252,.int 33 0,.int 4 0,.int 0 0,.int 0 0,.int 3 0,.ref 54,.bool true,.int 181 0,.ref 55,.none,.ref 56,.ref 57,.ref 58,.int 257 0,.int 33 0,.str "/claim/cut.py" 258],#[]⟩) ::
 (nat_lit 60,⟨.type "function",none,.func (fnOf "__init__" "Part.__init__" (zP (vS (top 11) 0)) (zQ (vS (top 11) 0)) (zX (vS (top 11) 0)) (.none) (.none) (.none) (.str "curveyard.curves" 236) none (.ref 59) (.none)),#[]⟩) ::
 (nat_lit 62,⟨.type "dict",none,.dict #[⟨keyHash P "__module__",.str "__module__" 245,.str "curveyard.curves" 236⟩,⟨keyHash P "__firstlineno__",.str "__firstlineno__" 249,.int 31 248⟩,⟨keyHash P "__init__",.str "__init__" 259,.ref 60⟩,⟨keyHash P "__static_attributes__",.str "__static_attributes__" 263,.ref 61⟩,⟨keyHash P "__dict__",.str "__dict__" 265,.ref 64⟩,⟨keyHash P "__weakref__",.str "__weakref__" 267,.ref 65⟩,⟨keyHash P "__doc__",.str "__doc__" 268,.none⟩] 4,#[]⟩) ::
 (nat_lit 63,⟨.type "type",none,.cls { name:="Part",bases:=[.type "object"],mro:=[.ref 63,.type "object"],ns:=62,qualname:="Part",hasDict:=true,slotNames:=[],subclasses:=[],abstract:=false,collection:=none,hasDel:=false },#[none,none,some (.str "Part" 238),some (.str "Part" 246),some (.builtin "object.__new__"),some (.bool true)]⟩) ::
 (nat_lit 64,⟨.type "getset_descriptor",none,.fields #[.str "__dict__" 264,.ref 63,.builtin "function.__dict__",.builtin "function.__dict__#set"],#[]⟩) ::
 (nat_lit 65,⟨.type "getset_descriptor",none,.fields #[.str "__weakref__" 266,.ref 63,.builtin "ExceptionGroup.__weakref__",.none],#[]⟩) ::
 (nat_lit 80,⟨.type "code",none,.fields #[.str "__init__" 283,.str "Curve.__init__" 284,.str "/claim/cut.py" 285,.int 39 0,.int 5 0,.int 0 0,.int 0 0,.int 3 0,.ref 75,.bool true,.int 181 0,.ref 76,.none,.ref 77,.ref 78,.ref 79,.int 291 0,.int 39 0,.str "/claim/cut.py" 292],#[]⟩) ::
 (nat_lit 81,⟨.type "function",none,.func (fnOf "__init__" "Curve.__init__" (zP (vS (top 12) 0)) (zQ (vS (top 12) 0)) (zX (vS (top 12) 0)) (.none) (.none) (.none) (.str "curveyard.curves" 236) none (.ref 80) (.none)),#[]⟩) ::
 (nat_lit 83,⟨.type "dict",none,.dict #[⟨keyHash P "__module__",.str "__module__" 278,.str "curveyard.curves" 236⟩,⟨keyHash P "__firstlineno__",.str "__firstlineno__" 282,.int 37 281⟩,⟨keyHash P "__init__",.str "__init__" 293,.ref 81⟩,⟨keyHash P "__static_attributes__",.str "__static_attributes__" 298,.ref 82⟩,⟨keyHash P "__dict__",.str "__dict__" 300,.ref 85⟩,⟨keyHash P "__weakref__",.str "__weakref__" 302,.ref 86⟩,⟨keyHash P "__doc__",.str "__doc__" 303,.none⟩] 4,#[]⟩) ::
 (nat_lit 84,⟨.type "type",none,.cls { name:="Curve",bases:=[.type "object"],mro:=[.ref 84,.type "object"],ns:=83,qualname:="Curve",hasDict:=true,slotNames:=[],subclasses:=[],abstract:=false,collection:=none,hasDel:=false },#[none,none,some (.str "Curve" 271),some (.str "Curve" 279),some (.builtin "object.__new__"),some (.bool true)]⟩) ::
 (nat_lit 85,⟨.type "getset_descriptor",none,.fields #[.str "__dict__" 299,.ref 84,.builtin "function.__dict__",.builtin "function.__dict__#set"],#[]⟩) ::
 (nat_lit 86,⟨.type "getset_descriptor",none,.fields #[.str "__weakref__" 301,.ref 84,.builtin "ExceptionGroup.__weakref__",.none],#[]⟩) ::
 (nat_lit 94,⟨.type "code",none,.fields #[.str "first_state" 306,.str "first_state" 307,.str "/claim/cut.py" 308,.int 44 0,.int 1 0,.int 0 0,.int 0 0,.int 3 0,.ref 89,.bool true,.int 181 0,.ref 90,.none,.ref 91,.ref 92,.ref 93,.int 310 0,.int 44 0,.str "/claim/cut.py" 311],#[]⟩) ::
 (nat_lit 95,⟨.type "function",none,.func (fnOf "first_state" "first_state" (zP (top 13)) (zQ (top 13)) (zX (top 13)) (.none) (.none) (.none) (.str "curveyard.curves" 236) none (.ref 94) (.none)),#[]⟩) ::
 (nat_lit 101,⟨.type "code",none,.fields #[.str "part_at" 313,.str "part_at" 314,.str "/claim/cut.py" 315,.int 46 0,.int 3 0,.int 0 0,.int 0 0,.int 3 0,.ref 96,.bool true,.int 181 0,.ref 97,.none,.ref 98,.ref 99,.ref 100,.int 323 0,.int 46 0,.str "/claim/cut.py" 324],#[]⟩) ::
 (nat_lit 102,⟨.type "function",none,.func (fnOf "part_at" "part_at" (zP (top 14)) (zQ (top 14)) (zX (top 14)) (.none) (.none) (.none) (.str "curveyard.curves" 236) none (.ref 101) (.none)),#[]⟩) ::
 (nat_lit 106,⟨.type "code",none,.fields #[.str "digit_at" 326,.str "digit_at" 327,.str "/claim/cut.py" 328,.int 51 0,.int 3 0,.int 0 0,.int 0 0,.int 3 0,.ref 103,.bool true,.int 181 0,.ref 104,.none,.none,.none,.ref 105,.int 329 0,.int 51 0,.str "/claim/cut.py" 330],#[]⟩) ::
 (nat_lit 107,⟨.type "function",none,.func (fnOf "digit_at" "digit_at" (zP (top 15)) (zQ (top 15)) (zX (top 15)) (.none) (.none) (.none) (.str "curveyard.curves" 236) none (.ref 106) (.none)),#[]⟩) ::
 (nat_lit 113,⟨.type "code",none,.fields #[.str "walked" 332,.str "walked" 333,.str "/claim/cut.py" 334,.int 56 0,.int 3 0,.int 0 0,.int 0 0,.int 3 0,.ref 108,.bool true,.int 181 0,.ref 109,.none,.ref 110,.ref 111,.ref 112,.int 338 0,.int 56 0,.str "/claim/cut.py" 339],#[]⟩) ::
 (nat_lit 114,⟨.type "function",none,.func (fnOf "walked" "walked" (zP (top 16)) (zQ (top 16)) (zX (top 16)) (.none) (.none) (.none) (.str "curveyard.curves" 236) none (.ref 113) (.none)),#[]⟩) ::
 (nat_lit 123,⟨.type "dict",none,.dict #[⟨keyHash P "__module__",.str "__module__" 350,.str "curveyard.errors" 341⟩,⟨keyHash P "__firstlineno__",.str "__firstlineno__" 354,.int 59 353⟩,⟨keyHash P "__static_attributes__",.str "__static_attributes__" 355,.ref 122⟩,⟨keyHash P "__weakref__",.str "__weakref__" 357,.ref 125⟩,⟨keyHash P "__doc__",.str "__doc__" 358,.none⟩] 3,#[]⟩) ::
 (nat_lit 124,⟨.type "type",none,.cls { name:="YardError",bases:=[.type "ValueError"],mro:=[.ref 124,.type "ValueError",.type "Exception",.type "BaseException",.type "object"],ns:=123,qualname:="YardError",hasDict:=true,slotNames:=[],subclasses:=[.ref 137,.ref 156,.ref 199],abstract:=false,collection:=none,hasDel:=false },#[some (.ref 115),none,some (.str "YardError" 343),some (.str "YardError" 351),some (.builtin "ValueError.__new__"),some (.bool true)]⟩) ::
 (nat_lit 125,⟨.type "getset_descriptor",none,.fields #[.str "__weakref__" 356,.ref 124,.builtin "ExceptionGroup.__weakref__",.none],#[]⟩) ::
 (nat_lit 136,⟨.type "dict",none,.dict #[⟨keyHash P "__module__",.str "__module__" 368,.str "curveyard.errors" 341⟩,⟨keyHash P "__firstlineno__",.str "__firstlineno__" 372,.int 61 371⟩,⟨keyHash P "__static_attributes__",.str "__static_attributes__" 373,.ref 135⟩,⟨keyHash P "__doc__",.str "__doc__" 374,.none⟩] 2,#[]⟩) ::
 (nat_lit 137,⟨.type "type",none,.cls { name:="OffFloor",bases:=[.ref 124],mro:=[.ref 137,.ref 124,.type "ValueError",.type "Exception",.type "BaseException",.type "object"],ns:=136,qualname:="OffFloor",hasDict:=true,slotNames:=[],subclasses:=[],abstract:=false,collection:=none,hasDel:=false },#[some (.ref 128),none,some (.str "OffFloor" 361),some (.str "OffFloor" 369),some (.builtin "ValueError.__new__"),some (.bool true)]⟩) ::
 (nat_lit 152,⟨.type "code",none,.fields #[.str "__init__" 389,.str "TextError.__init__" 390,.str "/claim/cut.py" 391,.int 65 0,.int 2 0,.int 0 0,.int 0 0,.int 3 0,.ref 147,.bool true,.int 181 0,.ref 148,.none,.ref 149,.ref 150,.ref 151,.int 394 0,.int 65 0,.str "/claim/cut.py" 395],#[]⟩) ::
 (nat_lit 153,⟨.type "function",none,.func (fnOf "__init__" "TextError.__init__" (zP (vS (top 20) 0)) (zQ (vS (top 20) 0)) (zX (vS (top 20) 0)) (.none) (.none) (.none) (.str "curveyard.errors" 341) none (.ref 152) (.none)),#[]⟩) ::
 (nat_lit 155,⟨.type "dict",none,.dict #[⟨keyHash P "__module__",.str "__module__" 384,.str "curveyard.errors" 341⟩,⟨keyHash P "__firstlineno__",.str "__firstlineno__" 388,.int 63 387⟩,⟨keyHash P "__init__",.str "__init__" 396,.ref 153⟩,⟨keyHash P "__static_attributes__",.str "__static_attributes__" 398,.ref 154⟩,⟨keyHash P "__doc__",.str "__doc__" 399,.none⟩] 2,#[]⟩) ::
 (nat_lit 156,⟨.type "type",none,.cls { name:="TextError",bases:=[.ref 124],mro:=[.ref 156,.ref 124,.type "ValueError",.type "Exception",.type "BaseException",.type "object"],ns:=155,qualname:="TextError",hasDict:=true,slotNames:=[],subclasses:=[.ref 168,.ref 180],abstract:=false,collection:=none,hasDel:=false },#[some (.ref 140),none,some (.str "TextError" 377),some (.str "TextError" 385),some (.builtin "ValueError.__new__"),some (.bool true)]⟩) ::
 (nat_lit 167,⟨.type "dict",none,.dict #[⟨keyHash P "__module__",.str "__module__" 409,.str "curveyard.errors" 341⟩,⟨keyHash P "__firstlineno__",.str "__firstlineno__" 413,.int 67 412⟩,⟨keyHash P "__static_attributes__",.str "__static_attributes__" 414,.ref 166⟩,⟨keyHash P "__doc__",.str "__doc__" 415,.none⟩] 2,#[]⟩) ::
 (nat_lit 168,⟨.type "type",none,.cls { name:="BadRow",bases:=[.ref 156],mro:=[.ref 168,.ref 156,.ref 124,.type "ValueError",.type "Exception",.type "BaseException",.type "object"],ns:=167,qualname:="BadRow",hasDict:=true,slotNames:=[],subclasses:=[],abstract:=false,collection:=none,hasDel:=false },#[some (.ref 159),none,some (.str "BadRow" 402),some (.str "BadRow" 410),some (.builtin "ValueError.__new__"),some (.bool true)]⟩) ::
 (nat_lit 179,⟨.type "dict",none,.dict #[⟨keyHash P "__module__",.str "__module__" 425,.str "curveyard.errors" 341⟩,⟨keyHash P "__firstlineno__",.str "__firstlineno__" 429,.int 69 428⟩,⟨keyHash P "__static_attributes__",.str "__static_attributes__" 430,.ref 178⟩,⟨keyHash P "__doc__",.str "__doc__" 431,.none⟩] 2,#[]⟩) ::
 (nat_lit 180,⟨.type "type",none,.cls { name:="CornerTwice",bases:=[.ref 156],mro:=[.ref 180,.ref 156,.ref 124,.type "ValueError",.type "Exception",.type "BaseException",.type "object"],ns:=179,qualname:="CornerTwice",hasDict:=true,slotNames:=[],subclasses:=[],abstract:=false,collection:=none,hasDel:=false },#[some (.ref 171),none,some (.str "CornerTwice" 418),some (.str "CornerTwice" 426),some (.builtin "ValueError.__new__"),some (.bool true)]⟩) ::
 (nat_lit 195,⟨.type "code",none,.fields #[.str "__init__" 446,.str "Unmet.__init__" 447,.str "/claim/cut.py" 448,.int 73 0,.int 4 0,.int 0 0,.int 0 0,.int 3 0,.ref 190,.bool true,.int 181 0,.ref 191,.none,.ref 192,.ref 193,.ref 194,.int 453 0,.int 73 0,.str "/claim/cut.py" 454],#[]⟩) ::
 (nat_lit 196,⟨.type "function",none,.func (fnOf "__init__" "Unmet.__init__" (zP (vS (top 23) 0)) (zQ (vS (top 23) 0)) (zX (vS (top 23) 0)) (.none) (.none) (.none) (.str "curveyard.errors" 341) none (.ref 195) (.none)),#[]⟩) ::
 (nat_lit 198,⟨.type "dict",none,.dict #[⟨keyHash P "__module__",.str "__module__" 441,.str "curveyard.errors" 341⟩,⟨keyHash P "__firstlineno__",.str "__firstlineno__" 445,.int 71 444⟩,⟨keyHash P "__init__",.str "__init__" 455,.ref 196⟩,⟨keyHash P "__static_attributes__",.str "__static_attributes__" 459,.ref 197⟩,⟨keyHash P "__doc__",.str "__doc__" 460,.none⟩] 2,#[]⟩) ::
 (nat_lit 199,⟨.type "type",none,.cls { name:="Unmet",bases:=[.ref 124],mro:=[.ref 199,.ref 124,.type "ValueError",.type "Exception",.type "BaseException",.type "object"],ns:=198,qualname:="Unmet",hasDict:=true,slotNames:=[],subclasses:=[],abstract:=false,collection:=none,hasDel:=false },#[some (.ref 183),none,some (.str "Unmet" 434),some (.str "Unmet" 442),some (.builtin "ValueError.__new__"),some (.bool true)]⟩) ::
 (nat_lit 207,⟨.type "code",none,.fields #[.str "is_word" 469,.str "is_word" 470,.str "/claim/cut.py" 471,.int 80 0,.int 1 0,.int 0 0,.int 0 0,.int 3 0,.ref 202,.bool true,.int 181 0,.ref 203,.none,.ref 204,.ref 205,.ref 206,.int 473 0,.int 80 0,.str "/claim/cut.py" 474],#[]⟩) ::
 (nat_lit 208,⟨.type "function",none,.func (fnOf "is_word" "is_word" (zP (top 27)) (zQ (top 27)) (zX (top 27)) (.none) (.none) (.none) (.str "curveyard.figures" 463) none (.ref 207) (.none)),#[]⟩) ::
 (nat_lit 212,⟨.type "code",none,.fields #[.str "is_made_of" 476,.str "is_made_of" 477,.str "/claim/cut.py" 478,.int 82 0,.int 3 0,.int 0 0,.int 0 0,.int 3 0,.ref 209,.bool true,.int 181 0,.ref 210,.none,.none,.none,.ref 211,.int 479 0,.int 82 0,.str "/claim/cut.py" 480],#[]⟩) ::
 (nat_lit 213,⟨.type "function",none,.func (fnOf "is_made_of" "is_made_of" (zP (top 28)) (zQ (top 28)) (zX (top 28)) (.none) (.none) (.none) (.str "curveyard.figures" 463) none (.ref 212) (.none)),#[]⟩) ::
 (nat_lit 219,⟨.type "code",none,.fields #[.str "full" 484,.str "full" 485,.str "/claim/cut.py" 486,.int 85 0,.int 2 0,.int 0 0,.int 0 0,.int 3 0,.ref 214,.bool true,.int 181 0,.ref 215,.none,.ref 216,.ref 217,.ref 218,.int 491 0,.int 85 0,.str "/claim/cut.py" 492],#[]⟩) ::
 (nat_lit 220,⟨.type "function",none,.func (fnOf "full" "full" (zP (top 30)) (zQ (top 30)) (zX (top 30)) (.none) (.none) (.none) (.str "curveyard.numbering" 482) none (.ref 219) (.none)),#[]⟩) ::
 (nat_lit 224,⟨.type "code",none,.fields #[.str "has_place" 494,.str "has_place" 495,.str "/claim/cut.py" 496,.int 90 0,.int 3 0,.int 0 0,.int 0 0,.int 3 0,.ref 221,.bool true,.int 181 0,.ref 222,.none,.none,.none,.ref 223,.int 497 0,.int 90 0,.str "/claim/cut.py" 498],#[]⟩) ::
 (nat_lit 225,⟨.type "function",none,.func (fnOf "has_place" "has_place" (zP (top 31)) (zQ (top 31)) (zX (top 31)) (.none) (.none) (.none) (.str "curveyard.numbering" 482) none (.ref 224) (.none)),#[]⟩) ::
 (nat_lit 231,⟨.type "code",none,.fields #[.str "ask_place" 500,.str "ask_place" 501,.str "/claim/cut.py" 502,.int 93 0,.int 3 0,.int 0 0,.int 0 0,.int 3 0,.ref 226,.bool true,.int 181 0,.ref 227,.none,.ref 228,.ref 229,.ref 230,.int 506 0,.int 93 0,.str "/claim/cut.py" 507],#[]⟩) ::
 (nat_lit 232,⟨.type "function",none,.func (fnOf "ask_place" "ask_place" (zP (top 32)) (zQ (top 32)) (zX (top 32)) (.none) (.none) (.none) (.str "curveyard.numbering" 482) none (.ref 231) (.none)),#[]⟩) ::
 (nat_lit 238,⟨.type "code",none,.fields #[.str "place_at" 509,.str "place_at" 510,.str "/claim/cut.py" 511,.int 96 0,.int 3 0,.int 0 0,.int 0 0,.int 3 0,.ref 233,.bool true,.int 181 0,.ref 234,.none,.ref 235,.ref 236,.ref 237,.int 519 0,.int 96 0,.str "/claim/cut.py" 520],#[]⟩) ::
 (nat_lit 239,⟨.type "function",none,.func (fnOf "place_at" "place_at" (zP (top 33)) (zQ (top 33)) (zX (top 33)) (.none) (.none) (.none) (.str "curveyard.numbering" 482) none (.ref 238) (.none)),#[]⟩) ::
 (nat_lit 245,⟨.type "code",none,.fields #[.str "digits_of" 522,.str "digits_of" 523,.str "/claim/cut.py" 524,.int 105 0,.int 3 0,.int 0 0,.int 0 0,.int 3 0,.ref 240,.bool true,.int 181 0,.ref 241,.none,.ref 242,.ref 243,.ref 244,.int 530 0,.int 105 0,.str "/claim/cut.py" 531],#[]⟩) ::
 (nat_lit 246,⟨.type "function",none,.func (fnOf "digits_of" "digits_of" (zP (top 34)) (zQ (top 34)) (zX (top 34)) (.none) (.none) (.none) (.str "curveyard.numbering" 482) none (.ref 245) (.none)),#[]⟩) ::
 (nat_lit 250,⟨.type "code",none,.fields #[.str "deeper" 533,.str "deeper" 534,.str "/claim/cut.py" 535,.int 111 0,.int 2 0,.int 0 0,.int 0 0,.int 3 0,.ref 247,.bool true,.int 181 0,.ref 248,.none,.none,.none,.ref 249,.int 536 0,.int 111 0,.str "/claim/cut.py" 537],#[]⟩) ::
 (nat_lit 251,⟨.type "function",none,.func (fnOf "deeper" "deeper" (zP (top 35)) (zQ (top 35)) (zX (top 35)) (.none) (.none) (.none) (.str "curveyard.numbering" 482) none (.ref 250) (.none)),#[]⟩) ::
 (nat_lit 255,⟨.type "code",none,.fields #[.str "number_at" 539,.str "number_at" 540,.str "/claim/cut.py" 541,.int 113 0,.int 3 0,.int 0 0,.int 0 0,.int 3 0,.ref 252,.bool true,.int 181 0,.ref 253,.none,.none,.none,.ref 254,.int 542 0,.int 113 0,.str "/claim/cut.py" 543],#[]⟩) ::
 (nat_lit 256,⟨.type "function",none,.func (fnOf "number_at" "number_at" (zP (top 36)) (zQ (top 36)) (zX (top 36)) (.none) (.none) (.none) (.str "curveyard.numbering" 482) none (.ref 255) (.none)),#[]⟩) ::
 (nat_lit 260,⟨.type "code",none,.fields #[.str "next_to" 545,.str "next_to" 546,.str "/claim/cut.py" 547,.int 125 0,.int 2 0,.int 0 0,.int 0 0,.int 3 0,.ref 257,.bool true,.int 181 0,.ref 258,.none,.none,.none,.ref 259,.int 548 0,.int 125 0,.str "/claim/cut.py" 549],#[]⟩) ::
 (nat_lit 261,⟨.type "function",none,.func (fnOf "next_to" "next_to" (zP (top 37)) (zQ (top 37)) (zX (top 37)) (.none) (.none) (.none) (.str "curveyard.numbering" 482) none (.ref 260) (.none)),#[]⟩) ::
 (nat_lit 267,⟨.type "code",none,.fields #[.str "unmet_at" 553,.str "unmet_at" 554,.str "/claim/cut.py" 555,.int 128 0,.int 2 0,.int 0 0,.int 0 0,.int 3 0,.ref 262,.bool true,.int 181 0,.ref 263,.none,.ref 264,.ref 265,.ref 266,.int 566 0,.int 128 0,.str "/claim/cut.py" 567],#[]⟩) ::
 (nat_lit 268,⟨.type "function",none,.func (fnOf "unmet_at" "unmet_at" (zP (top 39)) (zQ (top 39)) (zX (top 39)) (.none) (.none) (.none) (.str "curveyard.fitting" 551) none (.ref 267) (.none)),#[]⟩) ::
 (nat_lit 272,⟨.type "code",none,.fields #[.str "meeting_of" 569,.str "meeting_of" 570,.str "/claim/cut.py" 571,.int 144 0,.int 1 0,.int 0 0,.int 0 0,.int 3 0,.ref 269,.bool true,.int 181 0,.ref 270,.none,.none,.none,.ref 271,.int 572 0,.int 144 0,.str "/claim/cut.py" 573],#[]⟩) ::
 (nat_lit 273,⟨.type "function",none,.func (fnOf "meeting_of" "meeting_of" (zP (top 40)) (zQ (top 40)) (zX (top 40)) (.none) (.none) (.none) (.str "curveyard.fitting" 551) none (.ref 272) (.none)),#[]⟩) ::
 (nat_lit 274,⟨.type "dict",none,.dict #[⟨keyHash P "joined",.str "joined" 577,.bool true⟩,⟨keyHash P "loose",.str "loose" 578,.bool false⟩] 2,#[]⟩) ::
 (nat_lit 275,⟨.type "dict",none,.dict #[⟨keyHash P "2",.str "2" 582,.int 2 583⟩,⟨keyHash P "3",.str "3" 584,.int 3 585⟩] 2,#[]⟩) ::
 (nat_lit 281,⟨.type "code",none,.fields #[.str "curve_of" 589,.str "curve_of" 590,.str "/claim/cut.py" 591,.int 153 0,.int 1 0,.int 0 0,.int 0 0,.int 3 0,.ref 276,.bool true,.int 181 0,.ref 277,.none,.ref 278,.ref 279,.ref 280,.int 596 0,.int 153 0,.str "/claim/cut.py" 597],#[]⟩) ::
 (nat_lit 282,⟨.type "function",none,.func (fnOf "curve_of" "curve_of" (zP (top 44)) (zQ (top 44)) (zX (top 44)) (.none) (.none) (.none) (.str "curveyard.curvetext" 575) none (.ref 281) (.none)),#[]⟩) ::
 (nat_lit 288,⟨.type "code",none,.fields #[.str "curve_from" 599,.str "curve_from" 600,.str "/claim/cut.py" 601,.int 160 0,.int 1 0,.int 0 0,.int 0 0,.int 3 0,.ref 283,.bool true,.int 181 0,.ref 284,.none,.ref 285,.ref 286,.ref 287,.int 610 0,.int 160 0,.str "/claim/cut.py" 611],#[]⟩) ::
 (nat_lit 289,⟨.type "function",none,.func (fnOf "curve_from" "curve_from" (zP (top 45)) (zQ (top 45)) (zX (top 45)) (.none) (.none) (.none) (.str "curveyard.curvetext" 575) none (.ref 288) (.none)),#[]⟩) ::
 (nat_lit 295,⟨.type "code",none,.fields #[.str "words_at" 613,.str "words_at" 614,.str "/claim/cut.py" 615,.int 171 0,.int 2 0,.int 0 0,.int 0 0,.int 3 0,.ref 290,.bool true,.int 181 0,.ref 291,.none,.ref 292,.ref 293,.ref 294,.int 618 0,.int 171 0,.str "/claim/cut.py" 619],#[]⟩) ::
 (nat_lit 296,⟨.type "function",none,.func (fnOf "words_at" "words_at" (zP (top 46)) (zQ (top 46)) (zX (top 46)) (.none) (.none) (.none) (.str "curveyard.curvetext" 575) none (.ref 295) (.none)),#[]⟩) ::
 (nat_lit 302,⟨.type "code",none,.fields #[.str "read_head" 621,.str "read_head" 622,.str "/claim/cut.py" 623,.int 175 0,.int 1 0,.int 0 0,.int 0 0,.int 3 0,.ref 297,.bool true,.int 181 0,.ref 298,.none,.ref 299,.ref 300,.ref 301,.int 625 0,.int 175 0,.str "/claim/cut.py" 626],#[]⟩) ::
 (nat_lit 303,⟨.type "function",none,.func (fnOf "read_head" "read_head" (zP (top 47)) (zQ (top 47)) (zX (top 47)) (.none) (.none) (.none) (.str "curveyard.curvetext" 575) none (.ref 302) (.none)),#[]⟩) ::
 (nat_lit 309,⟨.type "code",none,.fields #[.str "read_part" 628,.str "read_part" 629,.str "/claim/cut.py" 630,.int 181 0,.int 3 0,.int 0 0,.int 0 0,.int 3 0,.ref 304,.bool true,.int 181 0,.ref 305,.none,.ref 306,.ref 307,.ref 308,.int 637 0,.int 181 0,.str "/claim/cut.py" 638],#[]⟩) ::
 (nat_lit 310,⟨.type "function",none,.func (fnOf "read_part" "read_part" (zP (top 48)) (zQ (top 48)) (zX (top 48)) (.none) (.none) (.none) (.str "curveyard.curvetext" 575) none (.ref 309) (.none)),#[]⟩) ::
 (nat_lit 316,⟨.type "code",none,.fields #[.str "fitted" 640,.str "fitted" 641,.str "/claim/cut.py" 642,.int 190 0,.int 1 0,.int 0 0,.int 0 0,.int 3 0,.ref 311,.bool true,.int 181 0,.ref 312,.none,.ref 313,.ref 314,.ref 315,.int 647 0,.int 190 0,.str "/claim/cut.py" 648],#[]⟩) ::
 (nat_lit 317,⟨.type "function",none,.func (fnOf "fitted" "fitted" (zP (top 49)) (zQ (top 49)) (zX (top 49)) (.none) (.none) (.none) (.str "curveyard.curvetext" 575) none (.ref 316) (.none)),#[]⟩) ::
 (nat_lit 323,⟨.type "code",none,.fields #[.str "_law_cell_at" 652,.str "_law_cell_at" 653,.str "/claim/cut.py" 654,.int 197 0,.int 2 0,.int 0 0,.int 0 0,.int 3 0,.ref 318,.bool true,.int 181 0,.ref 319,.none,.ref 320,.ref 321,.ref 322,.int 657 0,.int 197 0,.str "/claim/cut.py" 658],#[]⟩) ::
 (nat_lit 324,⟨.type "function",none,.func (fnOf "_law_cell_at" "_law_cell_at" (zP (top 51)) (zQ (top 51)) (zX (top 51)) (.none) (.none) (.none) (.str "law_curveyard_k50_whole_number_and_place" 650) none (.ref 323) (.none)),#[]⟩) ::
 (nat_lit 330,⟨.type "code",none,.fields #[.str "_law_mix" 660,.str "_law_mix" 661,.str "/claim/cut.py" 662,.int 201 0,.int 2 0,.int 0 0,.int 0 0,.int 3 0,.ref 325,.bool true,.int 181 0,.ref 326,.none,.ref 327,.ref 328,.ref 329,.int 666 0,.int 201 0,.str "/claim/cut.py" 667],#[]⟩) ::
 (nat_lit 331,⟨.type "function",none,.func (fnOf "_law_mix" "_law_mix" (zP (top 52)) (zQ (top 52)) (zX (top 52)) (.none) (.none) (.none) (.str "law_curveyard_k50_whole_number_and_place" 650) none (.ref 330) (.none)),#[]⟩) ::
 (nat_lit 337,⟨.type "code",none,.fields #[.str "_law_cut" 669,.str "_law_cut" 670,.str "/claim/cut.py" 671,.int 204 0,.int 3 0,.int 0 0,.int 0 0,.int 3 0,.ref 332,.bool true,.int 181 0,.ref 333,.none,.ref 334,.ref 335,.ref 336,.int 675 0,.int 204 0,.str "/claim/cut.py" 676],#[]⟩) ::
 (nat_lit 338,⟨.type "function",none,.func (fnOf "_law_cut" "_law_cut" (zP (top 53)) (zQ (top 53)) (zX (top 53)) (.none) (.none) (.none) (.str "law_curveyard_k50_whole_number_and_place" 650) none (.ref 337) (.none)),#[]⟩) ::
 (nat_lit 344,⟨.type "code",none,.fields #[.str "_law_same" 678,.str "_law_same" 679,.str "/claim/cut.py" 680,.int 208 0,.int 2 0,.int 0 0,.int 0 0,.int 3 0,.ref 339,.bool true,.int 181 0,.ref 340,.none,.ref 341,.ref 342,.ref 343,.int 684 0,.int 208 0,.str "/claim/cut.py" 685],#[]⟩) ::
 (nat_lit 345,⟨.type "function",none,.func (fnOf "_law_same" "_law_same" (zP (top 54)) (zQ (top 54)) (zX (top 54)) (.none) (.none) (.none) (.str "law_curveyard_k50_whole_number_and_place" 650) none (.ref 344) (.none)),#[]⟩) ::
 (nat_lit 349,⟨.type "code",none,.fields #[.str "_law_turned" 687,.str "_law_turned" 688,.str "/claim/cut.py" 689,.int 229 0,.int 2 0,.int 0 0,.int 0 0,.int 3 0,.ref 346,.bool true,.int 181 0,.ref 347,.none,.none,.none,.ref 348,.int 690 0,.int 229 0,.str "/claim/cut.py" 691],#[]⟩) ::
 (nat_lit 350,⟨.type "function",none,.func (fnOf "_law_turned" "_law_turned" (zP (top 55)) (zQ (top 55)) (zX (top 55)) (.none) (.none) (.none) (.str "law_curveyard_k50_whole_number_and_place" 650) none (.ref 349) (.none)),#[]⟩) ::
 (nat_lit 354,⟨.type "code",none,.fields #[.str "_law_after" 693,.str "_law_after" 694,.str "/claim/cut.py" 695,.int 231 0,.int 2 0,.int 0 0,.int 0 0,.int 3 0,.ref 351,.bool true,.int 181 0,.ref 352,.none,.none,.none,.ref 353,.int 696 0,.int 231 0,.str "/claim/cut.py" 697],#[]⟩) ::
 (nat_lit 355,⟨.type "function",none,.func (fnOf "_law_after" "_law_after" (zP (top 56)) (zQ (top 56)) (zX (top 56)) (.none) (.none) (.none) (.str "law_curveyard_k50_whole_number_and_place" 650) none (.ref 354) (.none)),#[]⟩) ::
 (nat_lit 361,⟨.type "code",none,.fields #[.str "_law_undone" 699,.str "_law_undone" 700,.str "/claim/cut.py" 701,.int 233 0,.int 1 0,.int 0 0,.int 0 0,.int 3 0,.ref 356,.bool true,.int 181 0,.ref 357,.none,.ref 358,.ref 359,.ref 360,.int 705 0,.int 233 0,.str "/claim/cut.py" 706],#[]⟩) ::
 (nat_lit 362,⟨.type "function",none,.func (fnOf "_law_undone" "_law_undone" (zP (top 57)) (zQ (top 57)) (zX (top 57)) (.none) (.none) (.none) (.str "law_curveyard_k50_whole_number_and_place" 650) none (.ref 361) (.none)),#[]⟩) ::
 (nat_lit 366,⟨.type "code",none,.fields #[.str "_law_turn" 708,.str "_law_turn" 709,.str "/claim/cut.py" 710,.int 238 0,.int 2 0,.int 0 0,.int 0 0,.int 3 0,.ref 363,.bool true,.int 181 0,.ref 364,.none,.none,.none,.ref 365,.int 711 0,.int 238 0,.str "/claim/cut.py" 712],#[]⟩) ::
 (nat_lit 367,⟨.type "function",none,.func (fnOf "_law_turn" "_law_turn" (zP (top 58)) (zQ (top 58)) (zX (top 58)) (.none) (.none) (.none) (.str "law_curveyard_k50_whole_number_and_place" 650) none (.ref 366) (.none)),#[]⟩) ::
 (nat_lit 373,⟨.type "code",none,.fields #[.str "_law_base" 714,.str "_law_base" 715,.str "/claim/cut.py" 716,.int 245 0,.int 1 0,.int 0 0,.int 0 0,.int 3 0,.ref 368,.bool true,.int 181 0,.ref 369,.none,.ref 370,.ref 371,.ref 372,.int 720 0,.int 245 0,.str "/claim/cut.py" 721],#[]⟩) ::
 (nat_lit 374,⟨.type "function",none,.func (fnOf "_law_base" "_law_base" (zP (top 59)) (zQ (top 59)) (zX (top 59)) (.none) (.none) (.none) (.str "law_curveyard_k50_whole_number_and_place" 650) none (.ref 373) (.none)),#[]⟩) ::
 (nat_lit 378,⟨.type "code",none,.fields #[.str "_law_joined" 723,.str "_law_joined" 724,.str "/claim/cut.py" 725,.int 255 0,.int 2 0,.int 0 0,.int 0 0,.int 3 0,.ref 375,.bool true,.int 181 0,.ref 376,.none,.none,.none,.ref 377,.int 726 0,.int 255 0,.str "/claim/cut.py" 727],#[]⟩) ::
 (nat_lit 379,⟨.type "function",none,.func (fnOf "_law_joined" "_law_joined" (zP (top 60)) (zQ (top 60)) (zX (top 60)) (.none) (.none) (.none) (.str "law_curveyard_k50_whole_number_and_place" 650) none (.ref 378) (.none)),#[]⟩) ::
 (nat_lit 383,⟨.type "code",none,.fields #[.str "_law_corners" 729,.str "_law_corners" 730,.str "/claim/cut.py" 731,.int 271 0,.int 1 0,.int 0 0,.int 0 0,.int 3 0,.ref 380,.bool true,.int 181 0,.ref 381,.none,.none,.none,.ref 382,.int 732 0,.int 271 0,.str "/claim/cut.py" 733],#[]⟩) ::
 (nat_lit 384,⟨.type "function",none,.func (fnOf "_law_corners" "_law_corners" (zP (top 61)) (zQ (top 61)) (zX (top 61)) (.none) (.none) (.none) (.str "law_curveyard_k50_whole_number_and_place" 650) none (.ref 383) (.none)),#[]⟩) ::
 (nat_lit 390,⟨.type "code",none,.fields #[.str "_law_loose" 735,.str "_law_loose" 736,.str "/claim/cut.py" 737,.int 276 0,.int 2 0,.int 0 0,.int 0 0,.int 3 0,.ref 385,.bool true,.int 181 0,.ref 386,.none,.ref 387,.ref 388,.ref 389,.int 744 0,.int 276 0,.str "/claim/cut.py" 745],#[]⟩) ::
 (nat_lit 391,⟨.type "function",none,.func (fnOf "_law_loose" "_law_loose" (zP (top 62)) (zQ (top 62)) (zX (top 62)) (.none) (.none) (.none) (.str "law_curveyard_k50_whole_number_and_place" 650) none (.ref 390) (.none)),#[]⟩) ::
 (nat_lit 397,⟨.type "code",none,.fields #[.str "_law_altered" 747,.str "_law_altered" 748,.str "/claim/cut.py" 749,.int 284 0,.int 2 0,.int 0 0,.int 0 0,.int 3 0,.ref 392,.bool true,.int 181 0,.ref 393,.none,.ref 394,.ref 395,.ref 396,.int 759 0,.int 284 0,.str "/claim/cut.py" 760],#[]⟩) ::
 (nat_lit 398,⟨.type "function",none,.func (fnOf "_law_altered" "_law_altered" (zP (top 63)) (zQ (top 63)) (zX (top 63)) (.none) (.none) (.none) (.str "law_curveyard_k50_whole_number_and_place" 650) none (.ref 397) (.none)),#[]⟩) ::
 (nat_lit 404,⟨.type "code",none,.fields #[.str "_law_drawn" 762,.str "_law_drawn" 763,.str "/claim/cut.py" 764,.int 295 0,.int 2 0,.int 0 0,.int 0 0,.int 3 0,.ref 399,.bool true,.int 181 0,.ref 400,.none,.ref 401,.ref 402,.ref 403,.int 768 0,.int 295 0,.str "/claim/cut.py" 769],#[]⟩) ::
 (nat_lit 405,⟨.type "function",none,.func (fnOf "_law_drawn" "_law_drawn" (zP (top 64)) (zQ (top 64)) (zX (top 64)) (.none) (.none) (.none) (.str "law_curveyard_k50_whole_number_and_place" 650) none (.ref 404) (.none)),#[]⟩) ::
 (nat_lit 409,⟨.type "code",none,.fields #[.str "_law_text" 771,.str "_law_text" 772,.str "/claim/cut.py" 773,.int 302 0,.int 3 0,.int 0 0,.int 0 0,.int 3 0,.ref 406,.bool true,.int 181 0,.ref 407,.none,.none,.none,.ref 408,.int 774 0,.int 302 0,.str "/claim/cut.py" 775],#[]⟩) ::
 (nat_lit 410,⟨.type "function",none,.func (fnOf "_law_text" "_law_text" (zP (top 65)) (zQ (top 65)) (zX (top 65)) (.none) (.none) (.none) (.str "law_curveyard_k50_whole_number_and_place" 650) none (.ref 409) (.none)),#[]⟩) ::
 (nat_lit 416,⟨.type "code",none,.fields #[.str "_law_level" 777,.str "_law_level" 778,.str "/claim/cut.py" 779,.int 311 0,.int 1 0,.int 0 0,.int 0 0,.int 3 0,.ref 411,.bool true,.int 181 0,.ref 412,.none,.ref 413,.ref 414,.ref 415,.int 781 0,.int 311 0,.str "/claim/cut.py" 782],#[]⟩) ::
 (nat_lit 417,⟨.type "function",none,.func (fnOf "_law_level" "_law_level" (zP (top 66)) (zQ (top 66)) (zX (top 66)) (.none) (.none) (.none) (.str "law_curveyard_k50_whole_number_and_place" 650) none (.ref 416) (.none)),#[]⟩) ::
 (nat_lit 423,⟨.type "code",none,.fields #[.str "_law_number" 784,.str "_law_number" 785,.str "/claim/cut.py" 786,.int 315 0,.int 3 0,.int 0 0,.int 0 0,.int 3 0,.ref 418,.bool true,.int 181 0,.ref 419,.none,.ref 420,.ref 421,.ref 422,.int 794 0,.int 315 0,.str "/claim/cut.py" 795],#[]⟩) ::
 (nat_lit 424,⟨.type "function",none,.func (fnOf "_law_number" "_law_number" (zP (top 67)) (zQ (top 67)) (zX (top 67)) (.none) (.none) (.none) (.str "law_curveyard_k50_whole_number_and_place" 650) none (.ref 423) (.none)),#[]⟩) ::
 (nat_lit 428,⟨.type "code",none,.fields #[.str "_law_place" 797,.str "_law_place" 798,.str "/claim/cut.py" 799,.int 329 0,.int 3 0,.int 0 0,.int 0 0,.int 3 0,.ref 425,.bool true,.int 181 0,.ref 426,.none,.none,.none,.ref 427,.int 800 0,.int 329 0,.str "/claim/cut.py" 801],#[]⟩) ::
 (nat_lit 429,⟨.type "function",none,.func (fnOf "_law_place" "_law_place" (zP (top 68)) (zQ (top 68)) (zX (top 68)) (.none) (.none) (.none) (.str "law_curveyard_k50_whole_number_and_place" 650) none (.ref 428) (.none)),#[]⟩) ::
 (nat_lit 435,⟨.type "code",none,.fields #[.str "_law_on" 803,.str "_law_on" 804,.str "/claim/cut.py" 805,.int 336 0,.int 3 0,.int 0 0,.int 0 0,.int 3 0,.ref 430,.bool true,.int 181 0,.ref 431,.none,.ref 432,.ref 433,.ref 434,.int 810 0,.int 336 0,.str "/claim/cut.py" 811],#[]⟩) ::
 (nat_lit 436,⟨.type "function",none,.func (fnOf "_law_on" "_law_on" (zP (top 69)) (zQ (top 69)) (zX (top 69)) (.none) (.none) (.none) (.str "law_curveyard_k50_whole_number_and_place" 650) none (.ref 435) (.none)),#[]⟩) ::
 (nat_lit 442,⟨.type "code",none,.fields #[.str "_law_undone_both" 813,.str "_law_undone_both" 814,.str "/claim/cut.py" 815,.int 343 0,.int 4 0,.int 0 0,.int 0 0,.int 3 0,.ref 437,.bool true,.int 181 0,.ref 438,.none,.ref 439,.ref 440,.ref 441,.int 827 0,.int 343 0,.str "/claim/cut.py" 828],#[]⟩) ::
 (nat_lit 443,⟨.type "function",none,.func (fnOf "_law_undone_both" "_law_undone_both" (zP (top 70)) (zQ (top 70)) (zX (top 70)) (.none) (.none) (.none) (.str "law_curveyard_k50_whole_number_and_place" 650) none (.ref 442) (.none)),#[]⟩) ::
 (nat_lit 449,⟨.type "code",none,.fields #[.str "law" 830,.str "law" 831,.str "/claim/cut.py" 832,.int 359 0,.int 1 0,.int 0 0,.int 0 0,.int 3 0,.ref 444,.bool true,.int 181 0,.ref 445,.none,.ref 446,.ref 447,.ref 448,.int 841 0,.int 359 0,.str "/claim/cut.py" 842],#[]⟩) ::
 (nat_lit 450,⟨.type "function",none,.func (fnOf "law" "law" (zP (top 71)) (zQ (top 71)) (zX (top 71)) (.none) (.none) (.none) (.str "law_curveyard_k50_whole_number_and_place" 650) none (.ref 449) (.none)),#[]⟩)::[]
def oM:Program:=view PySem.Challenge.pw_curveyard_k50_whole_number_and_place [71]
def loose:List Str:="BITS"::"FLIPS"::"AXES"::"turned"::"still"::"after"::"undone"::"turn_of"::"corner_of"::"Part"::"Curve"::"first_state"::"part_at"::"digit_at"::"walked"::"YardError"::"OffFloor"::"TextError"::"BadRow"::"CornerTwice"::"Unmet"::"LETTERS"::"LONGEST_WORD"::"is_word"::"is_made_of"::"full"::"has_place"::"ask_place"::"place_at"::"digits_of"::"deeper"::"number_at"::"next_to"::"unmet_at"::"meeting_of"::"PROMISES"::"DIMS"::"curve_of"::"curve_from"::"words_at"::"read_head"::"read_part"::"fitted"::"_law_cell_at"::"_law_mix"::"_law_cut"::"_law_same"::"_law_turned"::"_law_after"::"_law_undone"::"_law_turn"::"_law_base"::"_law_joined"::"_law_corners"::"_law_loose"::"_law_altered"::"_law_drawn"::"_law_text"::"_law_level"::"_law_number"::"_law_place"::"_law_on"::"_law_undone_both"::[]
def zPL:List Addr:=nat_lit 3::nat_lit 18::nat_lit 19::nat_lit 23::nat_lit 24::nat_lit 28::nat_lit 29::nat_lit 35::nat_lit 36::nat_lit 40::nat_lit 41::nat_lit 45::nat_lit 46::nat_lit 59::nat_lit 60::nat_lit 62::nat_lit 63::nat_lit 64::nat_lit 65::nat_lit 80::nat_lit 81::nat_lit 83::nat_lit 84::nat_lit 85::nat_lit 86::nat_lit 94::nat_lit 95::nat_lit 101::nat_lit 102::nat_lit 106::nat_lit 107::nat_lit 113::nat_lit 114::nat_lit 123::nat_lit 124::nat_lit 125::nat_lit 136::nat_lit 137::nat_lit 152::nat_lit 153::nat_lit 155::nat_lit 156::nat_lit 167::nat_lit 168::nat_lit 179::nat_lit 180::nat_lit 195::nat_lit 196::nat_lit 198::nat_lit 199::nat_lit 207::nat_lit 208::nat_lit 212::nat_lit 213::nat_lit 219::nat_lit 220::nat_lit 224::nat_lit 225::nat_lit 231::nat_lit 232::nat_lit 238::nat_lit 239::nat_lit 245::nat_lit 246::nat_lit 250::nat_lit 251::nat_lit 255::nat_lit 256::nat_lit 260::nat_lit 261::nat_lit 267::nat_lit 268::nat_lit 272::nat_lit 273::nat_lit 274::nat_lit 275::nat_lit 281::nat_lit 282::nat_lit 288::nat_lit 289::nat_lit 295::nat_lit 296::nat_lit 302::nat_lit 303::nat_lit 309::nat_lit 310::nat_lit 316::nat_lit 317::nat_lit 323::nat_lit 324::nat_lit 330::nat_lit 331::nat_lit 337::nat_lit 338::nat_lit 344::nat_lit 345::nat_lit 349::nat_lit 350::nat_lit 354::nat_lit 355::nat_lit 361::nat_lit 362::nat_lit 366::nat_lit 367::nat_lit 373::nat_lit 374::nat_lit 378::nat_lit 379::nat_lit 383::nat_lit 384::nat_lit 390::nat_lit 391::nat_lit 397::nat_lit 398::nat_lit 404::nat_lit 405::nat_lit 409::nat_lit 410::nat_lit 416::nat_lit 417::nat_lit 423::nat_lit 424::nat_lit 428::nat_lit 429::nat_lit 435::nat_lit 436::nat_lit 442::nat_lit 443::nat_lit 449::nat_lit 450::[]
theorem zWa (P:Params):zPL=(zVL P).map (fun x=>x.1):=by kernel_rfl
abbrev hook:Hook:=kHook zVL zPL zWa
abbrev zR1 (s:Shared):Bool:=xlAt oM [] s&&recOk (RowW.records PySem.Challenge.rw_curveyard_k50_whole_number_and_place.row.toRowW) s
def rH (w:World):Prop:=(openEnds treeTable PySem.Challenge.rw_curveyard_k50_whole_number_and_place.row.prog w 7060).map (fun s=>openSeen oM loose (importedModules PySem.Challenge.rw_curveyard_k50_whole_number_and_place.row.prog.main.body) zR1 true s)=some (openGood oM loose)
theorem zUT (w:World):rH (w.withFollow "special-get-raises" false):=by unfold rH;kernel_rfl
theorem zVE (w:World):rH (w.withFollow "special-get-raises" true):=by unfold rH;kernel_rfl
theorem zSV (w:World):(openEnds treeTable PySem.Challenge.rw_curveyard_k50_whole_number_and_place.row.prog w 7060).map (fun s=>openSeen oM loose (importedModules PySem.Challenge.rw_curveyard_k50_whole_number_and_place.row.prog.main.body) zR1 true s)=some (openGood oM loose):=byRow2 "special-get-raises" (P:=rH) zUT zVE w
def rG (w:World):Prop:=(openEnds treeTable PySem.Challenge.rw_curveyard_k50_whole_number_and_place.row.prog w 7060).map hook.obs=some (hook.val w)
theorem zVA (w:World):rG (w.withFollow "special-get-raises" false):=by unfold rG;kernel_rfl
theorem zVy (w:World):rG (w.withFollow "special-get-raises" true):=by unfold rG;kernel_rfl
theorem zRq (w:World):(openEnds treeTable PySem.Challenge.rw_curveyard_k50_whole_number_and_place.row.prog w 7060).map hook.obs=some (hook.val w):=byRow2 "special-get-raises" (P:=rG) zVA zVy w
theorem zQg {α β γ:Type}{x:Option α}{f:α->β}{g:α->γ}{a:β}{b:γ}(h1:x.map f=some a)(h2:x.map g=some b):x.map (fun s=>(f s,g s))=some (a,b):=by
 cases x with
 | none=>cases h1
 | some s=>cases h1;cases h2;rfl
theorem zQB:LeftO PySem.Challenge.rw_curveyard_k50_whole_number_and_place.row.prog oM loose zR1 hook.obs hook.val 7060:=fun w=>zQg (zSV w) (zRq w)
end My
namespace L2
open PySem PySem.Spec PyProof.Rows
abbrev Key:=Sum Int Str
def zPR:Key->Value->Bool
 | .inl k,v=>Value.isInt k v
 | .inr x,v=>Value.isStrOf x v
def zNy (w:World):Key->Int
 | .inl k=>hashInt k
 | .inr x=>hashStr w x
theorem wN:∀ {k:Key} {v:Value},zPR k v=true->(∃i t,k=Sum.inl i/\v=Value.int i t)∨(∃x t,k=Sum.inr x/\v=Value.str x t)
 | .inl i,v,h=>by
   obtain⟨t,e⟩:=Value.isInt_shape (k:=i) (v:=v) h
   exact .inl ⟨i,t,rfl,e⟩
 | .inr x,v,h=>by
   obtain⟨t,e⟩:=Value.isStrOf_shape (x:=x) (v:=v) h
   exact .inr ⟨x,t,rfl,e⟩
theorem zOZ (a b:Int):decide ((Sum.inl a:Key)=Sum.inl b)=(a==b):=by
 by_cases e:a=b
 · subst e;simp
 · have h:¬(Sum.inl a:Key)=Sum.inl b:=fun q=>e (Sum.inl.inj q)
   rw[decide_eq_false h]
   exact(beq_eq_false_iff_ne.mpr e).symm
theorem zOJ (a b:Str):decide ((Sum.inr a:Key)=Sum.inr b)=decide (a=b):=by
 by_cases e:a=b
 · subst e;simp
 · have h:¬(Sum.inr a:Key)=Sum.inr b:=fun q=>e (Sum.inr.inj q)
   rw[decide_eq_false h,decide_eq_false e]
theorem zPe (a:Int)(b:Str):decide ((Sum.inl a:Key)=Sum.inr b)=false:=decide_eq_false (fun q=>nomatch q)
theorem zPb (a:Str)(b:Int):decide ((Sum.inr a:Key)=Sum.inl b)=false:=decide_eq_false (fun q=>nomatch q)
def zUq (prog:Program)(w:World):PySem.KeyKind prog w Key where
 is:=zPR
 hash:=zNy w
 inj:=fun v a b ha hb=>by
   rcases wN ha with⟨i,t,rfl,rfl⟩ | ⟨x,t,rfl,rfl⟩
   · rcases wN hb with⟨j,u,rfl,e⟩ | ⟨y,u,rfl,e⟩
     · injection e with e1 _;rw[e1]
     · exact nomatch e
   · rcases wN hb with⟨j,u,rfl,e⟩ | ⟨y,u,rfl,e⟩
     · exact nomatch e
     · injection e with e1 _;rw[e1]
 byValue:=fun k v h=>by
   rcases wN h with⟨i,t,rfl,rfl⟩ | ⟨x,t,rfl,rfl⟩<;>rfl
 pyHash:=fun hv h=>by
   rcases wN hv with⟨i,t,rfl,rfl⟩ | ⟨x,t,rfl,rfl⟩
   · exact wpAny_pyHash_int h
   · exact wpAny_pyHash_str h
 eqBool:=fun hu hv h=>by
   rcases wN hu with⟨i,t,rfl,rfl⟩ | ⟨x,t,rfl,rfl⟩
   · rcases wN hv with⟨j,u,rfl,rfl⟩ | ⟨y,u,rfl,rfl⟩
     · rw[zOZ] at h;exact wpAny_eqBool_int h
     · rw[zPe] at h;exact SeqAt.EqAt.int_str i t y u _ _ _ _ h
   · rcases wN hv with⟨j,u,rfl,rfl⟩ | ⟨y,u,rfl,rfl⟩
     · rw[zPb] at h;exact SeqAt.EqAt.str_int x t j u _ _ _ _ h
     · rw[zOJ] at h;exact wpAny_eqBool_str h
 «strs» := fun k x t v h=>by
   rcases wN h with⟨i,u,rfl,e⟩ | ⟨y,u,rfl,e⟩
   · exact nomatch e
   · injection e with e1 _
     subst e1
     cases v<;>rfl
end L2
namespace L2
open PySem PySem.Spec PyProof.Rows
inductive V where
 | non | bl (b:Bool) | int (i:Int) | str (x:Str) | byt (b:Array UInt8) | flt (b:UInt64) | ref (a:Addr) | ty (n:String)
 deriving DecidableEq
def RelV:V->Value->Prop
 | .non,u=>u=Value.none
 | .bl b,u=>u=Value.bool b
 | .int i,u=>∃t,u=Value.int i t
 | .str x,u=>∃t,u=Value.str x t
 | .byt b,u=>∃t,u=Value.bytes b t
 | .flt b,u=>∃t,u=Value.float b t
 | .ref a,u=>u=Value.ref a
 | .ty n,u=>u=Value.type n
abbrev Vals:List V->List Value->Prop:=Paired RelV
theorem Vals.length {xs:List V}{us:List Value}(r:Vals xs us):xs.length=us.length:=Paired.length r
theorem Vals.get:∀ {xs:List V} {us:List Value} {i:Nat} {x:V},Vals xs us->xs[i]?=some x->∃u,us[i]?=some u/\RelV x u
 | _,_,_,_,.nil,e=>by simp at e
 | _,_,0,_,.cons r _,e=>by simp at e;subst e;exact⟨_,rfl,r⟩
 | _,_,i+1,x,.cons _ t,e=>by
   obtain⟨u,h1,h2⟩:=Vals.get (i:=i) (x:=x) t (by simpa using e)
   exact⟨u,by simpa using h1,h2⟩
theorem Vals.set {x:V}{u:Value}(r:RelV x u):∀ {xs:List V} {us:List Value} (i:Nat),Vals xs us->Vals (xs.set i x) (us.set i u)
 | _,_,_,.nil=>.nil
 | _,_,0,.cons _ t=>.cons r t
 | _,_,i+1,.cons q t=>.cons q (Vals.set r i t)
theorem Vals.append:∀ {xs ys:List V} {us ws:List Value},Vals xs us->Vals ys ws->Vals (xs++ys) (us++ws)
 | _,_,_,_,.nil,s=>s
 | _,_,_,_,.cons r t,s=>.cons r (Vals.append t s)
theorem Vals.take:∀ {xs:List V} {us:List Value} (n:Nat),Vals xs us->Vals (xs.take n) (us.take n)
 | _,_,0,_=>.nil
 | _,_,_+1,.nil=>.nil
 | _,_,n+1,.cons r t=>.cons r (Vals.take n t)
theorem Vals.drop:∀ {xs:List V} {us:List Value} (n:Nat),Vals xs us->Vals (xs.drop n) (us.drop n)
 | _,_,0,r=>r
 | _,_,_+1,.nil=>.nil
 | _,_,n+1,.cons _ t=>Vals.drop n t
def RelO:Option V->Option Value->Prop
 | some v,some u=>RelV v u
 | none,none=>True
 | _,_=>False
def KV {κ:Type}:List (κ×V)->List (κ×Value)->Prop:=Paired fun(p:κ×V) (q:κ×Value)=>p.1=q.1/\RelV p.2 q.2
def kV:Key->V
 | .inl i=>.int i
 | .inr x=>.str x
inductive HO where
 /-- a list -/
 | lst (xs:List V)
 /-- a tuple (never changes) -/
 | tup (xs:List V)
 /-- a dict whose keys are ints and texts; one whose keys are tuples of ints and texts (the empty one is both) -/
 | dK (kvs:List (Key×V)) | dT (kvs:List (List Key×V))
 /-- a set of ints: its members, its size -/
 | set (S:Int->Bool) (n:Nat)
 /-- an instance of the class at C, its dict at dx, its attributes -/
 | ins (C dx:Addr) (fs:List (Str×V))
 /-- the dict of the instance at x -/
 | own (x:Addr)
 /-- the dict of an exception -/
 | xd (fs:List (Str×V))
 /-- a bound method, f of x -/
 | met (f x:Addr)
 /-- a range object lo, lo + 1, .. below hi -/
 | rng (lo hi:Int)
 /-- a thing that is known to the object (the script; a dict while a loop walks it): read, never written while it is so -/
 | frz (o:Obj) (u:HO)
 /-- a code object's table -/
 | tbl (ps:Array Value)
 /-- any other thing, by what is true of its one object (a def of one's own: SetO a S n := HO.ext fun h => ..) -/
 | ext (φ:Heap->Prop)
abbrev Hp:=Addr->Option HO
def upd (H:Hp)(a:Addr)(o:HO):Hp:=fun b=>if b=a then some o else H b
theorem z0 {H:Hp}{a:Addr}{o:HO}:upd H a o a=some o:=by unfold upd;rw[if_pos rfl]
theorem yP {H:Hp}{a b:Addr}{o:HO}(h:b≠a):upd H a o b=H b:=by unfold upd;rw[if_neg h]
theorem yE {H:Hp}{a b:Addr}{o:HO}(h:H a=some o)(h':H b=none):a≠b:=by
 intro e;subst e;rw[h] at h';cases h'
section
variable (P:Program) (w:World)
def ObjOk (H:Hp)(h:Heap)(a:Addr):HO->Prop
 | .lst xs=>xs.length<=sizeLine/\∃(its:List Value) (n:Nat),Vals xs its/\h.get? a=some { cls:=.type "list",data:=.seq its.toArray n }
 | .tup xs=>xs.length<=sizeLine/\∃its:List Value,Vals xs its/\IsTup h a its.toArray
 | .dK kvs=>kvs.length<=sizeLine/\(a==sysModules)=false/\∃vs,KV kvs vs/\h.DictOf (zUq P w) a vs
 | .dT kvs=>kvs.length<=sizeLine/\(a==sysModules)=false/\∃xs:List (List Key×Addr×Value),
     Paired (fun(p:List Key×V) (q:List Key×Addr×Value)=>p.1=q.1/\H q.2.1=some (.tup (p.1.map kV))/\RelV p.2 q.2.2) kvs xs /\
     ∃o es ep,h.get? a=some o/\o.ExactDict/\o.data = .dict es ep/\es.toList=xs.map (entryOfKey (tupleKind (zUq P w)))/\(xs.map (·.1)).Nodup
 | .set S n=>h.SetOf (intKind P w) a S n
 | .ins C dx fs=>H dx=some (.own a)/\fs.length<=1000/\dx≠a/\h.get? a=some (PySem.W.instObj C dx) /\
     ∃mA,h.Ns1 dx mA/\(∀f,RelO (fs.lookup f) (mA f))/\PySem.Within mA (fs.map (·.1))
 | .own _=>∃o,h.get? a=some o
 | .xd fs=>∃mA,h.Ns1 a mA/\∀f,RelO (fs.lookup f) (mA f)
 | .rng lo hi=>∃t u v,h.get? a=some { cls:=.type "range",data:=.fields #[.int lo t,.int hi u,.int 1 v] }
 | .frz o u=>h.get? a=some o/\ObjOk H h a u
 | .tbl ps=>h.get? a=some { cls:=.none,data:=.fields ps }
 | .met f x=>h.get? a=some (PySem.W.methodObj (.ref f) (.ref x))
 | .ext φ=>φ h/\(∃o,h.get? a=some o)/\∀h1 h2:Heap,φ h1->(∀o,h1.get? a=some o->h2.get? a=some o)->φ h2
def HOk (H:Hp)(h:Heap):Prop:=∀a o,H a=some o->ObjOk P w H h a o
end
section
variable {P:Program} {w:World} {H H':Hp} {h h':Heap} {a:Addr} {o:HO}
theorem ObjOk.lt (x:ObjOk P w H h a o):a < h.objs.size:=by
 cases o with
 | lst xs=>obtain⟨_,_,_,_,e⟩:=x;exact Heap.lt_size e
 | tup xs=>obtain⟨_,_,_,p⟩:=x;exact p.lt
 | dK kvs=>obtain⟨_,_,_,_,o,_,_,e,_⟩:=x;exact Heap.lt_size e
 | dT kvs=>obtain⟨_,_,_,_,o,_,_,e,_⟩:=x;exact Heap.lt_size e
 | set S n=>obtain⟨o,_,_,_,e,_⟩:=x;exact Heap.lt_size e
 | ins C dx fs=>obtain⟨_,_,_,e,_⟩:=x;exact Heap.lt_size e
 | own y=>obtain⟨_,e⟩:=x;exact Heap.lt_size e
 | xd fs=>obtain⟨_,⟨_,_,_,e,_⟩,_⟩:=x;exact Heap.lt_size e
 | rng lo hi=>obtain⟨_,_,_,e⟩:=x;exact Heap.lt_size e
 | frz ob u=>obtain⟨e,_⟩:=x;exact Heap.lt_size e
 | tbl ps=>exact Heap.lt_size (show h.get? a=some _ from x)
 | met f y=>exact Heap.lt_size (show h.get? a=some _ from x)
 | ext φ=>obtain⟨_,⟨_,e⟩,_⟩:=x;exact Heap.lt_size e
theorem Paired.mapP {α β:Type}{F G:α->β->Prop}:∀ {l₁:List α} {l₂:List β},Paired F l₁ l₂->(∀a b,F a b->G a b)->Paired G l₁ l₂
 | _,_,.nil,_=>.nil
 | _,_,.cons r t,f=>.cons (f _ _ r) (Paired.mapP t f)
theorem ObjOk.stay (x:ObjOk P w H h a o)(k:∀b u,(b=a∨H b=some (.own a))->h.get? b=some u->h'.get? b=some u)
   (ho:∀b,H b=some (.own a)->H' b=some (.own a)) (ht:∀b xs,H b=some (.tup xs)->H' b=some (.tup xs)):ObjOk P w H' h' a o:=by
 induction o with
 | lst xs=>obtain⟨z,its,n,r,e⟩:=x;exact⟨z,its,n,r,k _ _ (.inl rfl) e⟩
 | tup xs=>obtain⟨z,its,r,ob,e,c⟩:=x;exact⟨z,its,r,ob,k _ _ (.inl rfl) e,c⟩
 | dK kvs=>obtain⟨z,y,vs,r,ob,es,ep,e,c⟩:=x;exact⟨z,y,vs,r,ob,es,ep,k _ _ (.inl rfl) e,c⟩
 | dT kvs =>
   obtain⟨z,y,xs,r,ob,es,ep,e,c⟩:=x
   exact⟨z,y,xs,Paired.mapP r fun p q z=>⟨z.1,ht _ _ z.2.1,z.2.2⟩,ob,es,ep,k _ _ (.inl rfl) e,c⟩
 | set S n=>obtain⟨ob,es,ep,t,e,c⟩:=x;exact⟨ob,es,ep,t,k _ _ (.inl rfl) e,c⟩
 | ins C dx fs =>
   obtain⟨d,z,ne,e,mA,⟨od,es,ep,e2,c⟩,r⟩:=x
   exact⟨ho _ d,z,ne,k _ _ (.inl rfl) e,mA,⟨od,es,ep,k _ _ (.inr d) e2,c⟩,r⟩
 | own y=>obtain⟨ob,e⟩:=x;exact⟨ob,k _ _ (.inl rfl) e⟩
 | xd fs=>obtain⟨mA,⟨od,es,ep,e,c⟩,r⟩:=x;exact⟨mA,⟨od,es,ep,k _ _ (.inl rfl) e,c⟩,r⟩
 | rng lo hi=>obtain⟨t,u,v,e⟩:=x;exact⟨t,u,v,k _ _ (.inl rfl) e⟩
 | frz ob u ih=>obtain⟨e,q⟩:=x;exact⟨k _ _ (.inl rfl) e,ih q⟩
 | tbl ps =>
   have e:h.get? a=some { cls:=.none,data:=.fields ps }:=x
   show h'.get? a=some { cls:=.none,data:=.fields ps }
   exact k a _ (.inl rfl) e
 | met f y =>
   have e:h.get? a=some (PySem.W.methodObj (.ref f) (.ref y)):=x
   show h'.get? a=some (PySem.W.methodObj (.ref f) (.ref y))
   exact k a _ (.inl rfl) e
 | ext φ=>obtain⟨p,⟨o,e⟩,st⟩:=x;exact⟨st _ _ p fun o q=>k _ _ (.inl rfl) q,⟨o,k _ _ (.inl rfl) e⟩,st⟩
theorem HOk.lt (x:HOk P w H h)(e:H a=some o):a < h.objs.size:=(x a o e).lt
theorem HOk.fresh (x:HOk P w H h)(e:h.objs.size<=a):H a=none:=by
 cases q:H a with
 | none=>rfl
 | some u=>exact absurd (Nat.lt_of_lt_of_le (x.lt q) e) (Nat.lt_irrefl _)
theorem HOk.kept (x:HOk P w H h)(k:∀b u,h.get? b=some u->h'.get? b=some u):HOk P w H h':=fun a o e =>
 (x a o e).stay (fun b u _ q=>k b u q) (fun _ q=>q) fun _ _ q=>q
theorem HOk.laid (x:HOk P w H h)(k:∀b u,h.get? b=some u->h'.get? b=some u)(hp:h.objs.size<=a)(new:ObjOk P w (upd H a o) h' a o):HOk P w (upd H a o) h':=fun b u e=>by
 have hn:=x.fresh hp
 by_cases hb:b=a
 · subst hb;rw[z0] at e;cases e;exact new
 · rw[yP hb] at e
   exact(x b u e).stay (fun c v _ q=>k c v q) (fun c q=>by rw[yP (yE q hn)];exact q) fun c xs q=>by rw[yP (yE q hn)];exact q
end
def Rd (H:Hp)(a:Addr)(u:HO):Prop:=H a=some u∨∃o,H a=some (.frz o u)
theorem Rd.ok {P:Program}{w:World}{H:Hp}{h:Heap}{a:Addr}{u:HO}(r:Rd H a u)(x:HOk P w H h):ObjOk P w H h a u:=by
 rcases r with r | ⟨o,r⟩
 · exact x a u r
 · obtain⟨_,q⟩:=x a _ r
   exact q
def Mut:Option HO->Prop
 | some (.lst _)=>True
 | some (.dK _)=>True
 | some (.dT _)=>True
 | some (.set _ _)=>True
 | some (.ins _ _ _)=>True
 | some (.ext _)=>True
 | _=>False
section
variable {P:Program} {w:World} {H:Hp} {h h':Heap} {x e:Addr} {o':HO}
theorem HOk.write (ok:HOk P w H h)(mu:Mut (H x))(he:e=x∨H e=some (.own x))(k:∀b u,b≠e->h.get? b=some u->h'.get? b=some u)(heo:∃u,h'.get? e=some u)
   (new:ObjOk P w (upd H x o') h' x o'):HOk P w (upd H x o') h':=fun b u q=>by
 have nown:∀c y,H c=some (.own y)->c≠x:=fun c y r z=>by subst z;rw[r] at mu;exact mu
 have ntup:∀c xs,H c=some (.tup xs)->c≠x:=fun c xs r z=>by subst z;rw[r] at mu;exact mu
 by_cases hb:b=x
 · subst hb;rw[z0] at q;cases q;exact new
 · rw[yP hb] at q
   by_cases hbe:b=e
   · have q':H b=some (.own x):=by
       rcases he with z | z
       · exact absurd (hbe.trans z) hb
       · rw[hbe];exact z
     rw[q] at q';cases q'
     obtain⟨v,hv⟩:=heo
     exact⟨v,by rw[hbe];exact hv⟩
   · refine(ok b u q).stay (fun c v hc r=>k c v ?_ r) (fun c r=>by rw[yP (nown c b r)];exact r) fun c xs r=>by rw[yP (ntup c xs r)];exact r
     rcases hc with rfl | hc
     · exact hbe
     · rintro rfl
       rcases he with z | z
       · exact nown c b hc z
       · rw[hc] at z;cases z;exact hb rfl
end
structure Un (fs ex:List Addr)(H H':Hp)(h h':Heap):Prop where
 keep:∀b o,h.get? b=some o->H b=none->b∉fs->b∉ex->h'.get? b=some o
 slot:∀b o,h.get? b=some o->H b=none->b∈fs->b∉ex->∃sl,h'.get? b=some { o with slots:=sl }
 free:∀b o,h.get? b=some o->H b=none->b∉ex->H' b=none
 there:∀b o,h.get? b=some o->b∉ex->∃o',h'.get? b=some o'
 tups:∀b xs,H b=some (.tup xs)->H' b=some (.tup xs)
 frzs:∀b o u,H b=some (.frz o u)->H' b=some (.frz o u)
 tbls:∀b ps,H b=some (.tbl ps)->∃more,H' b=some (.tbl (ps++more))
section
variable {fs fs' ex ex':List Addr} {H H1 H2:Hp} {h h1 h2 h':Heap} {a x e:Addr} {o:HO}
theorem Un.any (u:Un fs ex H H1 h h1){b:Addr}{ob:Obj}(q:h.get? b=some ob)(n:H b=none)(hx:b∉ex):∃sl,h1.get? b=some { ob with slots:=sl }:=by
 by_cases hb:b∈fs
 · exact u.slot b ob q n hb hx
 · exact⟨ob.slots,u.keep b ob q n hb hx⟩
theorem Un.trans (a:Un fs ex H H1 h h1)(b:Un fs ex H1 H2 h1 h2):Un fs ex H H2 h h2 where
 keep:=fun c ob q n hc hx=>b.keep c ob (a.keep c ob q n hc hx) (a.free c ob q n hx) hc hx
 slot:=fun c ob q n hc hx=>by
   obtain⟨sl,e1⟩:=a.slot c ob q n hc hx
   obtain⟨sl',e2⟩:=b.slot c _ e1 (a.free c ob q n hx) hc hx
   exact⟨sl',e2⟩
 free:=fun c ob q n hx=>by
   obtain⟨o',e1⟩:=a.there c ob q hx
   exact b.free c o' e1 (a.free c ob q n hx) hx
 there:=fun c ob q hx=>by
   obtain⟨o',e1⟩:=a.there c ob q hx
   exact b.there c o' e1 hx
 tups:=fun c xs q=>b.tups c xs (a.tups c xs q)
 frzs:=fun c ob xs q=>b.frzs c ob xs (a.frzs c ob xs q)
 tbls:=fun c ps q=>by
   obtain⟨m1,e1⟩:=a.tbls c ps q
   obtain⟨m2,e2⟩:=b.tbls c _ e1
   exact⟨m1++m2,by rw[e2,Array.append_assoc]⟩
theorem Un.kept (k:∀b u,h.get? b=some u->h'.get? b=some u):Un fs ex H H h h' :=
 ⟨fun b ob q _ _ _=>k b ob q,fun b ob q _ _ _=>⟨ob.slots,k b ob q⟩,fun _ _ _ n _=>n,fun b ob q _=>⟨ob,k b ob q⟩,fun _ _ q=>q,fun _ _ _ q=>q,fun _ ps q=>⟨#[],by rw[q];simp⟩⟩
theorem Un.refl:Un fs ex H H h h:=Un.kept fun _ _ q=>q
theorem Un.laid (k:∀b u,h.get? b=some u->h'.get? b=some u)(hp:h.objs.size<=a)(hn:H a=none):Un fs ex H (upd H a o) h h' where
 keep:=fun b u q _ _ _=>k b u q
 slot:=fun b u q _ _ _=>⟨u.slots,k b u q⟩
 free:=fun b u q n _=>by rw[yP (Nat.ne_of_lt (Nat.lt_of_lt_of_le (Heap.lt_size q) hp))];exact n
 there:=fun b u q _=>⟨u,k b u q⟩
 tups:=fun b xs q=>by rw[yP (yE q hn)];exact q
 frzs:=fun b u xs q=>by rw[yP (yE q hn)];exact q
 tbls:=fun b ps q=>⟨#[],by rw[yP (yE q hn),q];simp⟩
theorem Un.write (mu:Mut (H x))(he:e=x∨H e=some (.own x))(k:∀b u,b≠e->h.get? b=some u->h'.get? b=some u)(heo:∃u,h'.get? e=some u):Un fs ex H (upd H x o) h h':=by
 have hx:∀b,H b=none->b≠x:=fun b n z=>by subst z;rw[n] at mu;exact mu
 have hb:∀b,H b=none->b≠e:=fun b n z=>by
   subst z
   rcases he with r | r
   · exact hx b n r
   · rw[n] at r;cases r
 have hm:∀b u,H b=some u->¬Mut (some u)->b≠x:=fun b u q nm z=>by subst z;rw[q] at mu;exact nm mu
 refine⟨fun b u q n _ _=>k b u (hb b n) q,fun b u q n _ _=>⟨u.slots,k b u (hb b n) q⟩,fun b u q n _=>by rw[yP (hx b n)];exact n,fun b u q _=>?_,
   fun b xs q=>by rw[yP (hm b _ q fun z=>z)];exact q,fun b u xs q=>by rw[yP (hm b _ q fun z=>z)];exact q,fun b ps q=>⟨#[],by rw[yP (hm b _ q fun z=>z),q];simp⟩⟩
 by_cases hbe:b=e
 · subst hbe;exact heo
 · exact⟨u,k b u hbe q⟩
end
def trk (h:Heap)(H:Hp):List Addr:=(List.range h.objs.size).filter fun a=>(H a).isSome
def zYk (h:Heap)(H:Hp):Heap:=PySem.W.hideAll h (trk h H)
theorem zTi (h:Heap)(H:Hp):(zYk h H).objs.size=h.objs.size:=PySem.W.hideAll_size _ _
theorem zSp {h:Heap}{H:Hp}{b:Addr}{o:Obj}(e:h.get? b=some o)(n:H b=none):(zYk h H).get? b=some o :=
 PySem.W.hideAll_get _ e fun hm=>by
   have q:(H b).isSome=true:=(List.mem_filter.mp hm).2
   rw[n] at q;simp at q
theorem zQJ {h:Heap}{H:Hp}{b:Addr}{o:Obj}(e:(zYk h H).get? b=some o):h.get? b=some o/\H b=none:=by
 have e':h.get? b=some o:=PySem.W.of_hideAll (trk h H) e
 refine⟨e',?_⟩
 cases q:H b with
 | none=>rfl
 | some x =>
   have hm:b∈trk h H:=List.mem_filter.mpr ⟨List.mem_range.mpr (Heap.lt_size e'),by simp[q]⟩
   have z:(zYk h H).get? b=none:=PySem.W.hideAll_none (trk h H) hm
   rw[z] at e;cases e
def zQe (g h:Heap)(L:Addr):List (Addr×Obj):=(List.range h.objs.size).filterMap fun a=>if a=L∨(g.get? a).isSome=true then none else(h.get? a).map fun o=>(a,o)
def rest (g h:Heap)(L d:Addr):List (Addr×Obj):=(zQe g h L).filter fun p=>decide (p.1≠d)
end L2
namespace L2
open PySem PySem.Spec PyProof.Rows
structure Mod (K:PySem.W.Frag)(mg:Str->Option Value)(base:Heap):Prop where
 kin:K.In base
 glob:base.Ns mainGlobals mg
 blt:∃mb,base.Ns builtinsNs mb/\∀x:Str,x≠"__name__"->mb x=bootBuiltins x
 nolimit:base.NoLimit
/-- the context: a def's body (or a comprehension's block) running. base: fixed through the whole law; s₀, H₀: the entry; outer: the frames whose slots others may change (a def's callers); stack: all frames that run;
  ex: iterators that were made ahead of the entry and are walked here (a comprehension's);fn: the names whose cells were made at the entry (a def: all;a comprehension's block: its own);calm: not within an except suite;pn: pins that every state bears;xe: what is wanted of an exception that leaves the code -/
structure Cx where
 prog:Program
 w:World
 K:PySem.W.Frag
 mg:Str->Option Value
 base:Heap
 A:Around
 N:List Str
 s₀:Shared
 H₀:Hp
 env:Env
 outer:List Env
 stack:List Env
 ex:List Addr
 fn:Str->Bool
 calm:Bool
 pn:List (Addr×Obj)
 xe:Value->Shared->Prop
def frs (l:List Env):List Addr:=l.filterMap (·.frame)
abbrev Cx.fs (X:Cx):List Addr:=frs X.outer
def Vis (sc:Scope)(x:Str):Prop:=sc.names.lookup x=some .local∨sc.names.lookup x=some .cell∨sc.names.lookup x=some .free
def Loc (sc:Scope)(x:Str):Prop:=sc.names.lookup x=some .local∨sc.names.lookup x=some .cell
def zN9 (env:Env)(h:Heap)(m:Str->Option Value)(x:Str)(u:Value):Prop :=
 (env.kindOf x=some .local/\m x=some u)∨((env.kindOf x=some .cell∨env.kindOf x=some .free)/\∃c,env.cells.lookup x=some c/\h.IsCell c (some u))
structure Cx.Ok (X:Cx):Prop where
 mod:Mod X.K X.mg X.base
 kind:X.env.scope.kind = .function
 glob:X.env.globals=mainGlobals
 blt:X.env.builtins=builtinsNs
 above:X.s₀.heap.objs.size<=X.env.locals
 inj:∀x y c,X.env.cells.lookup x=some c->X.env.cells.lookup y=some c->x=y
 has:∀x,(X.env.kindOf x=some .cell∨X.env.kindOf x=some .free)->∃c,X.env.cells.lookup x=some c
 cab:∀x c,X.fn x=true->X.env.cells.lookup x=some c->X.s₀.heap.objs.size<=c
 hd:X.calm=true->X.A.handled=none
 frames:X.A.frames=some X.stack
 stk:X.stack=X.outer∨(X.stack=X.env::X.outer/\X.env.frame=some X.env.locals)
 exf:∀b∈X.ex,b≠X.env.locals/\∀x c,X.env.cells.lookup x=some c->c≠b
 bs:∀b o,X.base.get? b=some o->X.s₀.heap.get? b=some o/\X.H₀ b=none
 bsz:X.base.objs.size<=X.s₀.heap.objs.size
 noex:∀b o,X.base.get? b=some o->b∉X.ex
 exfs:∀b∈X.ex,b∉X.fs
 funs:X.s₀.heap.FunFrames X.base X.outer
 frf:∀b∈X.fs,X.H₀ b=none
structure Inv (X:Cx)(pins:List (Addr×Obj))(σ:List (Option V))(H:Hp)(s:Shared):Prop where
 ok:X.Ok
 os:s.os=X.s₀.os
 bare:AllBare s.gens
 base:Un X.fs X.ex X.H₀ H X.s₀.heap s.heap
 loc:∃m,s.heap.Ns X.env.locals m/\∀(i:Nat) (x:Str) (v:V),X.N[i]?=some x->σ[i]?=some (some v)->Vis X.env.scope x->∃u,RelV v u/\zN9 X.env s.heap m x u
 cell:∀x c,X.env.cells.lookup x=some c->∃v,s.heap.IsCell c v
 free:H X.env.locals=none
 freeC:∀x c,X.env.cells.lookup x=some c->H c=none
 pin:∀p∈X.pn++pins,s.heap.get? p.1=some p.2/\H p.1=none/\p.1≠X.env.locals/\p.1∉X.fs/\∀v,p.2.data ≠ .cell v
 hok:HOk X.prog X.w H s.heap
 len:σ.length=X.N.length
section
variable {X:Cx} {pins:List (Addr×Obj)} {σ:List (Option V)} {H H':Hp} {s:Shared} {h':Heap}
theorem Cx.Ok.nofr (ok:X.Ok){b:Addr}{o:Obj}(e:X.base.get? b=some o):b∉X.fs:=fun hb=>by
 have:=(ok.funs.mem hb).1
 rw[e] at this;cases this
theorem Inv.bs (I:Inv X pins σ H s):∀b o,X.base.get? b=some o->s.heap.get? b=some o/\H b=none:=fun b o e =>
 ⟨I.base.keep b o (I.ok.bs b o e).1 (I.ok.bs b o e).2 (I.ok.nofr e) (I.ok.noex b o e),I.base.free b o (I.ok.bs b o e).1 (I.ok.bs b o e).2 (I.ok.noex b o e)⟩
theorem Inv.bk (I:Inv X pins σ H s):∀b o,X.base.get? b=some o->s.heap.get? b=some o:=fun b o e=>(I.bs b o e).1
theorem Inv.mod (I:Inv X pins σ H s):Mod X.K X.mg X.base:=I.ok.mod
theorem Inv.kIn (I:Inv X pins σ H s):X.K.In s.heap:=I.ok.mod.kin.keeps I.bk
theorem Inv.lt (I:Inv X pins σ H s):X.env.locals < s.heap.objs.size:=let ⟨_,hn,_⟩:=I.loc;hn.lt
theorem Inv.sz (I:Inv X pins σ H s):X.s₀.heap.objs.size<=s.heap.objs.size:=Nat.le_trans I.ok.above (Nat.le_of_lt I.lt)
theorem Inv.nofs (I:Inv X pins σ H s){a:Addr}(h:s.heap.objs.size<=a):a∉X.fs:=fun hb=>by
 obtain⟨_,o,ho,_⟩:=I.ok.funs.mem hb
 exact absurd (Nat.lt_of_lt_of_le (Heap.lt_size ho) (Nat.le_trans I.sz h)) (Nat.lt_irrefl _)
theorem Inv.cne (I:Inv X pins σ H s):∀x c,X.env.cells.lookup x=some c->c≠X.env.locals:=fun x c e z=>by
 obtain⟨v,o,ho,hd⟩:=I.cell x c e
 obtain⟨m,⟨o',es,ep,ho',hd',_⟩,_⟩:=I.loc
 rw[z,ho'] at ho;cases ho;rw[hd'] at hd;cases hd
theorem Inv.funs (I:Inv X pins σ H s):s.heap.FunFrames X.base X.outer:=by
 have all:∀(l:List Env),(∀b∈frs l,b∈X.fs)->X.s₀.heap.FunFrames X.base l->s.heap.FunFrames X.base l:=by
   intro l
   induction l with
   | nil=>intro _ _;trivial
   | cons env r ih =>
     intro hs hl
     obtain⟨hk,⟨L,o,hf,hn,ho,hd⟩,hr⟩:=hl
     have hL:L∈X.fs:=hs L (by unfold frs;rw[List.filterMap_cons,hf];exact List.mem_cons_self)
     obtain⟨sl,e⟩:=I.base.slot L o ho (I.ok.frf L hL) hL fun z=>I.ok.exfs L z hL
     exact⟨hk,⟨L,_,hf,hn,e,hd⟩,ih (fun b hb=>hs b (by unfold frs;rw[List.filterMap_cons,hf];exact List.mem_cons_of_mem _ hb)) hr⟩
 exact all X.outer (fun _ hb=>hb) I.ok.funs
theorem Inv.stack (I:Inv X pins σ H s):s.heap.FunFrames X.base X.stack:=by
 rcases I.ok.stk with e | ⟨e,hf⟩
 · rw[e];exact I.funs
 · rw[e]
   obtain⟨m,hn,_⟩:=I.loc
   refine .cons (by rw[I.ok.kind];decide) hf hn ?_ I.funs
   exact Heap.get?_none_of_le (Nat.le_trans I.ok.bsz I.ok.above)
theorem Inv.stkSub (I:Inv X pins σ H s):∀b∈frs X.stack,b∈X.env.locals::X.fs:=fun b hb=>by
 rcases I.ok.stk with e | ⟨e,hf⟩
 · rw[e] at hb;exact List.mem_cons_of_mem _ hb
 · rw[e] at hb
   unfold frs at hb
   rw[List.filterMap_cons,hf] at hb
   exact hb
theorem Inv.stkFree (I:Inv X pins σ H s):∀b∈frs X.stack,H b=none:=fun b hb=>by
 rcases List.mem_cons.mp (I.stkSub b hb) with e | hb
 · rw[e];exact I.free
 · obtain⟨_,o,ho,_⟩:=I.ok.funs.mem hb
   exact I.base.free b o ho (I.ok.frf b hb) fun z=>I.ok.exfs b z hb
theorem Inv.step {g':Array GenState}{t':Nat}{d':Drawn}{ch:List Addr}(I:Inv X pins σ H s)
   (hch:∀b∈ch,(b∈X.ex∨X.s₀.heap.objs.size<=b)/\b≠X.env.locals/\(∀x c,X.env.cells.lookup x=some c->c≠b)/\∀p∈X.pn++pins,p.1≠b)
   (keep:∀b o,b≠X.env.locals->b∉X.fs->b∉ch->s.heap.get? b=some o->H b=none->h'.get? b=some o)
   (slot:∀b o,b≠X.env.locals->b∈X.fs->b∉ch->s.heap.get? b=some o->H b=none->∃sl,h'.get? b=some { o with slots:=sl }) (free:∀b o,b∉ch->s.heap.get? b=some o->H b=none->H' b=none)
   (there:∀b o,b∉ch->s.heap.get? b=some o->∃o',h'.get? b=some o')
   (tups:∀b xs,H b=some (.tup xs)->H' b=some (.tup xs)) (frzs:∀b o u,H b=some (.frz o u)->H' b=some (.frz o u)) (tbls:∀b ps,H b=some (.tbl ps)->∃more,H' b=some (.tbl (ps++more)))
   (ns:∀m,s.heap.Ns X.env.locals m->h'.Ns X.env.locals m) (hok:HOk X.prog X.w H' h') (hg:AllBare g') :
   Inv X pins σ H' { s with heap:=h',gens:=g',drawn:=d',toks:=t' }:=by
 have neL:∀b o,X.s₀.heap.get? b=some o->b≠X.env.locals:=fun b o e=>Nat.ne_of_lt (Nat.lt_of_lt_of_le (Heap.lt_size e) I.ok.above)
 have neC:∀b o,X.s₀.heap.get? b=some o->b∉X.ex->b∉ch:=fun b o e hx hb=>by
   rcases(hch b hb).1 with z | z
   · exact hx z
   · exact absurd (Nat.lt_of_lt_of_le (Heap.lt_size e) z) (Nat.lt_irrefl _)
 have cellK:∀x c,X.env.cells.lookup x=some c->∀v,s.heap.IsCell c v->h'.IsCell c v:=fun x c e v ⟨o,ho,hd⟩=>by
   have nch:c∉ch:=fun z=>(hch c z).2.2.1 x c e rfl
   by_cases hc:c∈X.fs
   · obtain⟨sl,q⟩:=slot c o (I.cne x c e) hc nch ho (I.freeC x c e)
     exact⟨_,q,hd⟩
   · exact⟨o,keep c o (I.cne x c e) hc nch ho (I.freeC x c e),hd⟩
 refine⟨I.ok,I.os,hg,⟨fun b o e n hb hx=>?_,fun b o e n hb hx=>?_,fun b o e n hx=>?_,fun b o e hx=>?_,fun b xs e=>tups b xs (I.base.tups b xs e),fun b o xs e=>frzs b o xs (I.base.frzs b o xs e),fun b ps e=>?_⟩,?_,fun x c e=>?_,?_,fun x c e=>?_,fun p hp=>?_,hok,I.len⟩
 · exact keep b o (neL b o e) hb (neC b o e hx) (I.base.keep b o e n hb hx) (I.base.free b o e n hx)
 · obtain⟨sl,e1⟩:=I.base.slot b o e n hb hx
   obtain⟨sl',e2⟩:=slot b _ (neL b o e) hb (neC b o e hx) e1 (I.base.free b o e n hx)
   exact⟨sl',e2⟩
 · obtain⟨o',e1⟩:=I.base.there b o e hx
   exact free b o' (neC b o e hx) e1 (I.base.free b o e n hx)
 · obtain⟨o',e1⟩:=I.base.there b o e hx
   exact there b o' (neC b o e hx) e1
 · obtain⟨m1,e1⟩:=I.base.tbls b ps e
   obtain⟨m2,e2⟩:=tbls b _ e1
   exact⟨m1++m2,by rw[e2,Array.append_assoc]⟩
 · obtain⟨m,hn,hl⟩:=I.loc
   refine⟨m,ns m hn,fun i x v e1 e2 e3=>?_⟩
   obtain⟨u,r,l⟩:=hl i x v e1 e2 e3
   refine⟨u,r,?_⟩
   rcases l with l | ⟨k,c,e,z⟩
   · exact .inl l
   · exact .inr ⟨k,c,e,cellK x c e _ z⟩
 · obtain⟨v,z⟩:=I.cell x c e
   exact⟨v,cellK x c e v z⟩
 · obtain⟨m,⟨o,_,_,ho,_⟩,_⟩:=I.loc
   exact free _ o (fun z=>(hch _ z).2.1 rfl) ho I.free
 · obtain⟨v,o,ho,hd⟩:=I.cell x c e
   exact free c o (fun z=>(hch c z).2.2.1 x c e rfl) ho (I.freeC x c e)
 · obtain⟨e,n,ne,nf,d⟩:=I.pin p hp
   have nch:p.1∉ch:=fun z=>(hch p.1 z).2.2.2 p hp rfl
   exact⟨keep p.1 p.2 ne nf nch e n,free p.1 p.2 nch e n,ne,nf,d⟩
theorem Inv.un {t':Nat}(I:Inv X pins σ H s)(u:Un X.fs [] H H' s.heap h')(hok:HOk X.prog X.w H' h'):Inv X pins σ H' { s with heap:=h',toks:=t' }:=by
 obtain⟨m,⟨o,es,ep,ho,r⟩,_⟩:=id I.loc
 obtain⟨sl,hL⟩:=u.any ho I.free (by simp)
 exact I.step (g':=s.gens) (d':=s.drawn) (ch:=[]) (fun _ z=>nomatch z) (fun b o _ hb _ e n=>u.keep b o e n hb (by simp)) (fun b o _ hb _ e n=>u.slot b o e n hb (by simp)) (fun b o _ e n=>u.free b o e n (by simp)) (fun b o _ e=>u.there b o e (by simp)) u.tups u.frzs u.tbls (fun m' hm=>by
   obtain⟨o',es',ep',ho',r'⟩:=hm
   rw[ho] at ho';cases ho'
   exact⟨_,es',ep',hL,r'⟩) hok I.bare
theorem Inv.call {g':Array GenState}{t':Nat}{d':Drawn}{ch:List Addr}(I:Inv X pins σ H s)(u:Un (frs X.stack) ch H H' s.heap h')(hok:HOk X.prog X.w H' h')(hg:AllBare g')
   (hch:∀b∈ch,(b∈X.ex∨X.s₀.heap.objs.size<=b)/\b≠X.env.locals/\(∀x c,X.env.cells.lookup x=some c->c≠b)/\∀p∈X.pn++pins,p.1≠b) :
   Inv X pins σ H' { s with heap:=h',gens:=g',drawn:=d',toks:=t' }:=by
 obtain⟨m,⟨o,es,ep,ho,r⟩,_⟩:=id I.loc
 obtain⟨sl,hL⟩:=u.any ho I.free fun z=>(hch _ z).2.1 rfl
 exact I.step (ch:=ch) hch (fun b o hL hb hc e n=>u.keep b o e n (fun z=>(List.mem_cons.mp (I.stkSub b z)).elim hL hb) hc) (fun b o _ _ hc e n=>u.any e n hc) (fun b o hc e n=>u.free b o e n hc) (fun b o hc e=>u.there b o e hc) u.tups u.frzs u.tbls (fun m' hm=>by
   obtain⟨o',es',ep',ho',r'⟩:=hm
   rw[ho] at ho';cases ho'
   exact⟨_,es',ep',hL,r'⟩) hok hg
theorem Inv.turned {t':Nat}{it:Addr}(I:Inv X pins σ H s)(k:∀b o,b≠it->s.heap.get? b=some o->h'.get? b=some o)(hn:H it=none)(hL:it≠X.env.locals)
   (h1:it∈X.ex∨X.s₀.heap.objs.size<=it) (h2:∀x c,X.env.cells.lookup x=some c->c≠it) (h3:∀p∈X.pn++pins,p.1≠it):Inv X pins σ H { s with heap:=h',toks:=t' }:=by
 have nit:∀b u,H b=some u->b≠it:=fun b u e z=>by rw[z,hn] at e;cases e
 refine I.step (g':=s.gens) (d':=s.drawn) (ch:=[it]) (fun b hb=>?_) (fun b o _ _ hc e _=>k b o (fun z=>hc (by simp[z])) e) (fun b o _ _ hc e _=>⟨o.slots,k b o (fun z=>hc (by simp[z])) e⟩) (fun _ _ _ _ n=>n)
   (fun b o hc e=>⟨o,k b o (fun z=>hc (by simp[z])) e⟩) (fun _ _ e=>e) (fun _ _ _ e=>e) (fun b ps e=>⟨#[],by rw[e];simp⟩) (fun m hm=>?_) (fun b u e=>?_) I.bare
 · have e:b=it:=by simpa using hb
   subst e
   exact⟨h1,hL,h2,h3⟩
 · obtain⟨o,es,ep,ho,r⟩:=hm
   exact⟨o,es,ep,k _ o (Ne.symm hL) ho,r⟩
 · refine(I.hok b u e).stay (fun c v hc q=>k c v ?_ q) (fun _ q=>q) fun _ _ q=>q
   rcases hc with z | z
   · rw[z];exact nit b u e
   · exact nit c _ z
theorem Inv.tok (I:Inv X pins σ H s)(t:Nat):Inv X pins σ H { s with toks:=t }:=I.un (h':=s.heap) (t':=t) Un.refl I.hok
theorem Inv.kept {t':Nat}(I:Inv X pins σ H s)(k:∀b u,s.heap.get? b=some u->h'.get? b=some u):Inv X pins σ H { s with heap:=h',toks:=t' }:=I.un (Un.kept k) (I.hok.kept k)
theorem Inv.laid {a:Addr}{o:HO}{t':Nat}(I:Inv X pins σ H s)(k:∀b u,s.heap.get? b=some u->h'.get? b=some u)(hp:s.heap.objs.size<=a)(new:ObjOk X.prog X.w (upd H a o) h' a o) :
   Inv X pins σ (upd H a o) { s with heap:=h',toks:=t' }:=I.un (Un.laid k hp (I.hok.fresh hp)) (I.hok.laid k hp new)
theorem Inv.write {x e:Addr}{o:HO}{t':Nat}(I:Inv X pins σ H s)(mu:Mut (H x))(he:e=x∨H e=some (.own x))(k:∀b u,b≠e->s.heap.get? b=some u->h'.get? b=some u)(heo:∃u,h'.get? e=some u)
   (new:ObjOk X.prog X.w (upd H x o) h' x o):Inv X pins σ (upd H x o) { s with heap:=h',toks:=t' }:=I.un (Un.write mu he k heo) (I.hok.write mu he k heo new)
theorem Inv.pins_of {pins':List (Addr×Obj)}(I:Inv X pins σ H s)(h:∀p∈pins',s.heap.get? p.1=some p.2/\H p.1=none/\p.1≠X.env.locals/\p.1∉X.fs/\∀v,p.2.data ≠ .cell v):Inv X pins' σ H s :=
 ⟨I.ok,I.os,I.bare,I.base,I.loc,I.cell,I.free,I.freeC,fun p hp=>(List.mem_append.mp hp).elim (fun z=>I.pin p (List.mem_append_left _ z)) (h p),I.hok,I.len⟩
theorem zVZ {N:List Str}(hN:N.Nodup){i j:Nat}{x:Str}(a:N[i]?=some x)(b:N[j]?=some x):i=j:=by
 obtain⟨h1,e1⟩:=List.getElem?_eq_some_iff.mp a
 obtain⟨h2,e2⟩:=List.getElem?_eq_some_iff.mp b
 exact(List.getElem_inj hN).mp (e1.trans e2.symm)
theorem zYQ {M:Model}{A:Around}{E:Value->Shared->Prop}{i:Nat}{x:Str}{v:V}{u:Value}{Q:Unit->Shared->Prop}(I:Inv X pins σ H s)(hN:X.N.Nodup)(hi:X.N[i]?=some x)(hx:Loc X.env.scope x)(r:RelV v u)
   (h:∀s',Inv X pins (σ.set i (some v)) H s'->(∃a,Heap.SameBut a s.heap s'.heap/\(a=X.env.locals∨X.env.cells.lookup x=some a))->Q () s') (hf:X.fn x=true∨X.env.scope.names.lookup x=some .local:=by first | exact .inl rfl | exact .inr rfl | assumption):wpAny M A (storeName X.env x u) Q E s:=by
 obtain⟨m,hn,hl⟩:=id I.loc
 have hcls:(X.env.scope.kind == .class||(X.env.scope.kind == .module&&X.env.locals != X.env.globals))=false:=by rw[I.ok.kind];rfl
 have hiσ:i < σ.length:=by rw[I.len];exact(List.getElem?_eq_some_iff.mp hi).1
 have cne:=I.cne
 have tracked:∀ {a:Addr} {h':Heap},(∃o,s.heap.get? a=some o/\H a=none)->Heap.SameBut a s.heap h'->HOk X.prog X.w H h':=fun {a h'} ha hs b ob e=>by
   obtain⟨_,_,hfree⟩:=ha
   refine(I.hok b ob e).stay (fun c w' hc q=>(hs.2 c ?_).trans q) (fun _ q=>q) fun _ _ q=>q
   rintro rfl
   rcases hc with rfl | hc
   · rw[hfree] at e;cases e
   · rw[hfree] at hc;cases hc
 rcases hx with hk | hk
 · refine wpAny_storeName_local hk hn (fun h' hn' hs=>?_) hcls
   obtain⟨oL,_,_,hoL,_⟩:=id hn
   refine h _ ⟨I.ok,I.os,I.bare,⟨fun b o e n hb hx=>?_,fun b o e n hb hx=>?_,I.base.free,fun b o e hx=>?_,I.base.tups,I.base.frzs,I.base.tbls⟩,⟨_,hn',fun j y v' e1 e2 e3=>?_⟩,fun y c e=>?_,I.free,I.freeC,fun p hp=>?_,tracked ⟨oL,hoL,I.free⟩ hs,by simpa using I.len⟩ ⟨_,hs,.inl rfl⟩
   · exact(hs.2 b (Nat.ne_of_lt (Nat.lt_of_lt_of_le (Heap.lt_size e) I.ok.above))).trans (I.base.keep b o e n hb hx)
   · obtain⟨sl,e1⟩:=I.base.slot b o e n hb hx
     exact⟨sl,(hs.2 b (Nat.ne_of_lt (Nat.lt_of_lt_of_le (Heap.lt_size e) I.ok.above))).trans e1⟩
   · obtain⟨o',e1⟩:=I.base.there b o e hx
     exact⟨o',(hs.2 b (Nat.ne_of_lt (Nat.lt_of_lt_of_le (Heap.lt_size e) I.ok.above))).trans e1⟩
   · by_cases hj:j=i
     · subst hj
       rw[hi] at e1;cases e1
       rw[List.getElem?_set_self hiσ] at e2
       cases e2
       exact⟨u,r,.inl ⟨hk,by simp⟩⟩
     · rw[List.getElem?_set_ne (Ne.symm hj)] at e2
       obtain⟨u',r',q⟩:=hl j y v' e1 e2 e3
       refine⟨u',r',?_⟩
       rcases q with⟨k,e⟩ | ⟨k,c,e,z⟩
       · refine .inl ⟨k,?_⟩
         have:y≠x:=fun e=>hj (zVZ hN e1 (e ▸ hi))
         simp[this,e]
       · exact .inr ⟨k,c,e,z.sameBut hs (cne y c e)⟩
   · obtain⟨w',z⟩:=I.cell y c e
     exact⟨w',z.sameBut hs (cne y c e)⟩
   · obtain⟨e,n,ne,nf,d⟩:=I.pin p hp
     exact⟨(hs.2 p.1 ne).trans e,n,ne,nf,d⟩
 · have hfn:X.fn x=true:=by
     rcases hf with z | z
     · exact z
     · rw[z] at hk;cases hk
   obtain⟨c,hc⟩:=I.ok.has x (.inl hk)
   obtain⟨w',z⟩:=I.cell x c hc
   refine wpAny_storeName_cell I.ok.kind hk hc z (fun h' hc' hs=>?_)
   obtain⟨oc,hoc,hocd⟩:=id z
   refine h { s with heap:=h' } ⟨I.ok,I.os,I.bare,⟨fun b o e n hb hx=>?_,fun b o e n hb hx=>?_,I.base.free,fun b o e hx=>?_,I.base.tups,I.base.frzs,I.base.tbls⟩,⟨m,hn.sameBut hs (Ne.symm (cne x c hc)),fun j y v' e1 e2 e3=>?_⟩,fun y c' e=>?_,I.free,I.freeC,fun p hp=>?_,tracked ⟨oc,hoc,I.freeC x c hc⟩ hs,by simpa using I.len⟩ ⟨c,hs,.inr hc⟩
   · exact(hs.2 b (Nat.ne_of_lt (Nat.lt_of_lt_of_le (Heap.lt_size e) (I.ok.cab x c hfn hc)))).trans (I.base.keep b o e n hb hx)
   · obtain⟨sl,e1⟩:=I.base.slot b o e n hb hx
     exact⟨sl,(hs.2 b (Nat.ne_of_lt (Nat.lt_of_lt_of_le (Heap.lt_size e) (I.ok.cab x c hfn hc)))).trans e1⟩
   · obtain⟨o',e1⟩:=I.base.there b o e hx
     exact⟨o',(hs.2 b (Nat.ne_of_lt (Nat.lt_of_lt_of_le (Heap.lt_size e) (I.ok.cab x c hfn hc)))).trans e1⟩
   · by_cases hj:j=i
     · subst hj
       rw[hi] at e1;cases e1
       rw[List.getElem?_set_self hiσ] at e2
       cases e2
       exact⟨u,r,.inr ⟨.inl hk,c,hc,hc'⟩⟩
     · rw[List.getElem?_set_ne (Ne.symm hj)] at e2
       obtain⟨u',r',q⟩:=hl j y v' e1 e2 e3
       refine⟨u',r',?_⟩
       rcases q with q | ⟨k,c',e,z'⟩
       · exact .inl q
       · refine .inr ⟨k,c',e,z'.sameBut hs ?_⟩
         rintro rfl
         exact hj (zVZ hN e1 (I.ok.inj _ _ _ e hc ▸ hi))
   · by_cases hcc:c'=c
     · subst hcc;exact⟨_,hc'⟩
     · obtain⟨w2,z2⟩:=I.cell y c' e
       exact⟨w2,z2.sameBut hs hcc⟩
   · obtain⟨e,n,ne,nf,d⟩:=I.pin p hp
     refine⟨(hs.2 p.1 ?_).trans e,n,ne,nf,d⟩
     intro q
     rw[q,hoc] at e
     have q':oc=p.2:=Option.some.inj e
     exact d w' (by rw[←q'];exact hocd)
theorem zXg {M:Model}{A:Around}{E:Value->Shared->Prop}{i:Nat}{x:Str}{v:V}{u:Value}{Q:Unit->Shared->Prop}(I:Inv X pins σ H s)(hN:X.N.Nodup)(hi:X.N[i]?=some x)(hx:Loc X.env.scope x)(r:RelV v u)
   (h:∀s',Inv X pins (σ.set i (some v)) H s'->Q () s') (hf:X.fn x=true∨X.env.scope.names.lookup x=some .local:=by first | exact .inl rfl | exact .inr rfl | assumption):wpAny M A (storeName X.env x u) Q E s :=
 zYQ I hN hi hx r (fun s' I' _=>h s' I') hf
theorem Inv.call' {s':Shared}{ch:List Addr}(I:Inv X pins σ H s)(ho:s'.os=s.os)(u:Un (frs X.stack) ch H H' s.heap s'.heap)(hok:HOk X.prog X.w H' s'.heap)(hg:AllBare s'.gens)
   (hch:∀b∈ch,(b∈X.ex∨X.s₀.heap.objs.size<=b)/\b≠X.env.locals/\(∀x c,X.env.cells.lookup x=some c->c≠b)/\∀p∈X.pn++pins,p.1≠b):Inv X pins σ H' s':=by
 obtain⟨h',g',d',t',o'⟩:=s'
 have e:o'=s.os:=ho
 subst e
 exact I.call (g':=g') (t':=t') (d':=d') u hok hg hch
end
abbrev XK:=Value->Option Addr->Hp->Prop
abbrev St:=List (Option V)
abbrev VK:=V->Hp->Prop
abbrev TE:=St->Hp->VK->Prop
abbrev TT:=St->Hp->(Bool->Hp->Prop)->Prop
abbrev TA:=St->Hp->(List V->Hp->Prop)->Prop
structure Ends where
 nx:St->Hp->Prop
 rt:VK
 bk:St->Hp->Prop:=fun _ _=>False
 ct:St->Hp->Prop:=fun _ _=>False
abbrev TS:=Ends->St->Hp->Prop
def EP (X:Cx)(pins:List (Addr×Obj))(σ:St)(Q:VK)(u:Value)(s':Shared):Prop:=∃v H',Inv X pins σ H' s'/\RelV v u/\Q v H'
def TP (X:Cx)(pins:List (Addr×Obj))(σ:St)(Q:Bool->Hp->Prop)(b:Bool)(s':Shared):Prop:=∃H',Inv X pins σ H' s'/\Q b H'
def AP (X:Cx)(pins:List (Addr×Obj))(σ:St)(Q:List V->Hp->Prop)(us:List Value)(s':Shared):Prop:=∃vs H',Inv X pins σ H' s'/\Vals vs us/\Q vs H'
def SP (X:Cx)(pins:List (Addr×Obj))(D:Ends)(f:Flow)(s':Shared):Prop :=
 match f with
 | .next=>∃σ' H',Inv X pins σ' H' s'/\D.nx σ' H'
 | .brk=>∃σ' H',Inv X pins σ' H' s'/\D.bk σ' H'
 | .cont=>∃σ' H',Inv X pins σ' H' s'/\D.ct σ' H'
 | .ret u=>∃v σ' H',Inv X pins σ' H' s'/\RelV v u/\D.rt v H'
def PE (X:Cx)(e:Expr)(t:TE):Prop :=
 ∀(pins:List (Addr×Obj)) (s:Shared) (σ:St) (H:Hp) (Q:VK),Inv X pins σ H s->t σ H Q->wpAny (model X.prog X.w) X.A (eval e X.env) (EP X pins σ Q) X.xe s
def PT (X:Cx)(e:Expr)(t:TT):Prop :=
 ∀(pins:List (Addr×Obj)) (s:Shared) (σ:St) (H:Hp) (Q:Bool->Hp->Prop),Inv X pins σ H s->t σ H Q->wpAny (model X.prog X.w) X.A (isTrue e X.env (eval e X.env)) (TP X pins σ Q) X.xe s
def PW (X:Cx)(e:Expr)(t:TT):Prop :=
 ∀(whole:Sem Value) (pins:List (Addr×Obj)) (s:Shared) (σ:St) (H:Hp) (Q:Bool->Hp->Prop),Inv X pins σ H s->t σ H Q->wpAny (model X.prog X.w) X.A (isTrue e X.env whole) (TP X pins σ Q) X.xe s
theorem PW.pt {X:Cx}{e:Expr}{t:TT}(h:PW X e t):PT X e t:=h _
def PA (X:Cx)(es:List Expr)(t:TA):Prop :=
 ∀(pos:Pos) (pins:List (Addr×Obj)) (s:Shared) (σ:St) (H:Hp) (Q:List V->Hp->Prop),Inv X pins σ H s->t σ H Q->wpAny (model X.prog X.w) X.A (spliced (backTo pos (starEach es X.env))) (AP X pins σ Q) X.xe s
def PS (X:Cx)(st:Stmt)(t:TS):Prop :=
 ∀(pins:List (Addr×Obj)) (s:Shared) (σ:St) (H:Hp) (D:Ends),Inv X pins σ H s->t D σ H->wpAny (model X.prog X.w) X.A (exec st X.env) (SP X pins D) X.xe s
def PSs (X:Cx)(st:List Stmt)(t:TS):Prop :=
 ∀(pins:List (Addr×Obj)) (s:Shared) (σ:St) (H:Hp) (D:Ends),Inv X pins σ H s->t D σ H->wpAny (model X.prog X.w) X.A (execs st X.env) (SP X pins D) X.xe s
theorem thn {α:Type}{t:Sem α}{Q Q':α->Shared->Prop}{M:Model}{A:Around}{E:Value->Shared->Prop}{s:Shared}(h:wpAny M A t Q E s)(hQ:∀a s,Q a s->Q' a s):wpAny M A t Q' E s:=wpAny_mono h hQ fun _ _ x=>x
end L2
namespace L2
open PySem PySem.Spec PyProof.Rows
section
variable {X:Cx}
def zQi (i:Nat):TE:=fun σ H Q=>∃v,σ[i]?=some (some v)/\Q v H
def tC (v:V):TE:=fun _ H Q=>Q v H
theorem nL {i:Nat}{x:Str}{pos:Pos}(hN:X.N[i]?=some x)(hv:Vis X.env.scope x)(hd:(x==("__debug__":Str))=false:=by decide)(hcd:(x==("__classdict__":Str))=false:=by decide):PE X (.Name x pos) (zQi i):=by
 intro pins s σ H Q I h
 obtain⟨v,e,h⟩:=h
 obtain⟨m,hn,hl⟩:=I.loc
 obtain⟨u,r,l⟩:=hl i x v hN e hv
 have fin:EP X pins σ Q u s:=⟨v,H,I,r,h⟩
 rcases l with⟨hk,hm⟩ | ⟨hk,c,hc,hcell⟩
 · exact wpAny_Name (wpAny_loadName_local I.ok.kind hk hn hm fin) hd
 · rcases hk with hk | hk
   · exact wpAny_Name (wpAny_loadName_cell I.ok.kind hk hc hcell fin) hd
   · exact wpAny_Name (wpAny_loadName_free I.ok.kind hk hc hcell fin hcd) hd
theorem zPI {i j pos}:PE X (.Constant (.int i) j pos) (tC (.int i)):=fun _ _ _ H _ I h=>wpAny_Constant_int ⟨.int i,H,I.tok _,⟨_,rfl⟩,h⟩
theorem zOf {b j pos}:PE X (.Constant (.bool b) j pos) (tC (.bl b)):=fun _ _ _ H _ I h=>Constant_bool ⟨.bl b,H,I,rfl,h⟩
theorem zSC {j pos}:PE X (.Constant .none j pos) (tC .non):=fun _ _ _ H _ I h=>Constant_none ⟨.non,H,I,rfl,h⟩
theorem zPH {x j pos}:PE X (.Constant (.str x) j pos) (tC (.str x)):=fun _ _ _ H _ I h=>Calls.Constant_str ⟨.str x,H,I.tok _,⟨_,rfl⟩,h⟩
def Gl (X:Cx)(x:Str):Prop:=X.env.kindOf x=some .globalImplicit
theorem zYo {E:Value->Shared->Prop}{pins:List (Addr×Obj)}{s:Shared}{σ:St}{H:Hp}{x:Str}{u:Value}{pos:Pos}{Q:Value->Shared->Prop}(I:Inv X pins σ H s)(hg:Gl X x)(hm:X.mg x=some u)(h:Q u s)
   (hd:(x==("__debug__":Str))=false:=by decide):wpAny (model X.prog X.w) X.A (eval (.Name x pos) X.env) Q E s :=
 Calls.Name_function_global I.ok.kind hg (Calls.loadGlobal_global (by rw[I.ok.glob];exact I.mod.glob.keeps I.bk) hm h) hd
theorem pE {E:Value->Shared->Prop}{pins:List (Addr×Obj)}{s:Shared}{σ:St}{H:Hp}{x:Str}{u:Value}{pos:Pos}{Q:Value->Shared->Prop}(I:Inv X pins σ H s)(hg:Gl X x)(hm:X.mg x=none)(hv:bootBuiltins x=some u)(h:Q u s)
   (hn:x≠"__name__":=by decide) (hd:(x==("__debug__":Str))=false:=by decide):wpAny (model X.prog X.w) X.A (eval (.Name x pos) X.env) Q E s:=by
 obtain⟨mb,h1,h2⟩:=I.mod.blt
 exact Calls.Name_function_global I.ok.kind hg (Calls.loadGlobal_builtin (by rw[I.ok.glob];exact I.mod.glob.keeps I.bk) hm (by rw[I.ok.blt];exact h1.keeps I.bk) ((h2 x hn).trans hv) h) hd
theorem cA {x:Str}{v:V}{u:Value}{pos:Pos}(hg:Gl X x)(hm:X.mg x=some u)(r:RelV v u)(hd:(x==("__debug__":Str))=false:=by decide):PE X (.Name x pos) (tC v) :=
 fun _ _ _ H _ I h=>zYo I hg hm ⟨v,H,I,r,h⟩ hd
theorem zQx {x:Str}{v:V}{u:Value}{pos:Pos}(hg:Gl X x)(hm:X.mg x=none)(hv:bootBuiltins x=some u)(r:RelV v u)(hn:x≠"__name__":=by decide)(hd:(x==("__debug__":Str))=false:=by decide):PE X (.Name x pos) (tC v) :=
 fun _ _ _ H _ I h=>pE I hg hm hv ⟨v,H,I,r,h⟩ hn hd
variable {a b:Expr} {ta tb:TE} {pos:Pos}
def tB (t:TE):TT:=fun σ H Q=>t σ H fun x H1=>∃c,x = .bl c/\Q c H1
theorem zON {e:Expr}{t:TE}(h:PE X e t)(he:∀whole,isTrue e X.env whole=(do let v ←whole;standAt e.pos;holding [v] (truthy v)):=by intro _;rfl):PT X e (tB t):=by
 intro pins s σ H Q I hw
 refine isTrue_plain (thn (h pins s σ H _ I hw) fun v s1 ⟨x,H1,I1,r1,q1⟩=>?_) (he _)
 obtain⟨d,rfl,q⟩:=q1
 cases r1
 exact wpAny_truthy_bool ⟨H1,I1,q⟩
variable {tA tB':TT} {rest:List Expr}
def zNA (t u:TT):TT:=fun σ H Q=>t σ H fun c H1=>if c=true then u σ H1 Q else Q false H1
def tOr (t u:TT):TT:=fun σ H Q=>t σ H fun c H1=>if c=true then Q true H1 else u σ H1 Q
def zNn (t:TT):TT:=fun σ H Q=>t σ H fun c H1=>Q (!c) H1
theorem zQz (ha:PT X a tA):PW X (.BoolOp .And [a] pos) tA:=by
 intro wh pins s σ H Q I h
 refine isTrue_and (thn (ha pins s σ H Q I h) fun c s1 e=>?_)
 cases c with
 | true=>exact isTrue_and_nil e
 | false=>exact e
theorem zPm (ha:PT X a tA):PW X (.BoolOp .Or [a] pos) tA:=by
 intro wh pins s σ H Q I h
 refine isTrue_or (thn (ha pins s σ H Q I h) fun c s1 e=>?_)
 cases c with
 | false=>exact isTrue_or_nil e
 | true=>exact e
theorem zP2 (ha:PT X a tA)(hb:PW X (.BoolOp .And (b::rest) pos) tB'):PW X (.BoolOp .And (a::b::rest) pos) (zNA tA tB'):=by
 intro wh pins s σ H Q I h
 refine isTrue_and (thn (ha pins s σ H _ I h) fun c s1 ⟨H1,I1,q1⟩=>?_)
 cases c with
 | true=>exact hb wh pins s1 σ H1 Q I1 q1
 | false=>exact⟨H1,I1,q1⟩
theorem zOi (ha:PT X a tA)(hb:PW X (.BoolOp .Or (b::rest) pos) tB'):PW X (.BoolOp .Or (a::b::rest) pos) (tOr tA tB'):=by
 intro wh pins s σ H Q I h
 refine isTrue_or (thn (ha pins s σ H _ I h) fun c s1 ⟨H1,I1,q1⟩=>?_)
 cases c with
 | true=>exact⟨H1,I1,q1⟩
 | false=>exact hb wh pins s1 σ H1 Q I1 q1
theorem zP0 (ha:PT X a tA):PT X (.UnaryOp .Not a pos) (zNn tA):=by
 intro pins s σ H Q I h
 exact isTrue_not (ha pins s σ H (fun c H1=>Q (!c) H1) I h)
def zOs (ta tb:TE):TE:=fun σ H Q=>ta σ H fun x H1=>∃c,x = .bl c/\if c=true then tb σ H1 Q else Q (.bl false) H1
def zNZ (ta:TE):TE:=fun σ H Q=>ta σ H fun x H1=>∃c,x = .bl c/\Q (.bl (!c)) H1
theorem zO9 {op}{t:TE}(h:PE X a t):PE X (.BoolOp op [a] pos) t:=fun pins s σ H Q I hw=>BoolOp_one (h pins s σ H Q I hw)
theorem zP8 (ha:PE X a ta)(hb:PE X (.BoolOp .And (b::rest) pos) tb):PE X (.BoolOp .And (a::b::rest) pos) (zOs ta tb):=by
 intro pins s σ H Q I h
 refine BoolOp_and (thn (ha pins s σ H _ I h) fun v s1 ⟨x,H1,I1,r1,q1⟩=>?_)
 obtain⟨c,rfl,q1⟩:=q1
 cases r1
 refine wpAny_truthy_bool ?_
 cases c with
 | true=>exact hb pins s1 σ H1 Q I1 q1
 | false=>exact⟨.bl false,H1,I1,rfl,q1⟩
theorem zPw (ha:PE X a ta):PE X (.UnaryOp .Not a pos) (zNZ ta):=by
 intro pins s σ H Q I h
 refine UnaryOp_ (thn (ha pins s σ H _ I h) fun v s1 ⟨x,H1,I1,r1,q1⟩=>?_)
 obtain⟨c,rfl,q1⟩:=q1
 cases r1
 exact not_of (wpAny_truthy_bool ⟨.bl (!c),H1,I1,rfl,q1⟩)
def tIf (t:TT)(ta tb:TE):TE:=fun σ H Q=>t σ H fun c H1=>if c=true then ta σ H1 Q else tb σ H1 Q
theorem zRL {c:Expr}(hc:PT X c tA)(ha:PE X a ta)(hb:PE X b tb):PE X (.IfExp c a b pos) (tIf tA ta tb):=by
 intro pins s σ H Q I h
 refine wpAny_IfExp (thn (hc pins s σ H _ I h) fun d s1 ⟨H1,I1,q1⟩=>?_)
 cases d with
 | true=>exact ha pins s1 σ H1 Q I1 q1
 | false=>exact hb pins s1 σ H1 Q I1 q1
end
end L2
namespace L2
open PySem PySem.Spec PyProof.Rows
def SqL (K:PySem.W.Frag)(H:Hp)(a:Addr)(xs:List V):Prop :=
 Rd H a (.lst xs) ∨
   ∃(o:Obj) (its:Array Value) (n:Nat),K.lookup a=some o/\o.cls = .type "list"/\o.dict=none/\o.data = .seq its n/\its.size<=sizeLine/\Vals xs its.toList
def SqT (K:PySem.W.Frag)(H:Hp)(a:Addr)(xs:List V):Prop :=
 Rd H a (.tup xs) ∨
   ∃(o:Obj) (its:Array Value) (n:Nat),K.lookup a=some o/\o.cls = .type "tuple"/\o.data = .seq its n/\its.size<=sizeLine/\Vals xs its.toList
def zNk:Value->Option V
 | .none=>some .non
 | .bool b=>some (.bl b)
 | .int i _=>some (.int i)
 | .str x _=>some (.str x)
 | .bytes b _=>some (.byt b)
 | .float b _=>some (.flt b)
 | .ref a=>some (.ref a)
 | .type n=>some (.ty n)
 | _=>none
theorem RelV.abs {x:V}{u:Value}(r:RelV x u):zNk u=some x:=by
 cases x with
 | non=>cases r;rfl
 | bl _=>cases r;rfl
 | int _=>obtain⟨t,rfl⟩:=r;rfl
 | str _=>obtain⟨t,rfl⟩:=r;rfl
 | byt _=>obtain⟨t,rfl⟩:=r;rfl
 | flt _=>obtain⟨t,rfl⟩:=r;rfl
 | ref _=>cases r;rfl
 | ty _=>cases r;rfl
theorem RelV.inj {x y:V}{u:Value}(r:RelV x u)(q:RelV y u):x=y:=Option.some.inj (r.abs.symm.trans q.abs)
theorem Vals.inj:∀ {xs ys:List V} {us:List Value},Vals xs us->Vals ys us->xs=ys
 | _,_,_,.nil,.nil=>rfl
 | _,_,_,.cons r t,.cons r' t'=>by rw[r.inj r',Vals.inj t t']
section
variable {X:Cx} {pins:List (Addr×Obj)} {σ:St} {H:Hp} {s:Shared} {a:Addr} {xs ys:List V}
theorem SqL.of {K:PySem.W.Frag}(h:H a=some (.lst xs)):SqL K H a xs:=.inl (.inl h)
theorem SqT.of {K:PySem.W.Frag}(h:H a=some (.tup xs)):SqT K H a xs:=.inl (.inl h)
theorem Inv.list (I:Inv X pins σ H s)(h:SqL X.K H a xs):∃its:List Value,Vals xs its/\PlainL s.heap a its.toArray/\xs.length<=sizeLine:=by
 rcases h with h | ⟨o,its,n,hk,hc,hd,hs,hz,r⟩
 · obtain⟨z,its,n,r,e⟩:=h.ok I.hok
   exact⟨its,r,⟨_,n,e,rfl,rfl,rfl⟩,z⟩
 · refine⟨its.toList,r,⟨o,n,I.kIn a o hk,hc,hd,by simpa using hs⟩,?_⟩
   have e:=r.length
   simp only[Array.length_toList] at e
   omega
theorem Inv.tuple (I:Inv X pins σ H s)(h:SqT X.K H a xs):∃its:List Value,Vals xs its/\IsTup s.heap a its.toArray/\xs.length<=sizeLine:=by
 rcases h with h | ⟨o,its,n,hk,hc,hs,hz,r⟩
 · obtain⟨z,its,r,p⟩:=h.ok I.hok
   exact⟨its,r,p,z⟩
 · refine⟨its.toList,r,⟨o,I.kIn a o hk,hc,n,by simpa using hs⟩,?_⟩
   have e:=r.length
   simp only[Array.length_toList] at e
   omega
theorem Inv.list_inj (I:Inv X pins σ H s)(h:SqL X.K H a xs)(h':SqL X.K H a ys):xs=ys:=by
 obtain⟨its,r,⟨o,n,e,_,_,d⟩,_⟩:=I.list h
 obtain⟨its',r',⟨o',n',e',_,_,d'⟩,_⟩:=I.list h'
 rw[e] at e';cases e'
 rw[d] at d'
 injection d' with d1 _
 have:its=its':=by simpa using congrArg Array.toList d1
 subst this
 exact r.inj r'
theorem Inv.tuple_inj (I:Inv X pins σ H s)(h:SqT X.K H a xs)(h':SqT X.K H a ys):xs=ys:=by
 obtain⟨its,r,⟨o,e,_,n,d⟩,_⟩:=I.tuple h
 obtain⟨its',r',⟨o',e',_,n',d'⟩,_⟩:=I.tuple h'
 rw[e] at e';cases e'
 rw[d] at d'
 injection d' with d1 _
 have:its=its':=by simpa using congrArg Array.toList d1
 subst this
 exact r.inj r'
end
abbrev Cx.wish (X:Cx)(E:Value->Shared->Prop):Cx:={ X with xe:=E }
abbrev Cx.nox (X:Cx):Cx:=X.wish fun _ _=>False
theorem Cx.Ok.wish {X:Cx}(ok:X.Ok)(E:Value->Shared->Prop):(X.wish E).Ok :=
 ⟨ok.mod,ok.kind,ok.glob,ok.blt,ok.above,ok.inj,ok.has,ok.cab,ok.hd,ok.frames,ok.stk,ok.exf,ok.bs,ok.bsz,ok.noex,ok.exfs,ok.funs,ok.frf⟩
theorem Cx.Ok.unwish {X:Cx}{E:Value->Shared->Prop}(ok:(X.wish E).Ok):X.Ok :=
 ⟨ok.mod,ok.kind,ok.glob,ok.blt,ok.above,ok.inj,ok.has,ok.cab,ok.hd,ok.frames,ok.stk,ok.exf,ok.bs,ok.bsz,ok.noex,ok.exfs,ok.funs,ok.frf⟩
section
variable {X:Cx} {pins:List (Addr×Obj)} {σ:St} {H:Hp} {s:Shared} {E:Value->Shared->Prop}
theorem Inv.wish (I:Inv X pins σ H s)(E:Value->Shared->Prop):Inv (X.wish E) pins σ H s:=⟨I.ok.wish E,I.os,I.bare,I.base,I.loc,I.cell,I.free,I.freeC,I.pin,I.hok,I.len⟩
theorem Inv.unwish (I:Inv (X.wish E) pins σ H s):Inv X pins σ H s:=⟨I.ok.unwish,I.os,I.bare,I.base,I.loc,I.cell,I.free,I.freeC,I.pin,I.hok,I.len⟩
theorem SP.unwish {D:Ends}{f:Flow}{s':Shared}(h:SP (X.wish E) pins D f s'):SP X pins D f s':=by
 cases f with
 | next=>obtain⟨σ',H',I,q⟩:=h;exact⟨σ',H',I.unwish,q⟩
 | brk=>obtain⟨σ',H',I,q⟩:=h;exact⟨σ',H',I.unwish,q⟩
 | cont=>obtain⟨σ',H',I,q⟩:=h;exact⟨σ',H',I.unwish,q⟩
 | ret u=>obtain⟨v,σ',H',I,r,q⟩:=h;exact⟨v,σ',H',I.unwish,r,q⟩
theorem PSs.nox {st:List Stmt}{t:TS}(h:PSs X.nox st t):PSs X st t:=fun pins s σ H D I hw =>
 wpAny_mono (h pins s σ H D (I.wish _) hw) (fun _ _ q=>q.unwish) fun _ _ z=>False.elim z
end
section
variable {X:Cx} {st:Stmt} {rest:List Stmt} {t u:TS} {e:Expr} {te:TE} {pos:Pos}
def zND:TS:=fun D σ H=>D.nx σ H
def zNw (t u:TS):TS:=fun D σ H=>t { D with nx:=u D } σ H
theorem zUg:PSs X [] zND:=fun _ _ σ H _ I h=>wpAny_execs_nil ⟨σ,H,I,h⟩
theorem zW6 (h1:PS X st t)(h2:PSs X rest u):PSs X (st::rest) (zNw t u):=by
 intro pins s σ H D I h
 refine wpAny_execs_cons (thn (h1 pins s σ H { D with nx:=u D } I h) fun f s1 q=>?_)
 cases f with
 | next =>
   obtain⟨σ',H',I',q⟩:=q
   exact h2 pins s1 σ' H' D I' q
 | ret v=>exact q
 | brk=>exact q
 | cont=>exact q
theorem zPV (h1:PS X st t):PSs X [st] t:=by
 intro pins s σ H D I h
 refine wpAny_execs_cons (thn (h1 pins s σ H D I h) fun f s1 q=>?_)
 cases f with
 | next=>exact wpAny_execs_nil q
 | ret v=>exact q
 | brk=>exact q
 | cont=>exact q
theorem Inv.quiet {pins:List (Addr×Obj)}{σ:St}{H:Hp}{s:Shared}(I:Inv X pins σ H s):interactive X.env=false:=by simp[interactive,I.ok.kind]
def zNJ (te:TE):TS:=fun D σ H=>te σ H fun _ H1=>D.nx σ H1
theorem zUo (he:PE X e te)(hs:swapsWith e none pos.line X.env=pure false:=by rfl):PS X (.Expr e pos) (zNJ te):=by
 intro pins s σ H D I h
 exact wpAny_Expr_any (thn (he pins s σ H _ I h) fun v s1 ⟨x,H1,I1,r1,q1⟩=>⟨σ,H1,I1,q1⟩) I.quiet hs
def zNB (te:TE):TS:=fun D σ H=>te σ H D.rt
theorem zVa (he:PE X e te):PS X (.Return (some e) pos) (zNB te):=by
 intro pins s σ H D I h
 exact wpAny_Return_some (thn (he pins s σ H _ I h) fun v s1 ⟨x,H1,I1,r1,q1⟩=>⟨x,σ,H1,I1,r1,q1⟩)
def zN8 (c:TT)(t u:TS):TS:=fun D σ H=>c σ H fun b H1=>if b=true then t D σ H1 else u D σ H1
theorem zOp {c:Expr}{a b:List Stmt}{tc:TT}(hc:PT X c tc)(ha:PSs X a t)(hb:PSs X b u):PS X (.If c a b pos) (zN8 tc t u):=by
 intro pins s σ H D I h
 refine wpAny_If (thn (hc pins s σ H _ I h) fun d s1 ⟨H1,I1,q1⟩=>?_)
 cases d with
 | true=>exact ha pins s1 σ H1 D I1 q1
 | false=>exact hb pins s1 σ H1 D I1 q1
end
abbrev TG:=V->St->Hp->(St->Hp->Prop)->Prop
abbrev TGs:=List V->St->Hp->(St->Hp->Prop)->Prop
def PG (X:Cx)(target:Expr)(t:TG):Prop :=
 ∀(pins:List (Addr×Obj)) (s:Shared) (σ:St) (H:Hp) (v:V) (u:Value) (Q:St->Hp->Prop),Inv X pins σ H s->RelV v u->t v σ H Q ->
   wpAny (model X.prog X.w) X.A (assign target X.env u) (fun _ s'=>∃σ' H',Inv X pins σ' H' s'/\Q σ' H') X.xe s
def PGs (X:Cx)(ts:List Expr)(t:TGs):Prop :=
 ∀(pins:List (Addr×Obj)) (s:Shared) (σ:St) (H:Hp) (vs:List V) (us:List Value) (Q:St->Hp->Prop),Inv X pins σ H s->Vals vs us->t vs σ H Q ->
   wpAny (model X.prog X.w) X.A (assignInOrder ((assignEach ts X.env).map (·.2)) us) (fun _ s'=>∃σ' H',Inv X pins σ' H' s'/\Q σ' H') X.xe s
abbrev zO3:=V->V->V->Hp->(Hp->Prop)->Prop
def zOH (X:Cx)(t:zO3):Prop :=
 ∀(pins:List (Addr×Obj)) (s:Shared) (σ:St) (H:Hp) (o i v:V) (ov iv u:Value) (Q:Hp->Prop),Inv X pins σ H s->RelV o ov->RelV i iv->RelV v u->t o i v H Q ->
   wpAny (model X.prog X.w) X.A (setItem ov iv u) (fun _ s'=>∃H',Inv X pins σ H' s'/\Q H') X.xe s
section
variable {X:Cx} {pos:Pos}
def zWR (i:Nat):TG:=fun v σ H Q=>Q (σ.set i (some v)) H
theorem zQA {i:Nat}{x:Str}(hN:X.N.Nodup)(hi:X.N[i]?=some x)(hx:Loc X.env.scope x)(hf:X.fn x=true∨X.env.scope.names.lookup x=some .local:=by first | exact .inl rfl | exact .inr rfl | assumption):PG X (.Name x pos) (zWR i):=by
 intro pins s σ H v u Q I r h
 exact wpAny_assign_Name (zXg I hN hi hx r (fun s' I'=>⟨_,H,I',h⟩) hf)
def zNt:TGs:=fun vs σ H Q=>vs=[]/\Q σ H
def zO2 (t:TG)(u:TGs):TGs:=fun vs σ H Q=>∃v r,vs=v::r/\t v σ H fun σ' H'=>u r σ' H' Q
theorem zRk:PGs X [] zNt:=by
 intro pins s σ H vs us Q I r h
 obtain⟨e,h⟩:=h
 subst e
 cases r
 exact assignInOrder_nil ⟨σ,H,I,h⟩
theorem zRr {e:Expr}{es:List Expr}{t:TG}{u:TGs}(h1:PG X e t)(h2:PGs X es u)
   (hs:(assignEach (e::es) X.env).map (·.2)=assign e X.env::(assignEach es X.env).map (·.2):=by rfl):PGs X (e::es) (zO2 t u):=by
 intro pins s σ H vs us Q I r h
 obtain⟨v,vr,e1,h⟩:=h
 subst e1
 cases r with
 | cons r rr =>
   rw[hs]
   refine assignInOrder_cons (thn (h1 pins s σ H _ _ _ I r h) fun _ s1 ⟨σ1,H1,I1,q1⟩=>?_)
   exact h2 pins s1 σ1 H1 _ _ Q I1 rr q1
def zNl (K:PySem.W.Frag)(n:Nat)(t:TGs):TG:=fun v σ H Q=>∃a xs,v = .ref a/\SqT K H a xs/\xs.length=n/\t xs σ H Q
theorem zOB {es:List Expr}{k:Nat}{t:TGs}{n:Nat}(hc:X.calm=true)(h:PGs X es t)
   (hn:(assignEach es X.env).length=n:=by rfl) (hst:(assignEach es X.env).findIdx? (·.1)=none:=by rfl):PG X (.Tuple es k pos) (zNl X.K n t):=by
 intro pins s σ H v u Q I r hw
 obtain⟨a,xs,e1,hq,hl,hw⟩:=hw
 subst e1
 cases r
 obtain⟨its,rv,ht,hz⟩:=I.tuple hq
 refine assign_Tuple_tuple (I.ok.hd hc) ht (by simp[hn,←hl,rv.length]) hst fun h' hx=>?_
 have I1:Inv X pins σ H { s with heap:=h' }:=I.kept (t':=s.toks) fun b o e=>hx b o (Nat.ne_of_lt (Heap.lt_size e)) e
 exact h pins _ σ H xs _ Q I1 (by simpa using rv) hw
def zNz (to ti:TE)(t:zO3):TG:=fun v σ H Q=>to σ H fun o H1=>ti σ H1 fun i H2=>t o i v H2 fun H3=>Q σ H3
theorem zRT {o i:Expr}{to ti:TE}{t:zO3}(ho:PE X o to)(hi:PE X i ti)(hs:zOH X t)
   (ha:∀v,assign (.Subscript o i pos) X.env v=(do
     let ov ←holding [v] (eval o X.env)
     let iv ←holding [v,ov] (eval i X.env)
     standAt pos
     holding [v,ov,iv] (setItem ov iv v)
     release [v,ov,iv] []):=by intro _;rfl):PG X (.Subscript o i pos) (zNz to ti t):=by
 intro pins s σ H v u Q I r h
 rw[ha]
 refine wpAny_bind (wpAny_holding (thn (ho pins s σ H _ I h) fun ov s1 ⟨x,H1,I1,r1,q1⟩=>?_))
 refine wpAny_bind (wpAny_holding (thn (hi pins s1 σ H1 _ I1 q1) fun iv s2 ⟨y,H2,I2,r2,q2⟩=>?_))
 refine wpAny_bind (wpAny_standAt (wpAny_bind (wpAny_holding (thn (hs pins s2 σ H2 x y v ov iv u _ I2 r1 r2 r q2) fun _ s3 ⟨H3,I3,q3⟩=>?_))))
 exact wpAny_release ⟨σ,H3,I3,q3⟩
def zTP (te:TE)(g:TG):TS:=fun D σ H=>te σ H fun x H1=>g x σ H1 D.nx
theorem zUM {tg e:Expr}{te:TE}{g:TG}(he:PE X e te)(hg:PG X tg g)(hs:swapsWithSole [tg] e pos.line X.env=pure false:=by rfl)(hw:swappedStores [tg] e X.env=pure none:=by rfl)
   (h1:(assignEach [tg] X.env).map (·.2)=[assign tg X.env]:=by rfl):PS X (.Assign [tg] e pos) (zTP te g):=by
 intro pins s σ H D I h
 refine wpAny_Assign_stores (thn (he pins s σ H _ I h) fun v s1 ⟨x,H1,I1,r1,q1⟩=>?_) hs hw
 rw[h1]
 exact thn (hg pins s1 σ H1 x v _ I1 r1 q1) fun _ s2 q=>q
theorem zXH {i:Nat}{x:Str}{e:Expr}{te:TE}{pos':Pos}(hN:X.N.Nodup)(hi:X.N[i]?=some x)(hx:Loc X.env.scope x)(he:PE X e te)(hs:swapsWith e (some (.Name x pos')) pos.line X.env=pure false:=by rfl)(hf:X.fn x=true∨X.env.scope.names.lookup x=some .local:=by first | exact .inl rfl | exact .inr rfl | assumption) :
   PS X (.Assign [.Name x pos'] e pos) (zTP te (zWR i)):=by
 intro pins s σ H D I h
 refine wpAny_Assign_Name (thn (he pins s σ H _ I h) fun v s1 ⟨y,H1,I1,r1,q1⟩=>?_) hs
 exact zXg I1 hN hi hx r1 (fun s2 I2=>⟨_,H1,I2,q1⟩) hf
end
section
variable {X:Cx} {pos:Pos}
def zP1 (c:TT)(tb:TS):TS:=fun D σ H=>∃W:Nat->St->Hp->Prop,(∃m,W m σ H)/\∀m σ H,W m σ H ->
 c σ H fun b H1=>if b=true then ∃N:St->Hp->Prop,(∀σ' H',N σ' H'->∃m',m' < m/\W m' σ' H')/\tb { D with nx:=N,ct:=N,bk:=D.nx } σ H1 else D.nx σ H1
theorem zSe {c:Expr}{body:List Stmt}{tc:TT}{tb:TS}(hp:PassesOwn (model X.prog X.w) X.A X.env X.xe)(hc:PT X c tc)(hb:PSs X body tb):PS X (.While c body [] pos) (zP1 tc tb):=by
 intro pins s σ H D I h
 obtain⟨W,⟨m0,w0⟩,turn⟩:=h
 refine wpAny_While (codeAny_whileLoop (fun n s'=>∃σ' H',Inv X pins σ' H' s'/\W n σ' H') ?_ m0 ⟨σ,H,I,w0⟩)
 rintro n s1 ⟨σ1,H1,I1,w1⟩
 refine wpAny_passesOwn hp (thn (hc pins s1 σ1 H1 _ I1 (turn n σ1 H1 w1)) fun b s2 ⟨H2,I2,q2⟩=>?_)
 cases b with
 | true =>
   obtain⟨N,hN,q2⟩:=q2
   rw[if_pos rfl]
   refine wpAny_passesOwn hp (thn (hb pins s2 σ1 H2 _ I2 q2) fun f s3 q3=>?_)
   cases f with
   | next =>
     obtain⟨σ3,H3,I3,n3⟩:=q3
     obtain⟨m',hm,w3⟩:=hN σ3 H3 n3
     exact⟨m',hm,σ3,H3,I3,w3⟩
   | cont =>
     obtain⟨σ3,H3,I3,n3⟩:=q3
     obtain⟨m',hm,w3⟩:=hN σ3 H3 n3
     exact⟨m',hm,σ3,H3,I3,w3⟩
   | brk=>exact q3
   | ret v=>exact q3
 | false =>
   rw[if_neg Bool.false_ne_true]
   exact wpAny_execs_nil ⟨σ1,H2,I2,q2⟩
end
structure It where
 go:Nat->Hp->Prop
 yld:Nat->Hp->V->Hp->Prop
 stop:Nat->Hp->Prop
def mN (X:Cx)(pins:List (Addr×Obj))(H:Hp)(b:Addr):Prop :=
 H b=none/\b≠X.env.locals/\b∉X.fs/\(b∈X.ex∨X.s₀.heap.objs.size<=b)/\(∀x c,X.env.cells.lookup x=some c->c≠b)/\∀p∈X.pn++pins,p.1≠b
theorem Inv.fpOk {X:Cx}{pins:List (Addr×Obj)}{σ:St}{H H':Hp}{s:Shared}{b:Addr}(I:Inv X pins σ H s)(hb:s.heap.objs.size<=b)(hn:H' b=none):mN X pins H' b:=by
 refine⟨hn,Nat.ne_of_gt (Nat.lt_of_lt_of_le I.lt hb),I.nofs hb,.inr (Nat.le_trans I.sz hb),fun x c e z=>?_,fun p hp z=>?_⟩
 · obtain⟨v,q⟩:=I.cell x c e
   exact absurd (Nat.lt_of_lt_of_le q.lt (by rw[z];exact hb)) (Nat.lt_irrefl _)
 · exact absurd (Nat.lt_of_lt_of_le (Heap.lt_size (I.pin p hp).1) (by rw[z];exact hb)) (Nat.lt_irrefl _)
structure Turn (P:Program)(w:World)(K:PySem.W.Frag)(tg:Expr)(J:It)(fp:List Addr)(it:Addr)(tn:Nat->Heap->Prop):Prop where
 mem:it∈fp
 obj:∀i h,tn i h->∀b∈fp,∃o,h.get? b=some o/\∀v,o.data ≠ .cell v
 keep:∀i h h',tn i h->(∀b∈fp,∀o,h.get? b=some o->h'.get? b=some o)->tn i h'
 item:∀(X:Cx),X.prog=P->X.w=w->X.K=K->X.calm=true->∀(i:Nat) (pins:List (Addr×Obj)) (s:Shared) (σ:St) (H:Hp) (E:Value->Shared->Prop),Inv X pins σ H s->(∀b∈fp,mN X pins H b)->tn i s.heap->J.go i H ->
   wpAny (model P w) X.A (pyNext (.ref it)) (fun r s1=>∃u,r=some u /\
     wpAny (model P w) X.A (letOwnedTupleGo tg (.ref it) u) (fun _ s2=>∃x H',Inv X pins σ H' s2/\RelV x u/\J.yld i H x H'/\tn (i+1) s2.heap/\∀b∈fp,H' b=none) E s1) E s
 done:∀(X:Cx),X.prog=P->X.w=w->X.K=K->X.calm=true->∀(i:Nat) (pins:List (Addr×Obj)) (s:Shared) (σ:St) (H:Hp) (E:Value->Shared->Prop),Inv X pins σ H s->(∀b∈fp,mN X pins H b)->tn i s.heap->J.stop i H ->
   wpAny (model P w) X.A (pyNext (.ref it)) (fun r s1=>r=none/\Inv X pins σ H s1) E s
 self:∀(A:Around) (i:Nat) (s:Shared) (Q:Value->Shared->Prop) (E:Value->Shared->Prop),tn i s.heap->Q (.ref it) s->wpAny (model P w) A (pyIter (.ref it)) Q E s
abbrev TI:=St->Hp->(It->Hp->Prop)->Prop
def PIE (X:Cx)(pins:List (Addr×Obj))(σ:St)(tg:Expr)(R:It->Hp->Prop)(itv:Value)(s2:Shared):Prop :=
 ∃(it:Addr) (fp:List Addr) (tn:Nat->Heap->Prop) (J:It) (H':Hp),itv = .ref it/\Inv X pins σ H' s2/\Turn X.prog X.w X.K tg J fp it tn/\tn 0 s2.heap/\(∀b∈fp,mN X pins H' b)/\R J H'
def PI (X:Cx)(tg iter:Expr)(wi:TI):Prop :=
 ∀(pins:List (Addr×Obj)) (s:Shared) (σ:St) (H:Hp) (R:It->Hp->Prop),Inv X pins σ H s->wi σ H R ->
   wpAny (model X.prog X.w) X.A (eval iter X.env) (fun v s1=>wpAny (model X.prog X.w) X.A (pyIter v) (PIE X pins σ tg R) X.xe s1) X.xe s
theorem zWT {M:Model}{A:Around}{E:Value->Shared->Prop}{s:Shared}{tg:Expr}{it:Addr}{u:Value}{o:Obj}{n:String}{vs:Array Value}{Q:Unit->Shared->Prop}(ho:s.heap.get? it=some o)(hc:o.cls = .type n)(hd:o.data = .fields vs)
   (hn:["enumerate","zip","dict_itemiterator","dict_reverseitemiterator","odict_iterator","itertools.zip_longest","itertools.pairwise"].contains n=false) (hQ:Q () s):wpAny M A (letOwnedTupleGo tg (.ref it) u) Q E s:=by
 unfold letOwnedTupleGo
 cases tg<;>first
   | exact wpAny_pure hQ
   | (cases u<;>first
       | exact wpAny_pure hQ
       | (refine wpAny_bind (wpAny_load ho ?_)
          rw[hc,hd]
          show wpAny M A (if (["enumerate","zip","dict_itemiterator","dict_reverseitemiterator","odict_iterator","itertools.zip_longest","itertools.pairwise"].contains n&&vs[0]?==some (rawInt _))=true then _ else _) Q E s
          rw[if_neg (by intro h;rw[hn,Bool.false_and] at h;cases h)]
          exact wpAny_pure hQ))
def Itl (K:PySem.W.Frag)(a:Addr):It :=
 ⟨fun i H=>∃xs x,SqL K H a xs/\xs[i]?=some x,fun i H x H'=>H'=H/\∀xs,SqL K H a xs->xs[i]?=some x,fun i H=>∃xs,SqL K H a xs/\xs.length<=i⟩
def Itt (K:PySem.W.Frag)(a:Addr):It :=
 ⟨fun i H=>∃xs x,SqT K H a xs/\xs[i]?=some x,fun i H x H'=>H'=H/\∀xs,SqT K H a xs->xs[i]?=some x,fun i H=>∃xs,SqT K H a xs/\xs.length<=i⟩
def Itr (lo:Int)(n:Nat):It:=⟨fun i _=>i < n,fun i H x H'=>H'=H/\x = .int (lo+i),fun i _=>n<=i⟩
theorem zTV {P:Program}{w:World}{K:PySem.W.Frag}{tg:Expr}(a it:Addr):Turn P w K tg (Itl K a) [it] it (fun i h=>h.IsListIter it a i) where
 mem:=by simp
 obj:=fun i h st b hb=>by
   have e:b=it:=by simpa using hb
   subst e
   obtain⟨o,e,c,d⟩:=st
   exact⟨o,e,fun v z=>by rw[d] at z;cases z⟩
 keep:=fun i h h' st k=>st.at fun o e=>k it (by simp) o e
 item:=by
   intro X hP hw hK hc i pins s σ H E I hf st hg
   subst hP hw hK
   obtain⟨xs,x,hq,hx⟩:=hg
   obtain⟨its,rv,p,hz⟩:=I.list hq
   obtain⟨u,hu,ru⟩:=rv.get hx
   obtain⟨f0,f1,f2,f3,f4,f5⟩:=hf it (by simp)
   refine wpAny_pyNext_list_item st p.isList (x:=u) (by simpa using hu) fun h' st' sb=>?_
   have I1:Inv X pins σ H { s with heap:=h' }:=I.turned (t':=s.toks) (fun b o hb e=>(sb.2 b hb).trans e) f0 f1 f3 f4 f5
   obtain⟨o,e,c,d⟩:=id st'
   exact⟨u,rfl,zWT (s:={ s with heap:=h' }) e c d (by decide) ⟨x,H,I1,ru,⟨rfl,fun ys hy=>by rw[I.list_inj hy hq];exact hx⟩,st',fun b hb=>(hf b hb).1⟩⟩
 done:=by
   intro X hP hw hK hc i pins s σ H E I hf st hg
   subst hP hw hK
   obtain⟨xs,hq,hx⟩:=hg
   obtain⟨its,rv,p,hz⟩:=I.list hq
   obtain⟨f0,f1,f2,f3,f4,f5⟩:=hf it (by simp)
   have hl:=rv.length
   exact wpAny_pyNext_list_end (I.ok.hd hc) st p.isList (by simp;omega) fun h' eb=>⟨rfl,I.turned (t':=s.toks) (fun b o hb e=>eb b o hb e) f0 f1 f3 f4 f5⟩
 self:=fun _ _ _ _ _ st h=>wpAny_pyIter_listiter st h
theorem zUN {P:Program}{w:World}{K:PySem.W.Frag}{tg:Expr}(a it:Addr):Turn P w K tg (Itt K a) [it] it (fun i h=>h.IsTupleIter it a i) where
 mem:=by simp
 obj:=fun i h st b hb=>by
   have e:b=it:=by simpa using hb
   subst e
   obtain⟨o,e,c,d⟩:=st
   exact⟨o,e,fun v z=>by rw[d] at z;cases z⟩
 keep:=fun i h h' st k=>st.at fun o e=>k it (by simp) o e
 item:=by
   intro X hP hw hK hc i pins s σ H E I hf st hg
   subst hP hw hK
   obtain⟨xs,x,hq,hx⟩:=hg
   obtain⟨its,rv,p,hz⟩:=I.tuple hq
   obtain⟨u,hu,ru⟩:=rv.get hx
   obtain⟨f0,f1,f2,f3,f4,f5⟩:=hf it (by simp)
   refine wpAny_pyNext_tuple_item st (show s.heap.IsTuple a its.toArray from p) (x:=u) (by simpa using hu) fun h' st' sb=>?_
   have I1:Inv X pins σ H { s with heap:=h' }:=I.turned (t':=s.toks) (fun b o hb e=>(sb.2 b hb).trans e) f0 f1 f3 f4 f5
   obtain⟨o,e,c,d⟩:=id st'
   exact⟨u,rfl,zWT (s:={ s with heap:=h' }) e c d (by decide) ⟨x,H,I1,ru,⟨rfl,fun ys hy=>by rw[I.tuple_inj hy hq];exact hx⟩,st',fun b hb=>(hf b hb).1⟩⟩
 done:=by
   intro X hP hw hK hc i pins s σ H E I hf st hg
   subst hP hw hK
   obtain⟨xs,hq,hx⟩:=hg
   obtain⟨its,rv,p,hz⟩:=I.tuple hq
   obtain⟨f0,f1,f2,f3,f4,f5⟩:=hf it (by simp)
   have hl:=rv.length
   exact wpAny_pyNext_tuple_end (I.ok.hd hc) st (show s.heap.IsTuple a its.toArray from p) (by simp;omega) fun h' eb=>⟨rfl,I.turned (t':=s.toks) (fun b o hb e=>eb b o hb e) f0 f1 f3 f4 f5⟩
 self:=fun _ _ _ _ _ st h=>wpAny_pyIter_tupleiter st h
theorem zVg {P:Program}{w:World}{K:PySem.W.Frag}{tg:Expr}(it:Addr)(lo:Int)(n:Nat):Turn P w K tg (Itr lo n) [it] it (fun i h=>IsRangeIter h it (lo+(i:Nat)*1) ((n:Int) - (i:Nat)) 1) where
 mem:=by simp
 obj:=fun i h st b hb=>by
   have e:b=it:=by simpa using hb
   subst e
   exact⟨_,st,fun v z=>by
     have z':Data.fields _=Data.cell v:=z
     cases z'⟩
 keep:=fun i h h' st k=>k it (by simp) _ st
 item:=by
   intro X hP hw hK hc i pins s σ H E I hf st hg
   subst hP hw hK
   obtain⟨f0,f1,f2,f3,f4,f5⟩:=hf it (by simp)
   have W:=Walks.range (prog:=X.prog) (w:=X.w) (I.ok.hd hc) it lo 1 n
   refine W.item i s _ _ hg st fun v h' tk hv st' kk=>?_
   obtain⟨t,rfl⟩:=hv
   have I1:Inv X pins σ H { s with heap:=h',toks:=tk }:=I.turned (fun b o hb e=>kk b o (by simpa using hb) e) f0 f1 f3 f4 f5
   refine⟨_,rfl,zWT (s:={ s with heap:=h',toks:=tk }) (n:="range_iterator") st' rfl rfl (by decide) ⟨.int (lo+i),H,I1,⟨t,?_⟩,⟨rfl,rfl⟩,st',fun b hb=>(hf b hb).1⟩⟩
   rw[Int.mul_one]
 done:=by
   intro X hP hw hK hc i pins s σ H E I hf st hg
   subst hP hw hK
   obtain⟨f0,f1,f2,f3,f4,f5⟩:=hf it (by simp)
   exact wpAny_pyNext_range_end (I.ok.hd hc) st (by have:n<=i:=hg;omega) fun h' eb=>⟨rfl,I.turned (t':=s.toks) (fun b o hb e=>eb b o hb e) f0 f1 f3 f4 f5⟩
 self:=fun _ _ _ _ _ st h=>wpAny_pyIter_rangeiter st h
end L2
namespace L2
open PySem PySem.Spec PyProof.Rows
section
variable {X:Cx} {tg:Expr}
def zNF (K:PySem.W.Frag)(tl:TE):TI:=fun σ H R=>tl σ H fun x H1=>∃a,x = .ref a/\(∃xs,SqL K H1 a xs)/\R (Itl K a) H1
def zNj (K:PySem.W.Frag)(tl:TE):TI:=fun σ H R=>tl σ H fun x H1=>∃a,x = .ref a/\(∃xs,SqT K H1 a xs)/\R (Itt K a) H1
theorem zU0 {l:Expr}{tl:TE}(hl:PE X l tl):PI X tg l (zNF X.K tl):=by
 intro pins s σ H R I h
 refine thn (hl pins s σ H _ I h) fun v s1 ⟨x,H1,I1,r1,q1⟩=>?_
 obtain⟨a,e,⟨xs,hq⟩,q⟩:=q1
 subst e
 cases r1
 obtain⟨its,rv,p,hz⟩:=I1.list hq
 refine wpAny_pyIter_list p.isList ?_
 refine⟨s1.heap.objs.size,[s1.heap.objs.size],_,_,H1,rfl,I1.kept (t':=s1.toks) fun b o e=>Heap.get?_push_of_some _ e,zTV a _,⟨_,Heap.get?_push_size _ rfl,rfl,rfl⟩,fun b hb=>?_,q⟩
 have e:b=s1.heap.objs.size:=by simpa using hb
 subst e
 exact I1.fpOk (Nat.le_refl _) (I1.hok.fresh (Nat.le_refl _))
theorem zO7 {l:Expr}{tl:TE}(hl:PE X l tl):PI X tg l (zNj X.K tl):=by
 intro pins s σ H R I h
 refine thn (hl pins s σ H _ I h) fun v s1 ⟨x,H1,I1,r1,q1⟩=>?_
 obtain⟨a,e,⟨xs,hq⟩,q⟩:=q1
 subst e
 cases r1
 obtain⟨its,rv,p,hz⟩:=I1.tuple hq
 refine wpAny_pyIter_tuple (show s1.heap.IsTuple a its.toArray from p) ?_
 refine⟨s1.heap.objs.size,[s1.heap.objs.size],_,_,H1,rfl,I1.kept (t':=s1.toks) fun b o e=>Heap.get?_push_of_some _ e,zUN a _,⟨_,Heap.get?_push_size _ rfl,rfl,rfl⟩,fun b hb=>?_,q⟩
 have e:b=s1.heap.objs.size:=by simpa using hb
 subst e
 exact I1.fpOk (Nat.le_refl _) (I1.hok.fresh (Nat.le_refl _))
theorem zWd {pins:List (Addr×Obj)}{σ:St}{H:Hp}{s:Shared}{R:It->Hp->Prop}{E:Value->Shared->Prop}{lo hi:Int}{t u v:Tok}{tk:Nat}(I:Inv X pins σ H s)(h1 : -(2^62)<=lo)(h2:lo < 2^62)(h3 : -(2^62)<=hi)(h4:hi < 2^62)
   (q:R (Itr lo (hi - lo).toNat) H):wpAny (model X.prog X.w) X.A (pyIter (.ref s.heap.objs.size)) (PIE X pins σ tg R) E { s with heap:=s.heap.push { cls:=.type "range",data:=.fields #[.int lo t,.int hi u,.int 1 v] },toks:=tk }:=by
 refine wpAny_pyIter_range (IsRange.new ..) (small_one h1 h2 h3 h4) ?_
 have I1:Inv X pins σ H { s with heap:=s.heap.push { cls:=.type "range",data:=.fields #[.int lo t,.int hi u,.int 1 v] },toks:=tk }:=I.kept fun b o e=>Heap.get?_push_of_some _ e
 refine⟨(s.heap.push { cls:=.type "range",data:=.fields #[.int lo t,.int hi u,.int 1 v] }).objs.size,[(s.heap.push { cls:=.type "range",data:=.fields #[.int lo t,.int hi u,.int 1 v] }).objs.size],_,_,H,rfl,
   I1.kept (t':=tk) fun b o e=>Heap.get?_push_of_some _ e,zVg _ lo (hi - lo).toNat,?_,fun b hb=>?_,q⟩
 · have e1:lo+((0:Nat):Int)*1=lo:=by simp
   have e2:(((hi - lo).toNat:Nat):Int) - ((0:Nat):Int)=Builtin.Range.rangeSize lo hi 1:=by rw[rangeSize_one];split<;>omega
   show IsRangeIter _ _ (lo+((0:Nat):Int)*1) ((((hi - lo).toNat:Nat):Int) - ((0:Nat):Int)) 1
   rw[e1,e2]
   exact Heap.get?_push_size _ rfl
 · have e:b=(s.heap.push { cls:=.type "range",data:=.fields #[.int lo t,.int hi u,.int 1 v] }).objs.size:=by simpa using hb
   subst e
   exact I1.fpOk (Nat.le_refl _) (I1.hok.fresh (Nat.le_refl _))
def zNN (ta:TA):TI:=fun σ H R=>ta σ H fun vs H1=>∃j:Int,vs=[.int j] /\ -(2^62)<=j/\j < 2^62/\R (Itr 0 j.toNat) H1
def zOk (ta:TA):TI:=fun σ H R=>ta σ H fun vs H1=>∃i j:Int,vs=[.int i,.int j]/\(-(2^62)<=i/\i < 2^62 /\ -(2^62)<=j/\j < 2^62)/\R (Itr i (j - i).toNat) H1
theorem zTc {a:Expr}{ta:TA}{p pos:Pos}(hg:Gl X "range")(hm:X.mg "range"=none)(ha:PA X [a] ta)(hs:starEach [a] X.env=[(false,eval a X.env)]:=by rfl):PI X tg (.Call (.Name "range" p) [a] [] pos) (zNN ta):=by
 intro pins s σ H R I h
 refine Call_ (pE I hg hm boot_range (PyProof.Rows.callWith_type1 (thn (ha pos pins s σ H _ I h) fun us s1 ⟨vs,H1,I1,r1,q1⟩=>?_) hs rfl))
 obtain⟨j,e,q1,q2,q⟩:=q1
 subst e
 cases r1 with
 | cons r rr =>
   cases rr
   obtain⟨t,rfl⟩:=r
   exact call_range_1 (zWd I1 (by omega) (by omega) q1 q2 (by simpa using q))
theorem zTz {a b:Expr}{ta:TA}{p pos:Pos}(hg:Gl X "range")(hm:X.mg "range"=none)(ha:PA X [a,b] ta)(hs:starEach [a,b] X.env=[(false,eval a X.env),(false,eval b X.env)]:=by rfl)(hs2:starEach [b] X.env=[(false,eval b X.env)]:=by rfl) :
   PI X tg (.Call (.Name "range" p) [a,b] [] pos) (zOk ta):=by
 intro pins s σ H R I h
 refine Call_ (pE I hg hm boot_range (PyProof.Rows.callWith_type1 (thn (ha pos pins s σ H _ I h) fun us s1 ⟨vs,H1,I1,r1,q1⟩=>?_) (by rw[hs,hs2]) (by rw[hs2];rfl)))
 obtain⟨i,j,e,⟨q1,q2,q3,q4⟩,q⟩:=q1
 subst e
 cases r1 with
 | cons r rr =>
   cases rr with
   | cons r' rr =>
     cases rr
     obtain⟨t,rfl⟩:=r
     obtain⟨t',rfl⟩:=r'
     exact call_range_2 (zWd I1 q1 q2 q3 q4 q)
def zN3 (wi:TI)(g:TG)(tb:TS):TS:=fun D σ H=>wi σ H fun J H1=>∃W:Nat->Nat->St->Hp->Prop,(∃m,W 0 m σ H1)/\∀i m σ H,W i m σ H ->
 (J.stop i H/\D.nx σ H)∨(J.go i H/\∃N:St->Hp->Prop,(∀σ' H',N σ' H'->∃m',m' < m/\W (i+1) m' σ' H')/\∀x H',J.yld i H x H'->g x σ H' fun σ2 H2=>tb { D with nx:=N,ct:=N,bk:=D.nx } σ2 H2)
def bJ (fp:List Addr)(h:Heap):List (Addr×Obj):=fp.filterMap fun b=>(h.get? b).map fun o=>(b,o)
theorem mD {fp:List Addr}{h:Heap}{b:Addr}{o:Obj}(hb:b∈fp)(e:h.get? b=some o):(b,o)∈bJ fp h:=List.mem_filterMap.mpr ⟨b,hb,by rw[e];rfl⟩
theorem zTB {fp:List Addr}{h:Heap}{p:Addr×Obj}(hp:p∈bJ fp h):p.1∈fp/\h.get? p.1=some p.2:=by
 obtain⟨b,hb,e⟩:=List.mem_filterMap.mp hp
 cases q:h.get? b with
 | none=>rw[q] at e;cases e
 | some o =>
   rw[q] at e
   have e':(b,o)=p:=Option.some.inj e
   subst e'
   exact⟨hb,q⟩
theorem Inv.pinned {pins:List (Addr×Obj)}{σ:St}{H:Hp}{s:Shared}{fp:List Addr}(I:Inv X pins σ H s)(hf:∀b∈fp,mN X pins H b)(ho:∀b∈fp,∃o,s.heap.get? b=some o/\∀v,o.data ≠ .cell v):Inv X (pins++bJ fp s.heap) σ H s :=
 I.pins_of fun p hp=>(List.mem_append.mp hp).elim (fun z=>I.pin p (List.mem_append_right _ z)) fun z=>by
   obtain⟨hb,e⟩:=zTB z
   obtain⟨f0,f1,f2,_⟩:=hf p.1 hb
   obtain⟨o,e',d⟩:=ho p.1 hb
   rw[e] at e';cases e'
   exact⟨e,f0,f1,f2,d⟩
theorem Inv.unpinned {pins pl:List (Addr×Obj)}{σ:St}{H:Hp}{s:Shared}(I:Inv X (pins++pl) σ H s):Inv X pins σ H s:=I.pins_of fun p hp=>I.pin p (List.mem_append_right _ (List.mem_append_left _ hp))
theorem zPj {iter:Expr}{body:List Stmt}{wi:TI}{g:TG}{tb:TS}{pos:Pos}(hp:PassesOwn (model X.prog X.w) X.A X.env X.xe)(hc:X.calm=true)(hi:PI X tg iter wi)(hg:PG X tg g)(hb:PSs X body tb)
   (hs:∀x,foldedSetIterable iter X.env x=pure x:=by intro _;rfl):PS X (.For tg iter body [] pos) (zN3 wi g tb):=by
 intro pins s σ H D I h
 refine wpAny_For (thn (hi pins s σ H _ I h) fun v s1 h1=>thn h1 fun itv s2 h2=>?_) hs
 obtain⟨it,fp,tn,J,H2,e,I2,T,st2,f2,W,⟨m0,w0⟩,turn⟩:=h2
 subst e
 -- what stays true of the iterator's objects through the loop
 have stat:∀ {H':Hp},(∀b∈fp,H' b=none)->∀b∈fp,mN X pins H' b:=fun hn b hb=>⟨hn b hb,(f2 b hb).2⟩
 refine codeAny_forLoop_any (fun n s'=>∃i σ' H',Inv X pins σ' H' s'/\tn i s'.heap/\(∀b∈fp,H' b=none)/\W i n σ' H') ?_ m0 ⟨0,σ,H2,I2,st2,fun b hb=>(f2 b hb).1,w0⟩
 rintro n s3 ⟨i,σ3,H3,I3,st3,fr3,w3⟩
 rcases turn i n σ3 H3 w3 with⟨stop,qn⟩ | ⟨go,N,hN,step⟩
 · refine wpAny_passesOwn hp (thn (T.done X rfl rfl rfl hc i pins s3 σ3 H3 X.xe I3 (stat fr3) st3 stop) fun r s4 ⟨hr,I4⟩=>?_)
   subst hr
   exact wpAny_execs_nil ⟨σ3,H3,I4,qn⟩
 · refine wpAny_passesOwn hp (thn (T.item X rfl rfl rfl hc i pins s3 σ3 H3 X.xe I3 (stat fr3) st3 go) fun r s4 ⟨u,hr,h4⟩=>?_)
   subst hr
   refine wpAny_passesOwn hp (thn h4 fun _ s5 ⟨x,H5,I5,r5,y5,st5,fr5⟩=>?_)
   have I5':=I5.pinned (stat fr5) (T.obj _ _ st5)
   refine wpAny_passesOwn hp (thn (hg _ s5 σ3 H5 x u _ I5' r5 (step x H5 y5)) fun _ s6 ⟨σ6,H6,I6,q6⟩=>?_)
   refine wpAny_passesOwn hp (thn (hb _ s6 σ6 H6 _ I6 q6) fun f s7 q7=>?_)
   have again:∀ {σ7:St} {H7:Hp},Inv X (pins++bJ fp s5.heap) σ7 H7 s7->N σ7 H7->∃m,m < n/\∃i σ' H',Inv X pins σ' H' s7/\tn i s7.heap/\(∀b∈fp,H' b=none)/\W i m σ' H':=fun {σ7 H7} I7 n7=>by
     obtain⟨m',hm,w7⟩:=hN σ7 H7 n7
     refine⟨m',hm,i+1,σ7,H7,I7.unpinned,T.keep _ _ _ st5 fun b hb o e=>(I7.pin (b,o) (List.mem_append_right _ (List.mem_append_right _ (mD hb e)))).1,fun b hb=>?_,w7⟩
     obtain⟨o,e,d⟩:=T.obj _ _ st5 b hb
     exact(I7.pin (b,o) (List.mem_append_right _ (List.mem_append_right _ (mD hb e)))).2.1
   cases f with
   | next=>obtain⟨σ7,H7,I7,n7⟩:=q7;exact again I7 n7
   | cont=>obtain⟨σ7,H7,I7,n7⟩:=q7;exact again I7 n7
   | brk=>obtain⟨σ7,H7,I7,q7⟩:=q7;exact⟨σ7,H7,I7.unpinned,q7⟩
   | ret v=>obtain⟨x7,σ7,H7,I7,r7,q7⟩:=q7;exact⟨x7,σ7,H7,I7.unpinned,r7,q7⟩
end
end L2
namespace L2
open PySem PySem.Spec PyProof.Rows
abbrev R2:=V->V->Hp->VK->Prop
def OpR (X:Cx)(f:Value->Value->Sem Value)(r:R2):Prop :=
 ∀(pins:List (Addr×Obj)) (s:Shared) (σ:St) (H:Hp) (x y:V) (v u:Value) (Q:VK),Inv X pins σ H s->RelV x v->RelV y u->r x y H Q ->
   wpAny (model X.prog X.w) X.A (f v u) (EP X pins σ Q) X.xe s
def UnR (X:Cx)(f:Value->Sem Value)(r:V->Hp->VK->Prop):Prop :=
 ∀(pins:List (Addr×Obj)) (s:Shared) (σ:St) (H:Hp) (x:V) (v:Value) (Q:VK),Inv X pins σ H s->RelV x v->r x H Q ->
   wpAny (model X.prog X.w) X.A (f v) (EP X pins σ Q) X.xe s
def CallR (X:Cx)(f:Value)(r:List V->Hp->VK->Prop):Prop :=
 ∀(pins:List (Addr×Obj)) (s:Shared) (σ:St) (H:Hp) (xs:List V) (us:List Value) (Q:VK),Inv X pins σ H s->Vals xs us->r xs H Q ->
   wpAny (model X.prog X.w) X.A (call f us) (EP X pins σ Q) X.xe s
def tOp (r:R2)(ta tb:TE):TE:=fun σ H Q=>ta σ H fun x H1=>tb σ H1 fun y H2=>r x y H2 Q
def tUn (r:V->Hp->VK->Prop)(ta:TE):TE:=fun σ H Q=>ta σ H fun x H1=>r x H1 Q
def rI (C:Int->Int->Prop)(g:Int->Int->V):R2:=fun x y H Q=>∃i j,x = .int i/\y = .int j/\C i j/\Q (g i j) H
def rI0 (g:Int->Int->V):R2:=fun x y H Q=>∃i j,x = .int i/\y = .int j/\Q (g i j) H
def rU (g:Int->V):V->Hp->VK->Prop:=fun x H Q=>∃i,x = .int i/\Q (g i) H
section
variable {X:Cx} {a b c:Expr} {ta tb tc:TE} {pos:Pos}
theorem zOK (ha:PE X a ta)(hb:PE X b tb){pins:List (Addr×Obj)}{s:Shared}{σ:St}{H:Hp}{R:V->V->Hp->Prop}(I:Inv X pins σ H s)
   (h:ta σ H fun x H1=>tb σ H1 fun y H2=>R x y H2) {Q:Value->Shared->Prop} {f:Value->Value->Sem Value}
   (hf:∀v u s2 x y H2,Inv X pins σ H2 s2->RelV x v->RelV y u->R x y H2->wpAny (model X.prog X.w) X.A (f v u) Q X.xe s2) :
   wpAny (model X.prog X.w) X.A (eval a X.env) (fun v s₁=>wpAny (model X.prog X.w) X.A (eval b X.env) (fun u s₂=>wpAny (model X.prog X.w) X.A (f v u) Q X.xe s₂) X.xe s₁) X.xe s:=by
 refine thn (ha pins s σ H _ I h) fun v s1 ⟨x,H1,I1,r1,q1⟩=>?_
 refine thn (hb pins s1 σ H1 _ I1 q1) fun u s2 ⟨y,H2,I2,r2,q2⟩=>?_
 exact hf v u s2 x y H2 I2 r1 r2 q2
theorem aZ {op:Operator}{r:R2}(ho:OpR X (binaryOp op) r)(ha:PE X a ta)(hb:PE X b tb):PE X (.BinOp a op b pos) (tOp r ta tb):=by
 intro pins s σ H Q I h
 exact wpAny_BinOp (zOK ha hb I h fun v u s2 x y H2 I2 rx ry q=>ho pins s2 σ H2 x y v u Q I2 rx ry q)
theorem zOn {op:UnaryOp}{r:V->Hp->VK->Prop}(ho:UnR X (unaryOp op) r)(ha:PE X a ta):PE X (.UnaryOp op a pos) (tUn r ta):=by
 intro pins s σ H Q I h
 exact UnaryOp_ (thn (ha pins s σ H _ I h) fun v s1 ⟨x,H1,I1,r1,q1⟩=>ho pins s1 σ H1 x v Q I1 r1 q1)
theorem opI {f:Value->Value->Sem Value}{C:Int->Int->Prop}{g:Int->Int->Int}
   (rule:∀(i j:Int) (t u:Tok) (s:Shared) (Q:Value->Shared->Prop) (E:Value->Shared->Prop),C i j->Q (.int (g i j) s.toks) { s with toks:=s.toks+1 }->wpAny (model X.prog X.w) X.A (f (.int i t) (.int j u)) Q E s) :
   OpR X f (rI C fun i j=>.int (g i j)):=by
 intro pins s σ H x y v u Q I rx ry h
 obtain⟨i,j,rfl,rfl,hc,q⟩:=h
 obtain⟨t,rfl⟩:=rx
 obtain⟨t',rfl⟩:=ry
 exact rule i j t t' s _ _ hc ⟨.int (g i j),H,I.tok _,⟨_,rfl⟩,q⟩
theorem zOG {f:Value->Value->Sem Value}{g:Int->Int->Int}
   (rule:∀(i j:Int) (t u:Tok) (s:Shared) (Q:Value->Shared->Prop) (E:Value->Shared->Prop),Q (.int (g i j) s.toks) { s with toks:=s.toks+1 }->wpAny (model X.prog X.w) X.A (f (.int i t) (.int j u)) Q E s) :
   OpR X f (rI0 fun i j=>.int (g i j)):=by
 intro pins s σ H x y v u Q I rx ry h
 obtain⟨i,j,rfl,rfl,q⟩:=h
 obtain⟨t,rfl⟩:=rx
 obtain⟨t',rfl⟩:=ry
 exact rule i j t t' s _ _ ⟨.int (g i j),H,I.tok _,⟨_,rfl⟩,q⟩
theorem zPW {f:Value->Value->Sem Value}{g:Int->Int->Bool}
   (rule:∀(i j:Int) (t u:Tok) (s:Shared) (Q:Value->Shared->Prop) (E:Value->Shared->Prop),Q (.bool (g i j)) s->wpAny (model X.prog X.w) X.A (f (.int i t) (.int j u)) Q E s) :
   OpR X f (rI0 fun i j=>.bl (g i j)):=by
 intro pins s σ H x y v u Q I rx ry h
 obtain⟨i,j,rfl,rfl,q⟩:=h
 obtain⟨t,rfl⟩:=rx
 obtain⟨t',rfl⟩:=ry
 exact rule i j t t' s _ _ ⟨.bl (g i j),H,I,rfl,q⟩
def zNh (i j:Int):Prop:=0 < j/\j < 1073741824
def zNU (i j:Int):Prop:=0<=j/\j<=1000000/\i.natAbs < 2^64
def CMul (i j:Int):Prop:=(-(2^64) < i/\i < 2^64)∨(-(2^64) < j/\j < 2^64)
theorem CMul.ok {i j:Int}(h:CMul i j):IntMulOk i j:=by
 rcases h with⟨h1,h2⟩ | ⟨h1,h2⟩
 · exact .of_left (intBits_le_64 h1 h2)
 · exact .of_right (intBits_le_64 h1 h2)
theorem zVm (k:Nat):(0:Int)<=2^k:=by
 rw[two_pow_cast]
 exact Int.natCast_nonneg _
theorem op_add:OpR X (binaryOp .Add) (rI0 fun i j=>.int (i+j)):=zOG fun _ _ _ _ _ _ _ q=>add_int q
theorem zPJ:OpR X (binaryOp .Sub) (rI0 fun i j=>.int (i - j)):=zOG fun _ _ _ _ _ _ _ q=>sub_int q
theorem zPz:OpR X (binaryOp .Mult) (rI CMul fun i j=>.int (i*j)):=opI fun _ _ _ _ _ _ _ hc q=>mul_int q hc.ok
theorem zRa:OpR X (binaryOp .FloorDiv) (rI zNh fun i j=>.int (i / j)):=opI fun i j _ _ _ _ _ hc q=>by
 have h1:(0:Int) < j:=hc.1
 have h2:j < 1073741824:=hc.2
 exact floordiv_int (by omega) (by rw[Int.fdiv_eq_ediv_of_nonneg i (by omega)];exact q) (.inl (PyProof.noPylong_small (by omega)))
theorem zO6:OpR X (binaryOp .Mod) (rI (fun _ j=>0 < j) fun i j=>.int (i % j)):=opI fun i j _ _ _ _ _ hc q=>by
 have h1:(0:Int) < j:=hc
 exact mod_int' (by omega) (by rw[Int.fmod_eq_emod_of_nonneg i (by omega)];exact q)
theorem zPt:OpR X (binaryOp .Pow) (rI zNU fun i j=>.int (i^j.toNat)):=opI fun _ _ _ _ _ _ _ hc q=>pow_int_small hc.1 hc.2.1 hc.2.2 q
theorem zPc:OpR X (binaryOp .RShift) (rI (fun _ j=>0<=j) fun i j=>.int (i / 2^j.toNat)):=opI fun i j _ _ _ _ _ hc q =>
 rshift_int hc (by rw[Int.fdiv_eq_ediv_of_nonneg i (zVm _)];exact q)
theorem zOC:OpR X (binaryOp .BitXor) (rI0 fun i j=>.int (Builtin.bitXor i j)):=zOG fun _ _ _ _ _ _ _ q=>xor_int q
theorem unI {f:Value->Sem Value}{g:Int->Int}
   (rule:∀(i:Int) (t:Tok) (s:Shared) (Q:Value->Shared->Prop) (E:Value->Shared->Prop),Q (.int (g i) s.toks) { s with toks:=s.toks+1 }->wpAny (model X.prog X.w) X.A (f (.int i t)) Q E s) :
   UnR X f (rU fun i=>.int (g i)):=by
 intro pins s σ H x v Q I rx h
 obtain⟨i,rfl,q⟩:=h
 obtain⟨t,rfl⟩:=rx
 exact rule i t s _ _ ⟨.int (g i),H,I.tok _,⟨_,rfl⟩,q⟩
theorem zOX:UnR X (unaryOp .USub) (rU fun i=>.int (-i)):=unI fun _ _ _ _ _ q=>neg_int q
end
def zPa:V->V->Bool
 | .non,.non=>true | .non,.int _=>true | .int _,.non=>true | .non,.bl _=>true | .bl _,.non=>true | .non,.str _=>true | .str _,.non=>true
 | .int _,.int _=>true | .bl _,.bl _=>true | .str _,.str _=>true | .byt _,.byt _=>true
 | .int _,.str _=>true | .str _,.int _=>true | .bl _,.str _=>true | .str _,.bl _=>true
 | _,_=>false
def rEq:R2:=fun x y H Q=>zPa x y=true/\Q (.bl (decide (x=y))) H
def rNe:R2:=fun x y H Q=>zPa x y=true/\Q (.bl (!decide (x=y))) H
theorem zUn {i j:Int}:decide (V.int i=V.int j)=(i==j):=by
 rw[Bool.eq_iff_iff]
 simp
theorem zXN {i j:Bool}:decide (V.bl i=V.bl j)=(i==j):=by
 rw[Bool.eq_iff_iff]
 simp
theorem zUw {i j:Str}:decide (V.str i=V.str j)=(i==j):=by
 rw[Bool.eq_iff_iff]
 simp
theorem zUH {i j:Array UInt8}:decide (V.byt i=V.byt j)=(i.toList==j.toList):=by
 rw[Bool.eq_iff_iff]
 cases i
 cases j
 simp
section
variable {X:Cx} {a b c:Expr} {ta tb tc:TE} {pos:Pos}
theorem yI {pins:List (Addr×Obj)}{σ:St}{H:Hp}{s:Shared}{Q:VK}{k k':Bool}(I:Inv X pins σ H s)(q:Q (.bl k) H)(e:k=k'):EP X pins σ Q (.bool k') s:=by
 subst e
 exact⟨.bl k,H,I,rfl,q⟩
theorem zNQ:OpR X (compareOp .Eq) rEq:=by
 intro pins s σ H x y v u Q I rx ry h
 obtain⟨hs,q⟩:=h
 cases x with
 | non =>
   cases rx
   cases y with
   | non=>cases ry;exact PySem.EqNone.eq_none_none (yI I q (by simp))
   | bl j=>cases ry;exact PySem.EqNone.eq_none_bool (yI I q (by simp))
   | int j=>obtain⟨t',rfl⟩:=ry;exact PySem.EqNone.eq_none_int (yI I q (by simp))
   | str j=>obtain⟨t',rfl⟩:=ry;exact PySem.EqNone.eq_none_str (yI I q (by simp))
   | _=>exact absurd (show false=true from hs) Bool.false_ne_true
 | bl i =>
   cases rx
   cases y with
   | non=>cases ry;exact PySem.EqNone.eq_bool_none (yI I q (by simp))
   | bl j=>cases ry;exact eq_bool (yI I q zXN)
   | str j=>obtain⟨t',rfl⟩:=ry;exact PySem.EqMixed.eq_bool_str (yI I q (by simp))
   | _=>exact absurd (show false=true from hs) Bool.false_ne_true
 | int i =>
   obtain⟨t,rfl⟩:=rx
   cases y with
   | non=>cases ry;exact PySem.EqNone.eq_int_none (yI I q (by simp))
   | int j=>obtain⟨t',rfl⟩:=ry;exact eq_int (yI I q zUn)
   | str j=>obtain⟨t',rfl⟩:=ry;exact PySem.EqMixed.eq_int_str (yI I q (by simp))
   | _=>exact absurd (show false=true from hs) Bool.false_ne_true
 | str i =>
   obtain⟨t,rfl⟩:=rx
   cases y with
   | non=>cases ry;exact PySem.EqNone.eq_str_none (yI I q (by simp))
   | bl j=>cases ry;exact PySem.EqMixed.eq_str_bool (yI I q (by simp))
   | int j=>obtain⟨t',rfl⟩:=ry;exact PySem.EqMixed.eq_str_int (yI I q (by simp))
   | str j=>obtain⟨t',rfl⟩:=ry;exact eq_str (yI I q zUw)
   | _=>exact absurd (show false=true from hs) Bool.false_ne_true
 | byt i =>
   obtain⟨t,rfl⟩:=rx
   cases y with
   | byt j=>obtain⟨t',rfl⟩:=ry;exact PySem.W.eq_bytes (yI I q zUH)
   | _=>exact absurd (show false=true from hs) Bool.false_ne_true
 | _=>cases y<;>exact absurd (show false=true from hs) Bool.false_ne_true
theorem zOg:OpR X (compareOp .NotEq) rNe:=by
 intro pins s σ H x y v u Q I rx ry h
 obtain⟨hs,q⟩:=h
 cases x with
 | non =>
   cases rx
   cases y with
   | non=>cases ry;exact PySem.EqNone.ne_none_none (yI I q (by simp))
   | bl j=>cases ry;exact PySem.EqNone.ne_none_bool (yI I q (by simp))
   | int j=>obtain⟨t',rfl⟩:=ry;exact PySem.EqNone.ne_none_int (yI I q (by simp))
   | str j=>obtain⟨t',rfl⟩:=ry;exact PySem.EqNone.ne_none_str (yI I q (by simp))
   | _=>exact absurd (show false=true from hs) Bool.false_ne_true
 | bl i =>
   cases rx
   cases y with
   | non=>cases ry;exact PySem.EqNone.ne_bool_none (yI I q (by simp))
   | bl j=>cases ry;exact ne_bool (yI I q (congrArg not zXN))
   | str j=>obtain⟨t',rfl⟩:=ry;exact PySem.EqMixed.ne_bool_str (yI I q (by simp))
   | _=>exact absurd (show false=true from hs) Bool.false_ne_true
 | int i =>
   obtain⟨t,rfl⟩:=rx
   cases y with
   | non=>cases ry;exact PySem.EqNone.ne_int_none (yI I q (by simp))
   | int j=>obtain⟨t',rfl⟩:=ry;exact ne_int (yI I q (congrArg not zUn))
   | str j=>obtain⟨t',rfl⟩:=ry;exact PySem.EqMixed.ne_int_str (yI I q (by simp))
   | _=>exact absurd (show false=true from hs) Bool.false_ne_true
 | str i =>
   obtain⟨t,rfl⟩:=rx
   cases y with
   | non=>cases ry;exact PySem.EqNone.ne_str_none (yI I q (by simp))
   | bl j=>cases ry;exact PySem.EqMixed.ne_str_bool (yI I q (by simp))
   | int j=>obtain⟨t',rfl⟩:=ry;exact PySem.EqMixed.ne_str_int (yI I q (by simp))
   | str j=>obtain⟨t',rfl⟩:=ry;exact ne_str (yI I q (congrArg not zUw))
   | _=>exact absurd (show false=true from hs) Bool.false_ne_true
 | byt i =>
   obtain⟨t,rfl⟩:=rx
   cases y with
   | byt j=>obtain⟨t',rfl⟩:=ry;exact PySem.W.ne_bytes (yI I q (congrArg not zUH))
   | _=>exact absurd (show false=true from hs) Bool.false_ne_true
 | _=>cases y<;>exact absurd (show false=true from hs) Bool.false_ne_true
theorem zNP:OpR X (compareOp .Lt) (rI0 fun i j=>.bl (decide (i < j))):=zPW fun _ _ _ _ _ _ _ q=>lt_int q
theorem zOr:OpR X (compareOp .LtE) (rI0 fun i j=>.bl (decide (i<=j))):=zPW fun _ _ _ _ _ _ _ q=>le_int q
theorem zNG:OpR X (compareOp .Gt) (rI0 fun i j=>.bl (decide (j < i))):=zPW fun _ _ _ _ _ _ _ q=>gt_int q
theorem zOb:OpR X (compareOp .GtE) (rI0 fun i j=>.bl (decide (j<=i))):=zPW fun _ _ _ _ _ _ _ q=>ge_int q
theorem zTu:OpR X (compareOp .In) (fun x y H Q=>∃i j,x = .str i/\y = .str j/\Q (.bl (!(Builtin.Str.occurrences j i 0 j.length 1).isEmpty)) H):=by
 intro pins s σ H x y v u Q I rx ry h
 obtain⟨i,j,rfl,rfl,q⟩:=h
 obtain⟨t,rfl⟩:=rx
 obtain⟨t',rfl⟩:=ry
 exact in_str (yI I q rfl)
theorem op_isN:OpR X (compareOp .Is) (fun x y H Q=>y = .non/\Q (.bl (decide (x = .non))) H):=by
 intro pins s σ H x y v u Q I rx ry h
 obtain⟨rfl,q⟩:=h
 cases ry
 refine is_none_gen (yI I q ?_)
 cases x<;>first
   | (cases rx;rfl)
   | (obtain⟨t,rfl⟩:=rx;rfl)
theorem zRc:OpR X (compareOp .IsNot) (fun x y H Q=>y = .non/\Q (.bl (!decide (x = .non))) H):=by
 intro pins s σ H x y v u Q I rx ry h
 obtain⟨rfl,q⟩:=h
 cases ry
 refine isnot_none_gen (yI I q ?_)
 cases x<;>first
   | (cases rx;rfl)
   | (obtain⟨t,rfl⟩:=rx;rfl)
theorem OpR.or {f:Value->Value->Sem Value}{r r':R2}(h:OpR X f r)(h':OpR X f r'):OpR X f (fun x y H Q=>r x y H Q∨r' x y H Q):=by
 intro pins s σ H x y v u Q I rx ry q
 rcases q with q | q
 · exact h pins s σ H x y v u Q I rx ry q
 · exact h' pins s σ H x y v u Q I rx ry q
theorem aL (b:Expr){op:CmpOp}(h:op ≠ .In:=by decide)(h2:op ≠ .NotIn:=by decide):behindInMarks op b=false:=by
 have e1:(op==CmpOp.In)=false:=by cases op<;>first | rfl | exact absurd rfl h
 have e2:(op==CmpOp.NotIn)=false:=by cases op<;>first | rfl | exact absurd rfl h2
 cases b<;>simp[behindInMarks,e1,e2]
theorem zQN {op:CmpOp}{r:R2}(ho:OpR X (compareOp op) r)(ha:PE X a ta)(hb:PE X b tb)(hm:behindInMarks op b=false):PE X (.Compare a [op] [b] pos) (tOp r ta tb):=by
 intro pins s σ H Q I h
 exact wpAny_Compare1 (zOK ha hb I h fun v u s2 x y H2 I2 rx ry q=>ho pins s2 σ H2 x y v u Q I2 rx ry q) hm
def zRF (t:TE):TT:=fun σ H Q=>t σ H fun x H'=>∃k,x = .bl k/\Q k H'
theorem cH {op:CmpOp}{r:R2}(ho:OpR X (compareOp op) r)(ha:PE X a ta)(hb:PE X b tb)(hm:behindInMarks op b=false):PT X (.Compare a [op] [b] pos) (zRF (tOp r ta tb)):=by
 intro pins s σ H Q I h
 refine wpAny_isTrue_Compare1 (thn (ha pins s σ H _ I h) fun v s1 ⟨x,H1,I1,r1,q1⟩=>thn (hb pins s1 σ H1 _ I1 q1) fun u s2 ⟨y,H2,I2,r2,q2⟩ =>
   thn (ho pins s2 σ H2 x y v u _ I2 r1 r2 q2) fun c s3 ⟨z,H3,I3,r3,k,e,q3⟩=>?_) hm
 subst e
 cases r3
 exact wpAny_truthy_bool ⟨H3,I3,q3⟩
def zRp (r r':R2)(ta tb tc:TE):TE:=fun σ H Q=>ta σ H fun x H1=>tb σ H1 fun y H2=>r x y H2 fun z H3=>∃k,z = .bl k /\
 (if k=true then tc σ H3 fun w' H4=>r' y w' H4 Q else Q (.bl false) H3)
theorem zSS {op op':CmpOp}{r r':R2}(ho:OpR X (compareOp op) r)(ho':OpR X (compareOp op') r')(ha:PE X a ta)(hb:PE X b tb)(hc:PE X c tc)
   (hm:lastMarks [op,op'] [b,c]=false:=by with_unfolding_all rfl):PE X (.Compare a [op,op'] [b,c] pos) (zRp r r' ta tb tc):=by
 intro pins s σ H Q I h
 refine Compare_chain (thn (ha pins s σ H _ I h) fun v s1 ⟨x,H1,I1,r1,q1⟩=>chain_link (thn (hb pins s1 σ H1 _ I1 q1) fun u s2 ⟨y,H2,I2,r2,q2⟩ =>
   thn (ho pins s2 σ H2 x y v u _ I2 r1 r2 q2) fun d s3 ⟨z,H3,I3,r3,k,e,q3⟩=>?_)) hm
 subst e
 cases r3
 refine wpAny_truthy_bool ?_
 cases k with
 | false=>exact ite_ff ⟨.bl false,H3,I3,rfl,q3⟩
 | true=>exact ite_tt (chain_last (thn (hc pins s3 σ H3 _ I3 q3) fun w' s4 ⟨z',H4,I4,r4,q4⟩=>ho' pins s4 σ H4 y z' u w' Q I4 r2 r4 q4))
theorem zRE {op op':CmpOp}{r r':R2}(ho:OpR X (compareOp op) r)(ho':OpR X (compareOp op') r')(ha:PE X a ta)(hb:PE X b tb)(hc:PE X c tc)
   (hm:lastMarks [op,op'] [b,c]=false:=by with_unfolding_all rfl):PT X (.Compare a [op,op'] [b,c] pos) (zRF (zRp r r' ta tb tc)):=by
 intro pins s σ H Q I h
 refine isTrue_chain (thn (ha pins s σ H _ I h) fun v s1 ⟨x,H1,I1,r1,q1⟩=>test_link (thn (hb pins s1 σ H1 _ I1 q1) fun u s2 ⟨y,H2,I2,r2,q2⟩ =>
   thn (ho pins s2 σ H2 x y v u _ I2 r1 r2 q2) fun d s3 ⟨z,H3,I3,r3,k,e,q3⟩=>?_)) hm
 subst e
 cases r3
 refine wpAny_truthy_bool ?_
 cases k with
 | false =>
   obtain⟨k',e',q'⟩:=q3
   cases e'
   exact ite_ff ⟨H3,I3,q'⟩
 | true =>
   refine ite_tt (test_last (thn (hc pins s3 σ H3 _ I3 q3) fun w' s4 ⟨z',H4,I4,r4,q4⟩=>thn (ho' pins s4 σ H4 y z' u w' _ I4 r2 r4 q4) fun d' s5 ⟨z2,H5,I5,r5,k2,e2,q5⟩=>?_))
   subst e2
   cases r5
   exact wpAny_truthy_bool ⟨H5,I5,q5⟩
theorem eO:(sizeLine:Nat) < 2^63:=by rw[sizeLine_eq];decide
theorem zVI:OpR X (binaryOp .Add) (fun x y H Q=>∃i j,x = .str i/\y = .str j/\i.length+j.length<=sizeLine/\Q (.str (i++j)) H):=by
 intro pins s σ H x y v u Q I rx ry h
 obtain⟨i,j,rfl,rfl,hz,q⟩:=h
 obtain⟨t,rfl⟩:=rx
 obtain⟨t',rfl⟩:=ry
 exact add_str (fun t' tk=>⟨.str (i++j),H,I.tok _,⟨_,rfl⟩,q⟩) hz
theorem pR {x:V}{us:List Value}(r:Vals [x] us):∃u,us=[u]/\RelV x u:=by
 cases r with
 | cons r1 r2=>cases r2;exact⟨_,rfl,r1⟩
theorem zRH {x y:V}{us:List Value}(r:Vals [x,y] us):∃u w',us=[u,w']/\RelV x u/\RelV y w':=by
 cases r with
 | cons r1 r2 =>
   cases r2 with
   | cons r3 r4=>cases r4;exact⟨_,_,rfl,r1,r3⟩
theorem call_int1:CallR X (.type "int") (fun xs H Q=>(∃i,xs=[.int i]/\Q (.int i) H)∨∃k,xs=[.bl k]/\Q (.int (if k then 1 else 0)) H):=by
 intro pins s σ H xs us Q I r h
 rcases h with⟨i,rfl,q⟩ | ⟨k,rfl,q⟩
 · obtain⟨u,rfl,t,rfl⟩:=pR r
   exact call_int_int ⟨.int i,H,I,⟨_,rfl⟩,q⟩
 · obtain⟨u,rfl,r1⟩:=pR r
   cases r1
   exact call_int_bool ⟨.int (if k then 1 else 0),H,I.tok _,⟨_,rfl⟩,q⟩
theorem zXu:CallR X (.type "str") (fun xs H Q=>∃i,xs=[.int i]/\i.natAbs.log2 < 1920/\Q (.str (toString i)) H):=by
 intro pins s σ H xs us Q I r h
 obtain⟨i,rfl,hz,q⟩:=h
 obtain⟨u,rfl,t,rfl⟩:=pR r
 exact PySem.P.str_of_int hz ⟨.str _,H,I.tok _,⟨_,rfl⟩,q⟩
end
end L2
namespace L2
open PySem PySem.Spec PyProof.Rows
structure ObjM (h:Heap)(x dx C:Addr)(mA:Str->Option Value):Prop where
 obj:h.get? x=some (PySem.W.instObj C dx)
 ns:h.Ns1 dx mA
 ne:dx≠x
theorem zTS {h:Heap}{dx:Addr}{mA:Str->Option Value}(n:h.Ns1 dx mA):∃od,h.get? dx=some od/\∀name,PySem.W.lookIn name od=some (mA name):=by
 obtain⟨o,es,ep,ho,hd,hk,_,hm⟩:=n
 refine⟨o,ho,fun name=>?_⟩
 have e:=hm name
 unfold nsFind findBy at e
 rw[←Array.find?_toList] at e
 unfold PySem.W.lookIn
 rw[hd]
 dsimp only
 split
 · rename_i y q
   rw[q] at e
   exact congrArg some e
 · rename_i q
   rw[q] at e
   have a:es.toList.any (·.refKey)=false:=by
     rw[List.any_eq_false]
     intro y hy
     obtain⟨z,t,hkey⟩:=hk y (Array.mem_toList_iff.mp hy)
     simp[DictEntry.refKey,hkey]
   have a':¬es.toList.any (·.refKey)=true:=by rw[a];exact Bool.false_ne_true
   rw[if_neg a']
   exact congrArg some e
theorem ObjM.look {h:Heap}{x dx C:Addr}{mA:Str->Option Value}(I:ObjM h x dx C mA):∃od,PySem.W.InstAt h x (PySem.W.instObj C dx) C (some od)/\∀name,PySem.W.lookIn name od=some (mA name) :=
 let ⟨od,ho,hl⟩:=zTS I.ns
 ⟨od,⟨I.obj,rfl,rfl,ho⟩,hl⟩
section
variable {prog:Program} {w:World} {A:Around} {E:Value->Shared->Prop} {s:Shared} {K:PySem.W.Frag} {x dx C f:Addr} {mA:Str->Option Value} {name:Str} {v:Value}
theorem zRi {expr:Bool}{Q:Value->Shared->Prop}(X:K.In s.heap)(I:ObjM s.heap x dx C mA)(hg:PySem.W.plainGet K C name=true)(hh:PySem.W.hasDictIn K C=true)
   (ha:PySem.W.findIn K (.ref C) name=some none) (hv:mA name=some v) (hv':PySem.W.handedIn v=true) (h:Q v { s with toks:=s.toks+1 }) :
   wpAny (model prog w) A (getAttr (.ref x) name expr) Q E s:=by
 obtain⟨od,J,hl⟩:=I.look
 exact PySem.W.get_value X J (PySem.W.plainGet_of hg).1 (PySem.W.findObj_own hh ha rfl (by rw[hl,hv])) hv' h
theorem zQk {ns:List Str}{Q:Unit->Shared->Prop}(X:K.In s.heap)(I:ObjM s.heap x dx C mA)
   (hs:PySem.W.findIn K (.ref C) "__setattr__"=some (some (.builtin "object.__setattr__"))) (hp:PySem.W.plainOver K C=true) (ht:PySem.W.takerIn K C name=some none) (hh:PySem.W.hasDictIn K C=true)
   (hw:PySem.Within mA ns) (hsz:ns.length<=sizeLine)
   (h:∀h',ObjM h' x dx C (fun y=>if y=name then some v else mA y)->Heap.SameBut dx s.heap h'->Q () { s with heap:=h',toks:=s.toks+2 }) :
   wpAny (model prog w) A (setAttr (.ref x) name v) Q E s:=by
 obtain⟨od,J,hl⟩:=I.look
 refine PySem.W.set_plain X J hs (PySem.W.osa_open (s:={ s with toks:=s.toks+1 }) (r:=none) X J hp ht fun b=>?_)
 obtain⟨cd,hc,hd'⟩:=PySem.W.any_some hh
 have hx:s.heap.get? x=some ⟨.ref C,some dx,.plain,#[]⟩:=I.obj
 refine wpAny_bind (wpAny_pure (wpAny_bind (wpAny_bind (wpAny_loadPart hx (wpAny_bind (PySem.W.Looks.here (s:={ s with toks:=s.toks+1 }) (PySem.W.looks_clsIn X hc) ?_))))))
 rw[hd']
 refine wpAny_pure (a:=some dx) (wpAny_bind (wpAny_pure (wpAny_bind ?_)))
 refine wpAny_nsSet1 (s:={ s with toks:=s.toks+1 }) I.ns fun h' hn2 hs2=>?_
 obtain⟨oD,esD,epD,hoD,hdD,hcD⟩:=hn2.count (PySem.Within.cons name v hw)
 refine wpAny_bind (wpAny_lookBehind hoD (by rw[hdD];exact pastItsLine_dict (Nat.le_trans hcD (by rw[List.length_cons];omega))) ?_)
 exact wpAny_pure (h _ ⟨(hs2.2 _ (Ne.symm I.ne)).trans I.obj,hn2,I.ne⟩ hs2)
theorem zRy {R:Result->Shared->Prop}{vs:List Value}{kw:List (Str×Value)}(X:K.In s.heap)(hm:PySem.W.makesIn K C=true)
   (hi:PySem.W.findIn K (.ref C) "__init__"=some (some (.ref f))) (hf:PySem.W.typeIn K (.ref f)=some (.type "function"))
   (h:codeAny (model prog w) (A.under (.builtin "type.__call__" ⟨.ref C::vs,kw⟩)) (.call (.ref f) ⟨.ref (s.heap.objs.size+1)::vs,kw⟩) (PySem.W.InitBack (s.heap.objs.size+1) R)
     { s with heap:=(s.heap.push PySem.W.emptyDict).push (PySem.W.instObj C s.heap.objs.size) }) :
   codeAny (model prog w) A (.call (.ref C) ⟨vs,kw⟩) R s:=by
 obtain⟨hh,g,d,t,os⟩:=s
 exact PySem.W.make_core (PySem.W.makes_of X hm) (PySem.W.looks_findIn X hi) (fun self=>PySem.W.bind_fn X self hf) (.inl rfl) h
end
def kS (f:Str)(v:V):List (Str×V)->List (Str×V)
 | []=>[(f,v)]
 | (g,x)::r=>if g=f then(g,v)::r else(g,x)::kS f v r
theorem dN (f g:Str)(v:V):∀fs:List (Str×V),(kS f v fs).lookup g=if g=f then some v else fs.lookup g
 | []=>by
   show List.lookup g [(f,v)]=_
   by_cases h:g=f
   · have hb:(g==f)=true:=beq_iff_eq.mpr h
     simp only[List.lookup,hb,if_pos h]
   · have hb:(g==f)=false:=beq_eq_false_iff_ne.mpr h
     simp only[List.lookup,hb,if_neg h]
 | (k,x)::r=>by
   have ih:=dN f g v r
   rw[show kS f v ((k,x)::r)=(if k=f then(k,v)::r else(k,x)::kS f v r) from rfl]
   by_cases hk:k=f
   · rw[if_pos hk]
     by_cases h:g=k
     · have hb:(g==k)=true:=beq_iff_eq.mpr h
       simp only[List.lookup,hb,if_pos (h.trans hk)]
     · have hb:(g==k)=false:=beq_eq_false_iff_ne.mpr h
       simp only[List.lookup,hb,if_neg (fun e:g=f=>h (e.trans hk.symm))]
   · rw[if_neg hk]
     by_cases h:g=k
     · have hb:(g==k)=true:=beq_iff_eq.mpr h
       simp only[List.lookup,hb,if_neg (fun e:g=f=>hk (h.symm.trans e))]
     · have hb:(g==k)=false:=beq_eq_false_iff_ne.mpr h
       simp only[List.lookup,hb]
       exact ih
theorem dR (f:Str)(v:V):∀fs:List (Str×V),f∈(kS f v fs).map (·.1)/\∀g,g∈fs.map (·.1)->g∈(kS f v fs).map (·.1)
 | []=>⟨by simp[kS],fun g h=>by simp at h⟩
 | (k,x)::r=>by
   obtain⟨i1,i2⟩:=dR f v r
   rw[show kS f v ((k,x)::r)=(if k=f then(k,v)::r else(k,x)::kS f v r) from rfl]
   by_cases hk:k=f
   · rw[if_pos hk]
     subst hk
     exact⟨by simp,fun g h=>by simpa using h⟩
   · rw[if_neg hk]
     refine⟨?_,fun g h=>?_⟩
     · rw[List.map_cons]
       exact List.mem_cons_of_mem _ i1
     · rw[List.map_cons] at h ⊢
       rcases List.mem_cons.mp h with e | e
       · exact List.mem_cons.mpr (.inl e)
       · exact List.mem_cons_of_mem _ (i2 g e)
theorem dO (f:Str)(v:V):∀fs:List (Str×V),(kS f v fs).length<=fs.length+1
 | []=>by simp[kS]
 | (k,x)::r=>by
   have ih:=dO f v r
   rw[show kS f v ((k,x)::r)=(if k=f then(k,v)::r else(k,x)::kS f v r) from rfl]
   by_cases hk:k=f
   · rw[if_pos hk,List.length_cons,List.length_cons];omega
   · rw[if_neg hk,List.length_cons,List.length_cons];omega
theorem RelO.some_of {v:V}{o:Option Value}(r:RelO (some v) o):∃u,o=some u/\RelV v u:=by
 cases o with
 | none=>exact(show False from r).elim
 | some u=>exact⟨u,rfl,r⟩
theorem zTL {v:V}{u:Value}(r:RelV v u):PySem.W.handedIn u=true:=by
 cases v with
 | non=>cases (show u=Value.none from r);rfl
 | bl b=>cases (show u=Value.bool b from r);rfl
 | int i=>obtain⟨t,e⟩:=(show ∃t,u=Value.int i t from r);cases e;rfl
 | str x=>obtain⟨t,e⟩:=(show ∃t,u=Value.str x t from r);cases e;rfl
 | byt b=>obtain⟨t,e⟩:=(show ∃t,u=Value.bytes b t from r);cases e;rfl
 | flt b=>obtain⟨t,e⟩:=(show ∃t,u=Value.float b t from r);cases e;rfl
 | ref a=>cases (show u=Value.ref a from r);rfl
 | ty n=>cases (show u=Value.type n from r);rfl
section
variable {P:Program} {w:World} {H H':Hp} {h h':Heap} {a C dx:Addr} {fs fs':List (Str×V)}
theorem zU9 (hok:HOk P w H h)(e:H a=some (.ins C dx fs)):∃mA,ObjM h a dx C mA/\(∀f,RelO (fs.lookup f) (mA f))/\PySem.Within mA (fs.map (·.1))/\fs.length<=1000/\H dx=some (.own a):=by
 obtain⟨d,z,ne,ob,mA,n,r,q⟩:=(show ObjOk P w H h a (.ins C dx fs) from hok a _ e)
 exact⟨mA,⟨ob,n,ne⟩,r,q,z,d⟩
end
structure Cls (K:PySem.W.Frag)(C:Addr):Prop where
 pg:PySem.W.plainGet K C Str.empty=true
 hd:PySem.W.hasDictIn K C=true
 po:PySem.W.plainOver K C=true
 sa:PySem.W.findIn K (.ref C) "__setattr__"=some (some (.builtin "object.__setattr__"))
theorem Cls.get {K:PySem.W.Frag}{C:Addr}(c:Cls K C)(f:Str):PySem.W.plainGet K C f=true:=c.pg
def NoAttr (K:PySem.W.Frag)(C:Addr)(f:Str):Prop:=PySem.W.findIn K (.ref C) f=some none
theorem NoAttr.taker {K:PySem.W.Frag}{C:Addr}{f:Str}(n:NoAttr K C f):PySem.W.takerIn K C f=some none:=by
 unfold PySem.W.takerIn
 rw[show PySem.W.findIn K (.ref C) f=some none from n]
 rfl
structure Con (K:PySem.W.Frag)(C:Addr)(f:Str)(v:V)(u:Value):Prop where
 at_:PySem.W.findIn K (.ref C) f=some (some u)
 rel:RelV v u
 get:PySem.W.specialIn K u "__get__"=some none
 cp:PySem.W.copiedNames.contains f=false
structure Meth (K:PySem.W.Frag)(C:Addr)(m:Str)(f:Addr):Prop where
 at_:PySem.W.findIn K (.ref C) m=some (some (.ref f))
 fn:PySem.W.isFn K (.ref f)=true
 kp:PySem.W.keepIn K (.ref f)=true
section
variable {X:Cx} {pins:List (Addr×Obj)} {σ:St} {H:Hp} {s:Shared} {a C dx:Addr} {fs:List (Str×V)} {f:Str} {v:V} {A:Around} {E:Value->Shared->Prop}
theorem zVs {b:Bool}{Q:Value->Shared->Prop}(I:Inv X pins σ H s)(e:H a=some (.ins C dx fs))(c:Cls X.K C)(n:NoAttr X.K C f)(l:fs.lookup f=some v)
   (h:∀u s',Inv X pins σ H s'->RelV v u->Q u s'):wpAny (model X.prog X.w) A (getAttr (.ref a) f b) Q E s:=by
 obtain⟨mA,O,r,_,_,_⟩:=zU9 I.hok e
 obtain⟨u,hu,ru⟩:=RelO.some_of (v:=v) (o:=mA f) (by rw[←l];exact r f)
 exact zRi I.kIn O (c.get f) c.hd n hu (zTL ru) (h u _ (I.tok _) ru)
theorem zUU {y:V}{u:Value}{Q:Unit->Shared->Prop}(I:Inv X pins σ H s)(e:H a=some (.ins C dx fs))(c:Cls X.K C)(n:NoAttr X.K C f)(hl:fs.length < 1000)(ry:RelV y u)
   (h:∀s',Inv X pins σ (upd H a (.ins C dx (kS f y fs))) s'->Q () s'):wpAny (model X.prog X.w) A (setAttr (.ref a) f u) Q E s:=by
 obtain⟨mA,O,r,wi,_,ho⟩:=zU9 I.hok e
 have hz:(fs.map (·.1)).length<=sizeLine:=by rw[List.length_map,sizeLine_eq];omega
 refine zQk I.kIn O c.sa c.po n.taker c.hd wi hz fun h' O' sb=>h _ ?_
 have hd:∃o,h'.get? dx=some o:=let ⟨o,_,_,e',_⟩:=O'.ns;⟨o,e'⟩
 refine I.write (x:=a) (e:=dx) (by rw[e];exact True.intro) (.inr ho) (fun b q hb z=>(sb.2 b hb).trans z) hd ?_
 refine⟨by rw[yP O.ne];exact ho,?_,O.ne,O'.obj,_,O'.ns,fun g=>?_,fun g hg=>?_⟩
 · have:=dO f y fs;omega
 · show RelO ((kS f y fs).lookup g) (if g=f then some u else mA g)
   rw[dN]
   by_cases q:g=f
   · rw[if_pos q,if_pos q];exact ry
   · rw[if_neg q,if_neg q];exact r g
 · by_cases q:g=f
   · rw[q];exact(dR f y fs).1
   · refine(dR f y fs).2 g (wi g fun z=>hg ?_)
     show(if g=f then some u else mA g)=none
     rw[if_neg q];exact z
theorem Inv.made (I:Inv X pins σ H s):Inv X pins σ (upd (upd H s.heap.objs.size (.own (s.heap.objs.size+1))) (s.heap.objs.size+1) (.ins C s.heap.objs.size []))
   { s with heap:=(s.heap.push PySem.W.emptyDict).push (PySem.W.instObj C s.heap.objs.size) }:=by
 have e1:(s.heap.push PySem.W.emptyDict).get? s.heap.objs.size=some PySem.W.emptyDict:=Heap.get?_push_size s.heap rfl
 have e2:((s.heap.push PySem.W.emptyDict).push (PySem.W.instObj C s.heap.objs.size)).get? (s.heap.objs.size+1)=some (PySem.W.instObj C s.heap.objs.size):=by
   have:=Heap.get?_push_size (s.heap.push PySem.W.emptyDict) (o:=PySem.W.instObj C s.heap.objs.size) rfl
   rwa[Heap.size_push] at this
 have e3:(s.heap.push PySem.W.emptyDict).Ns s.heap.objs.size (fun _=>none):=⟨PySem.W.emptyDict,#[],_,e1,rfl,(fun e he=>absurd he (by simp)),fun _=>rfl⟩
 have I1:=I.laid (a:=s.heap.objs.size) (o:=.own (s.heap.objs.size+1)) (h':=s.heap.push PySem.W.emptyDict) (t':=s.toks) (fun b u q=>Heap.get?_push_of_some _ q) (Nat.le_refl _) ⟨_,e1⟩
 refine I1.laid (a:=s.heap.objs.size+1) (o:=.ins C s.heap.objs.size []) (t':=s.toks) (fun b u q=>Heap.get?_push_of_some _ q) (Nat.le_of_eq (Heap.size_push _ _)) ?_
 have ne:s.heap.objs.size≠s.heap.objs.size+1:=Nat.ne_of_lt (Nat.lt_succ_self _)
 refine⟨by rw[yP ne,z0],Nat.zero_le _,ne,e2,fun _=>none,(Heap.Ns1.of_empty e3).at fun o q=>Heap.get?_push_of_some _ q,fun _=>True.intro,fun y hy=>absurd rfl hy⟩
theorem zQT {prog:Program}{w:World}{env:Env}{e:Expr}{f:Str}{pos:Pos}{s:Shared}{Q:Value->Shared->Prop}(hb:attributeBase e f env (eval e env)=eval e env)
   (h:wpAny (model prog w) A (eval e env) (fun o s₁=>wpAny (model prog w) A (getAttr o f true) Q E s₁) E s):wpAny (model prog w) A (eval (.Attribute e f pos) env) Q E s :=
 Attribute_any_ h (by rw[arm_eval_Attribute,hb])
end
def zN4 (K:PySem.W.Frag)(ta:TE)(f:Str):TE:=fun σ H Q=>ta σ H fun x H1=>∃a C dx fs v,x = .ref a/\H1 a=some (.ins C dx fs)/\Cls K C/\NoAttr K C f/\fs.lookup f=some v/\Q v H1
def zN0 (K:PySem.W.Frag)(ta tv:TE)(f:Str):TS:=fun D σ H=>tv σ H fun y H1=>ta σ H1 fun x H2=>∃a C dx fs,x = .ref a/\H2 a=some (.ins C dx fs)/\Cls K C/\NoAttr K C f/\fs.length < 1000 /\
 D.nx σ (upd H2 a (.ins C dx (kS f y fs)))
section
variable {X:Cx} {o e value:Expr} {f:Str} {pos pos' tpos:Pos} {ta tv:TE}
theorem zPv (he:PE X e ta)(hb:attributeBase e f X.env (eval e X.env)=eval e X.env):PE X (.Attribute e f pos) (zN4 X.K ta f):=by
 intro pins s σ H Q I h
 refine zQT hb (thn (he pins s σ H _ I h) fun u s1 ⟨x,H1,I1,rx,a,C,dx,fs,v,ex,ea,c,n,l,q⟩=>?_)
 subst ex
 obtain rfl:u=Value.ref a:=rx
 exact zVs I1 ea c n l fun u' s2 I2 ru=>⟨v,H1,I2,ru,q⟩
theorem zPK (ha:PE X o ta)(hv:PE X value tv)(hs:swapsWith value (some (.Attribute o f pos')) pos.line X.env=pure false):PS X (.Assign [.Attribute o f pos'] value pos) (zN0 X.K ta tv f):=by
 intro pins s σ H D I h
 refine plainObj_wpAny_Assign_Attribute (thn (hv pins s σ H _ I h) fun u s1 ⟨y,H1,I1,ry,q⟩=>thn (ha pins s1 σ H1 _ I1 q) fun ov s2 ⟨x,H2,I2,rx,a,C,dx,fs,ex,ea,c,n,l,q2⟩=>?_) hs
 subst ex
 obtain rfl:ov=Value.ref a:=rx
 exact zUU I2 ea c n l ry fun s3 I3=>⟨σ,_,I3,q2⟩
end
section
variable {X:Cx} {pins:List (Addr×Obj)} {σ:St} {H:Hp} {s:Shared} {A:Around} {E:Value->Shared->Prop} {Q:Value->Shared->Prop} {c:Value} {b:Bool}
inductive TyOf (K:PySem.W.Frag)(H:Hp):V->Value->Prop where
 | non:TyOf K H .non (.type "NoneType")
 | bl (x:Bool):TyOf K H (.bl x) (.type "bool")
 | int (i:Int):TyOf K H (.int i) (.type "int")
 | str (x:Str):TyOf K H (.str x) (.type "str")
 | flt (x:UInt64):TyOf K H (.flt x) (.type "float")
 | lst {a:Addr} {xs:List V} (e:H a=some (.lst xs)):TyOf K H (.ref a) (.type "list")
 | frz {a:Addr} {o:Obj} {xs:List V} (e:H a=some (.frz o (.lst xs))):TyOf K H (.ref a) (.type "list")
 | tup {a:Addr} {xs:List V} (e:H a=some (.tup xs)):TyOf K H (.ref a) (.type "tuple")
 | dK {a:Addr} {kvs:List (Key×V)} (e:H a=some (.dK kvs)):TyOf K H (.ref a) (.type "dict")
 | dT {a:Addr} {kvs:List (List Key×V)} (e:H a=some (.dT kvs)):TyOf K H (.ref a) (.type "dict")
 | ins {a C dx:Addr} {fs:List (Str×V)} (e:H a=some (.ins C dx fs)) (cl:Cls K C) (ha:PySem.W.findIn K (.ref C) "__class__"=some (some (.builtin "object.__class__")))
     (hn:PySem.W.specialIn K (.builtin "object.__class__") "__get__"=some (some (.builtin "getset_descriptor.__get__"))) (htk:PySem.W.takesIn K (.builtin "object.__class__")=some true)
     (hm:PySem.W.mroIn K C (.type "object")=some true):TyOf K H (.ref a) (.ref C)
end
end L2
namespace L2
open PySem PySem.Spec PyProof.Rows
structure Room (k:Nat)(A:Around):Prop where
 hd:A.handled=none
 dp:A.depth+3*k+5 < recursionLimit
 un:A.units+16*k+200 < cLine
theorem Room.mono {j k:Nat}{A:Around}(r:Room k A)(h:j<=k):Room j A:=⟨r.hd,by have:=r.dp;omega,by have:=r.un;omega⟩
theorem Room.deeper {k:Nat}{A:Around}(r:Room (k+1) A)(env:Env):Room k (A.deeper env) :=
 ⟨r.hd,by have:=r.dp;show A.depth+1+3*k+5 < _;omega,by have:=r.un;show A.units+3+16*k+200 < _;omega⟩
theorem zUL {A:Around}{C:Addr}{us:List Value}{kw:List (Str×Value)}:(A.under (.builtin "type.__call__" ⟨.ref C::us,kw⟩)).depth=A.depth+1:=by
 first | rfl | simp[Around.under,Code.weight,Code.isCreation,Code.isGuard,Code.isCaller,Code.frames,Code.isFrame,guardIds]
theorem zVj {A:Around}{C:Addr}{us:List Value}{kw:List (Str×Value)}:(A.under (.builtin "type.__call__" ⟨.ref C::us,kw⟩)).units=A.units+1:=by
 first | rfl | simp[Around.under,Code.cUnits,Code.frames,Code.isFrame]
theorem Room.make {k:Nat}{A:Around}(r:Room (k+1) A)(C:Addr)(us:List Value)(kw:List (Str×Value)):Room k (A.under (.builtin "type.__call__" ⟨.ref C::us,kw⟩)) :=
 ⟨r.hd,by have:=r.dp;rw[zUL];omega,by have:=r.un;rw[zVj];omega⟩
theorem Room.depth {k:Nat}{A:Around}(r:Room k A):A.depth < recursionLimit:=by have:=r.dp;omega
theorem Room.units {k:Nat}{A:Around}(r:Room k A):A.units+64 < cLine:=by have:=r.un;omega
theorem Room.units0 {k:Nat}{A:Around}(r:Room k A):A.units < cLine:=by have:=r.un;omega
def zXk:TA:=fun _ H Q=>Q [] H
def cS (ta:TE)(tr:TA):TA:=fun σ H Q=>ta σ H fun x H1=>tr σ H1 fun xs H2=>Q (x::xs) H2
section
variable {X:Cx} {e:Expr} {es:List Expr} {te:TE} {t:TA} {pos:Pos}
theorem yB:PA X [] zXk:=fun _ _ _ _ H Q I h=>Calls.spliced_nil ⟨[],H,I,.nil,h⟩
theorem yS (ha:PE X e te)(hr:PA X es t)(hs:starEach (e::es) X.env=(false,eval e X.env)::starEach es X.env:=by rfl):PA X (e::es) (cS te t):=by
 intro pos pins s σ H Q I h
 rw[hs]
 show wpAny _ _ (spliced ((false,eval e X.env)::backTo pos (starEach es X.env))) _ _ s
 refine Calls.spliced_cons (thn (ha pins s σ H _ I h) fun u s1 ⟨x,H1,I1,r1,q1⟩=>?_)
 exact thn (hr pos pins s1 σ H1 _ I1 q1) fun us s2 ⟨xs,H2,I2,r2,q2⟩=>⟨x::xs,H2,I2,.cons r1 r2,q2⟩
def zNC (t:TA):TE:=fun σ H Q=>t σ H fun xs H1=>xs.length<=sizeLine/\∀p,H1 p=none->Q (.ref p) (upd H1 p (.tup xs))
def zNr (t:TA):TE:=fun σ H Q=>t σ H fun xs H1=>xs.length<=sizeLine/\∀p,H1 p=none->Q (.ref p) (upd H1 p (.lst xs))
theorem zPE {x1}(h:PA X es t):PE X (.Tuple es x1 pos) (zNC t):=by
 intro pins s σ H Q I hq
 refine wpAny_Tuple_spliced (thn (h pos pins s σ H _ I hq) fun us s1 ⟨xs,H1,I1,r,z,q⟩=>⟨by rw[←r.length];exact z,?_⟩)
 have hf:H1 s1.heap.objs.size=none:=I1.hok.fresh (Nat.le_refl _)
 refine⟨.ref s1.heap.objs.size,upd H1 s1.heap.objs.size (.tup xs),I1.laid (t':=s1.toks) (fun b u e=>Heap.get?_push_of_some _ e) (Nat.le_refl _) ?_,rfl,q _ hf⟩
 exact⟨z,us,r,⟨_,Heap.get?_push_size _ rfl,rfl,_,rfl⟩⟩
theorem zSi (h:PA X es t):PE X (.List es pos) (zNr t):=by
 intro pins s σ H Q I hq
 refine wpAny_List_spliced (thn (h pos pins s σ H _ I hq) fun us s1 ⟨xs,H1,I1,r,z,q⟩=>⟨by rw[←r.length];exact z,?_⟩)
 have hf:H1 s1.heap.objs.size=none:=I1.hok.fresh (Nat.le_refl _)
 refine⟨.ref s1.heap.objs.size,upd H1 s1.heap.objs.size (.lst xs),I1.laid (t':=s1.toks) (fun b u e=>Heap.get?_push_of_some _ e) (Nat.le_refl _) ?_,rfl,q _ hf⟩
 exact⟨z,us,0,r,Heap.get?_push_size _ rfl⟩
end
abbrev Sp:=List V->Hp->VK->XK->Prop
abbrev CXT:=List Env->Hp->Shared->XK->Value->Shared->Prop
structure Env0 (P:Program)(w:World)(K:PySem.W.Frag)(mg:Str->Option Value)(base:Heap)(A:Around)(outer:List Env)(s:Shared)(H:Hp):Prop where
 frames:A.frames=some outer
 mod:Mod K mg base
 bs:∀b o,base.get? b=some o->s.heap.get? b=some o/\H b=none
 bsz:base.objs.size<=s.heap.objs.size
 funs:s.heap.FunFrames base outer
 frf:∀b∈frs outer,H b=none
 hok:HOk P w H s.heap
 bare:AllBare s.gens
def CE (outer:List Env)(P:Program)(w:World)(H:Hp)(s:Shared)(Q:VK)(u:Value)(s':Shared):Prop :=
 ∃v H',s'.os=s.os/\AllBare s'.gens/\Un (frs outer) [] H H' s.heap s'.heap/\HOk P w H' s'.heap/\RelV v u/\Q v H'
def CR (CX:CXT)(outer:List Env)(P:Program)(w:World)(H:Hp)(s:Shared)(Q:VK)(E:XK)(r:Result)(s':Shared):Prop :=
 match r with
 | .ok (.ret u)=>CE outer P w H s Q u s'
 | .ok _=>False
 | .error e=>CX outer H s E e s'
structure FnOk (P:Program)(w:World)(K:PySem.W.Frag)(mg:Str->Option Value)(base:Heap)(CX:CXT)(k:Nat)(f:Addr)(fd:FuncData)(ps:List Str)(sp:Sp):Prop where
 len:∀vs H Q E,sp vs H Q E->vs.length=ps.length
 run:∀(A:Around) (outer:List Env) (s:Shared) (H:Hp) (args:Args) (us:List Value) (vs:List V) (Q:VK) (E:XK),Room k A->Env0 P w K mg base A outer s H->BindsTo s fd args (ps.zip us)->Vals vs us->sp vs H Q E ->
   codeAny (model P w) A (.call (.ref f) args) (CR CX outer P w H s Q E) s
theorem Env0.make {P:Program}{w:World}{K:PySem.W.Frag}{mg:Str->Option Value}{base:Heap}{A:Around}{outer:List Env}{s:Shared}{H:Hp}(e:Env0 P w K mg base A outer s H)(C:Addr)(us:List Value)(kw:List (Str×Value)) :
   Env0 P w K mg base (A.under (.builtin "type.__call__" ⟨.ref C::us,kw⟩)) outer s H:=⟨by first | exact e.frames | (simpa [Around.under,Code.envs,Code.isFrame,pushEnvs] using e.frames),e.mod,e.bs,e.bsz,e.funs,e.frf,e.hok,e.bare⟩
section
variable {X:Cx} {pins:List (Addr×Obj)} {σ:St} {H:Hp} {s s':Shared}
theorem Inv.env0 (I:Inv X pins σ H s):Env0 X.prog X.w X.K X.mg X.base X.A X.stack s H :=
 ⟨I.ok.frames,I.ok.mod,I.bs,Nat.le_trans I.ok.bsz I.sz,I.stack,I.stkFree,I.hok,I.bare⟩
theorem Inv.after {Q:VK}{u:Value}(I:Inv X pins σ H s)(h:CE X.stack X.prog X.w H s Q u s'):EP X pins σ Q u s':=by
 obtain⟨v,H',os,bare,un,hok,r,q⟩:=h
 obtain⟨hh,g,d,t,os'⟩:=s'
 obtain rfl:os'=s.os:=os
 exact⟨v,H',I.call (h':=hh) (g':=g) (d':=d) (t':=t) (ch:=[]) un hok bare (fun b z=>absurd z (by simp)),r,q⟩
end
def zNV (sp:Sp)(dvs:List V)(E:XK)(t:TA):TE:=fun σ H Q=>t σ H fun vs H1=>sp (vs++dvs) H1 Q E
def zOu (C:Addr)(sp:Sp)(dvs:List V)(E:XK)(t:TA):TE:=fun σ H Q=>t σ H fun vs H1=>∀x dx,H1 x=none->H1 dx=none->dx≠x ->
 sp (.ref x::(vs++dvs)) (upd (upd H1 dx (.own x)) x (.ins C dx [])) (fun v H2=>v = .non/\Q (.ref x) H2) E
def Binds (K:PySem.W.Frag)(fd:FuncData)(ps:List Str)(ds:List Value):Prop :=
 ∀(s:Shared) (us:List Value),K.In s.heap->(us++ds).length=ps.length->BindsTo s fd ⟨us,[]⟩ (ps.zip (us++ds))
theorem Binds.all {K:PySem.W.Frag}{fd:FuncData}{ps:List Str}(h:∀us:List Value,us.length=ps.length->bindArgs fd ⟨us,[]⟩=pure (ps.zip us)):Binds K fd ps []:=fun s us _ hl=>by
 rw[List.append_nil] at hl ⊢
 exact .of_eq (h us hl)
def zZX (CX:CXT)(X:Cx)(E:XK):Prop:=∀(pins:List (Addr×Obj)) (σ:St) (H:Hp) (s:Shared) (e:Value) (s':Shared),Inv X pins σ H s->CX X.stack H s E e s'->X.xe e s'
section
variable {X:Cx} {CX:CXT} {k:Nat} {f C:Addr} {fd:FuncData} {ps:List Str} {sp:Sp} {dvs:List V} {ds:List Value} {E:XK} {x m:Str} {p pos apos:Pos} {e o:Expr} {es:List Expr} {ta:TE} {t:TA}
theorem zPG {pins:List (Addr×Obj)}{σ:St}{H:Hp}{s:Shared}{Q:VK}{us:List Value}{vs:List V}(F:FnOk X.prog X.w X.K X.mg X.base CX k f fd ps sp)(hr:Room k X.A)(hb:Binds X.K fd ps ds)(hd:Vals dvs ds)(hx:zZX CX X E)
   (I:Inv X pins σ H s) (r:Vals vs us) (h:sp (vs++dvs) H Q E):wpAny (model X.prog X.w) X.A (call (.ref f) us) (EP X pins σ Q) X.xe s:=by
 have r2:Vals (vs++dvs) (us++ds):=r.append hd
 have hl:(us++ds).length=ps.length:=by rw[←r2.length];exact F.len _ _ _ _ h
 refine wpAny_call (codeAny_mono (F.run X.A X.stack s H ⟨us,[]⟩ (us++ds) (vs++dvs) Q E hr I.env0 (hb s us I.kIn hl) r2 h) fun r s' hq=>?_)
 cases r with
 | error e=>exact hx pins σ H s e s' I hq
 | ok fl =>
   cases fl with
   | ret u=>exact I.after hq
   | next=>exact False.elim hq
   | brk=>exact False.elim hq
   | cont=>exact False.elim hq
theorem zUv (F:FnOk X.prog X.w X.K X.mg X.base CX k f fd ps sp)(hr:Room k X.A)(hg:Gl X x)(hm:X.mg x=some (.ref f))(hk:PySem.W.keepIn X.K (.ref f)=true)(hb:Binds X.K fd ps ds)(hd:Vals dvs ds)(hx:zZX CX X E)
   (ha:PA X (e::es) t) (hdb:(x==("__debug__":Str))=false:=by decide) (he:starEach (e::es) X.env=(false,eval e X.env)::starEach es X.env:=by rfl) (hpl:(backTo pos (starEach es X.env)).any (·.1)=false:=by rfl) :
   PE X (.Call (.Name x p) (e::es) [] pos) (zNV sp dvs E t):=by
 intro pins s σ H Q I h
 refine wpAny_Call_Name_kw (zYo I hg hm ?_ hdb)
 refine PySem.W.callWith_K (h₀:=X.base) I.ok.mod.kin hk (thn (ha pos pins s σ H _ I h) fun us s1 ⟨vs,H1,I1,r,q⟩=>⟨I1.kIn,?_⟩) he hpl
 exact zPG F hr hb hd hx I1 r q
structure Mk (K:PySem.W.Frag)(C f:Addr):Prop where
 makes:PySem.W.makesIn K C=true
 init:PySem.W.findIn K (.ref C) "__init__"=some (some (.ref f))
 fn:PySem.W.isFn K (.ref f)=true
 kp:PySem.W.keepIn K (.ref C)=true
theorem zR6 {pins:List (Addr×Obj)}{σ:St}{H:Hp}{s:Shared}{Q:VK}{us:List Value}{vs:List V}(M:Mk X.K C f)(F:FnOk X.prog X.w X.K X.mg X.base CX k f fd ps sp)(hr:Room (k+1) X.A)(hb:Binds X.K fd ps ds)(hd:Vals dvs ds)
   (hx:zZX CX X E) (I:Inv X pins σ H s) (r:Vals vs us)
   (h:∀x dx,H x=none->H dx=none->dx≠x->sp (.ref x::(vs++dvs)) (upd (upd H dx (.own x)) x (.ins C dx [])) (fun v H2=>v = .non/\Q (.ref x) H2) E) :
   wpAny (model X.prog X.w) X.A (call (.ref C) us) (EP X pins σ Q) X.xe s:=by
 have hq:=h (s.heap.objs.size+1) s.heap.objs.size (I.hok.fresh (Nat.le_succ _)) (I.hok.fresh (Nat.le_refl _)) (Nat.ne_of_lt (Nat.lt_succ_self _))
 have I2:=Inv.made (C:=C) I
 have r2:Vals (V.ref (s.heap.objs.size+1)::(vs++dvs)) (Value.ref (s.heap.objs.size+1)::(us++ds)):=.cons rfl (r.append hd)
 have hl:(Value.ref (s.heap.objs.size+1)::us++ds).length=ps.length:=by
   have e:=r2.length
   rw[F.len _ _ _ _ hq] at e
   exact e.symm
 refine wpAny_call (zRy (f:=f) I.kIn M.makes M.init (beq_iff_eq.mp M.fn) (codeAny_mono (F.run _ X.stack _ _ ⟨Value.ref (s.heap.objs.size+1)::us,[]⟩ (Value.ref (s.heap.objs.size+1)::(us++ds)) _ _ E (hr.make C us [])
   (I2.env0.make C us []) (hb _ (Value.ref (s.heap.objs.size+1)::us) I2.kIn hl) r2 hq) fun r s' hq'=>?_))
 cases r with
 | error e=>exact hx pins σ _ _ e s' I2 hq'
 | ok fl =>
   cases fl with
   | ret u =>
     obtain⟨v,H',I3,rv,ev,q3⟩:=I2.after hq'
     subst ev
     exact⟨rv,⟨V.ref (s.heap.objs.size+1),H',I3,rfl,q3⟩⟩
   | next=>exact False.elim hq'
   | brk=>exact False.elim hq'
   | cont=>exact False.elim hq'
theorem zQL (M:Mk X.K C f)(F:FnOk X.prog X.w X.K X.mg X.base CX k f fd ps sp)(hr:Room (k+1) X.A)(hg:Gl X x)(hm:X.mg x=some (.ref C))(hb:Binds X.K fd ps ds)(hd:Vals dvs ds)(hx:zZX CX X E)
   (ha:PA X (e::es) t) (hdb:(x==("__debug__":Str))=false:=by decide) (he:starEach (e::es) X.env=(false,eval e X.env)::starEach es X.env:=by rfl) (hpl:(backTo pos (starEach es X.env)).any (·.1)=false:=by rfl) :
   PE X (.Call (.Name x p) (e::es) [] pos) (zOu C sp dvs E t):=by
 intro pins s σ H Q I h
 refine wpAny_Call_Name_kw (zYo I hg hm ?_ hdb)
 refine PySem.W.callWith_K (h₀:=X.base) I.ok.mod.kin M.kp (thn (ha pos pins s σ H _ I h) fun us s1 ⟨vs,H1,I1,r,q⟩=>⟨I1.kIn,?_⟩) he hpl
 exact zR6 M F hr hb hd hx I1 r q
end
section
variable {X:Cx} {CX:CXT} {k:Nat} {f C:Addr} {fd:FuncData} {ps ks:List Str} {sp:Sp} {E:XK} {x m:Str} {p pos apos kpos:Pos} {e o:Expr} {es:List Expr} {kws:List Keyword} {te ta:TE} {t tk:TA} {nm:Option Str}
structure KBinds (K:PySem.W.Frag)(fd:FuncData)(ps ks:List Str)(g:List Value->List Value->List Value)(gV:List V->List V->List V):Prop where
 to:∀(s:Shared) (us ws:List Value),K.In s.heap->(g us ws).length=ps.length->BindsTo s fd ⟨us,ks.zip ws⟩ (ps.zip (g us ws))
 rel:∀ {vs:List V} {us:List Value} {zs:List V} {ws:List Value},Vals vs us->Vals zs ws->Vals (gV vs zs) (g us ws)
variable {g:List Value->List Value->List Value} {gV:List V->List V->List V}
end
structure FnScope (N P:List Str)(sc:Scope):Prop where
 kind:sc.kind = .function
 co:sc.isCoroutine=false
 gen:sc.isGenerator=false
 nd:N.Nodup
 pre:N.take P.length=P
 par:∀x∈P,sc.names.lookup x=some .local∨sc.names.lookup x=some .cell
 nofree:∀y∈sc.names,y.2 ≠ .free
theorem zYP {kindOf:Str->Option NameKind}{x:Str}:∀ {binds:List (Str×Value)} {m:Str->Option Value},(∀v,(x,v)∉binds)->bindL kindOf binds m x=m x
 | [],_,_=>rfl
 | (n,v)::r,m,h=>by
   unfold bindL
   rw[zYP fun w hw=>h w (List.mem_cons_of_mem _ hw)]
   split
   · have:x≠n:=by rintro rfl;exact h v List.mem_cons_self
     simp[this]
   · rfl
theorem zY0 {kindOf:Str->Option NameKind}{x:Str}:∀ {binds:List (Str×Value)} {m:Str->Option Value},(∀v,(x,v)∉binds)->bindC kindOf binds m x=m x
 | [],_,_=>rfl
 | (n,v)::r,m,h=>by
   unfold bindC
   rw[zY0 fun w hw=>h w (List.mem_cons_of_mem _ hw)]
   split
   · rfl
   · have:x≠n:=by rintro rfl;exact h v List.mem_cons_self
     simp[this]
theorem zY2 {kindOf:Str->Option NameKind}{x:Str}{v:Value}:∀ {P:List Str} {vs:List Value} {i:Nat} {m:Str->Option Value},P.Nodup->P[i]?=some x->vs[i]?=some v->kindOf x=some .local ->
   bindL kindOf (P.zip vs) m x=some v
 | [],_,_,_,_,h,_,_=>by simp at h
 | _::_,[],_,_,_,_,h,_=>by simp at h
 | p::P,w::vs,0,m,nd,h1,h2,hk=>by
   simp at h1 h2;subst h1;subst h2
   show bindL kindOf ((p,w)::P.zip vs) m p=_
   unfold bindL
   rw[zYP fun v hv=>(List.nodup_cons.mp nd).1 (List.of_mem_zip hv).1,if_pos hk]
   simp
 | p::P,w::vs,i+1,m,nd,h1,h2,hk=>by
   show bindL kindOf ((p,w)::P.zip vs) m x=_
   unfold bindL
   exact zY2 (i:=i) (List.nodup_cons.mp nd).2 (by simpa using h1) (by simpa using h2) hk
theorem zY6 {kindOf:Str->Option NameKind}{x:Str}{v:Value}:∀ {P:List Str} {vs:List Value} {i:Nat} {m:Str->Option Value},P.Nodup->P[i]?=some x->vs[i]?=some v->kindOf x≠some .local ->
   bindC kindOf (P.zip vs) m x=some v
 | [],_,_,_,_,h,_,_=>by simp at h
 | _::_,[],_,_,_,_,h,_=>by simp at h
 | p::P,w::vs,0,m,nd,h1,h2,hk=>by
   simp at h1 h2;subst h1;subst h2
   show bindC kindOf ((p,w)::P.zip vs) m p=_
   unfold bindC
   rw[zY0 fun v hv=>(List.nodup_cons.mp nd).1 (List.of_mem_zip hv).1,if_neg hk]
   simp
 | p::P,w::vs,i+1,m,nd,h1,h2,hk=>by
   show bindC kindOf ((p,w)::P.zip vs) m x=_
   unfold bindC
   exact zY6 (i:=i) (List.nodup_cons.mp nd).2 (by simpa using h1) (by simpa using h2) hk
def kU (N:List Str)(vs:List V):St:=vs.map some++List.replicate (N.length - vs.length) none
def zXn (CX:CXT)(P:Program)(w:World)(K:PySem.W.Frag)(mg:Str->Option Value)(base:Heap)(N:List Str)(qual:Str)(scope:Scope)(f:Addr)(cd:Value)(A:Around)(outer:List Env)(s:Shared)(H:Hp)(E:XK):Cx where
 prog:=P
 w:=w
 K:=K
 mg:=mg
 base:=base
 A:=A.deeper (envOfC qual scope s.heap.objs.size f cd)
 N:=N
 s₀:=s
 H₀:=H
 env:=envOfC qual scope s.heap.objs.size f cd
 outer:=outer
 stack:=envOfC qual scope s.heap.objs.size f cd::outer
 ex:=[]
 calm:=true
 fn:=fun _=>true
 pn:=[]
 xe:=fun e s'=>wpAny (model P w) (A.deeper (envOfC qual scope s.heap.objs.size f cd)) (leaving (envOfC qual scope s.heap.objs.size f cd) e) (fun _ s''=>CX outer H s E e s'') (fun e' s''=>CX outer H s E e' s'') s'
theorem zWJ {sc:Scope}{n:Nat}{x:Str}(h:sc.names.lookup x=some .cell):∃c,(cellsFrom n sc.names []).lookup x=some c:=by
 have q:=PySem.W.cellsFrom_some sc.names n [] (.inl h)
 exact Option.isSome_iff_exists.mp q
theorem zTR {CX:CXT}{P:Program}{w:World}{K:PySem.W.Frag}{mg:Str->Option Value}{base:Heap}{N ps:List Str}{qual:Str}{scope:Scope}{f:Addr}{cd:Value}{A:Around}{outer:List Env}{s s1:Shared}{H:Hp}{E:XK}{us:List Value}{vs:List V}
   (S:FnScope N ps scope) (hd:A.handled=none) (e0:Env0 P w K mg base A outer s H) (hl:vs.length=ps.length) (r:Vals vs us)
   (x:InCallC s s.heap.objs.size (bindL (envOfC qual scope s.heap.objs.size f cd).kindOf (ps.zip us) fun _=>none) (cellsFrom (s.heap.objs.size+1) scope.names []) (bindC (envOfC qual scope s.heap.objs.size f cd).kindOf (ps.zip us) fun _=>none) s1) :
   Inv (zXn CX P w K mg base N qual scope f cd A outer s H E) [] (kU N vs) H s1:=by
 have hpl:ps.length<=N.length:=by have:=congrArg List.length S.pre;rw[List.length_take] at this;omega
 obtain⟨h1,tk,rfl,hk⟩:=x.done
 have noA:∀b:Addr,b∉(zXn CX P w K mg base N qual scope f cd A outer s H E).ex:=fun b z=>absurd (show b∈([]:List Addr) from z) (by simp)
 refine⟨⟨e0.mod,S.kind,rfl,rfl,Nat.le_refl _,fun y z c h1 h2=>?_,fun y hy=>?_,fun y c _ h=>?_,fun _=>hd,Around.frames_deeper e0.frames,.inr ⟨rfl,rfl⟩,fun b z=>absurd z (noA b),e0.bs,e0.bsz,fun b _ _=>noA b,fun b z=>absurd z (noA b),e0.funs,e0.frf⟩,
   rfl,e0.bare,Un.kept hk,⟨_,x.toInCall.ns,fun i y v h1 h2 h3=>?_⟩,fun y c h=>⟨_,x.cell y c h⟩,e0.hok.fresh (Nat.le_refl _),fun y c h=>?_,fun p hp=>absurd (show p∈([]:List (Addr×Obj)) from hp) (by simp),e0.hok.kept hk,?_⟩
 · exact name_of_addr x.apart (PySem.mem_of_lookup h1) (PySem.mem_of_lookup h2)
 · have hy:scope.names.lookup y=some .cell∨scope.names.lookup y=some .free:=hy
   rcases hy with hy | hy
   · exact zWJ hy
   · exact absurd rfl (S.nofree _ (PySem.mem_of_lookup hy))
 · exact Nat.le_of_lt (x.above y c (PySem.mem_of_lookup h))
 · have hi:i < vs.length:=by
     unfold kU at h2
     by_cases hi:i < vs.length
     · exact hi
     · rw[List.getElem?_append_right (by simpa using hi)] at h2
       rw[List.getElem?_replicate] at h2
       split at h2<;>cases h2
   have ha:vs[i]?=some v:=by
     unfold kU at h2
     rw[List.getElem?_append_left (by simpa using hi),List.getElem?_map] at h2
     cases e:vs[i]? with
     | none=>rw[e] at h2;cases h2
     | some a=>rw[e] at h2;cases h2;rfl
   obtain⟨u,hu,rv⟩:=r.get ha
   have hp:ps[i]?=some y:=by
     rw[←S.pre,List.getElem?_take_of_lt (by omega)];exact h1
   have ndP:ps.Nodup:=by rw[←S.pre];exact S.nd.sublist (List.take_sublist _ _)
   refine⟨u,rv,?_⟩
   rcases S.par y (List.mem_of_getElem? hp) with k | k
   · exact .inl ⟨k,zY2 ndP hp hu k⟩
   · obtain⟨c,e⟩:=zWJ (n:=s.heap.objs.size+1) k
     refine .inr ⟨.inl k,c,e,?_⟩
     have q:=x.cell y c e
     rw[zY6 ndP hp hu (by show scope.names.lookup y≠_;rw[k];decide)] at q
     exact q
 · exact e0.hok.fresh (Nat.le_of_lt (x.above y c (PySem.mem_of_lookup h)))
 · unfold kU
   show _=N.length
   rw[List.length_append,List.length_map,List.length_replicate]
   omega
theorem zNY {CX:CXT}{P:Program}{w:World}{K:PySem.W.Frag}{mg:Str->Option Value}{base:Heap}{k:Nat}{f:Addr}{name qual:Str}{params:Arguments}{body:List Stmt}{scope:Scope}{dV kV doc pm cdv ct oc:Value}{an od:Option Addr}
   {osl:Array (Option Value)} {N ps:List Str} {sp:Sp} (lk:K.lookup f=some ⟨oc,od,.func (PySem.W.fnOf name qual params body scope dV kV doc pm an cdv ct),osl⟩) (hcd:PySem.W.codeIn K cdv qual=true) (S:FnScope N ps scope)
   (len:∀vs H Q E,sp vs H Q E->vs.length=ps.length)
   (hbody:∀(A:Around) (outer:List Env) (s:Shared) (H:Hp) (vs:List V) (Q:VK) (E:XK),Room k (A.deeper (envOfC qual scope s.heap.objs.size f cdv))->sp vs H Q E ->
     ∃t,PSs (zXn CX P w K mg base N qual scope f cdv A outer s H E) body t/\t { nx:=fun _ H'=>Q .non H',rt:=Q } (kU N vs) H) :
   FnOk P w K mg base CX (k+1) f (PySem.W.fnOf name qual params body scope dV kV doc pm an cdv ct) ps sp:=by
 refine⟨len,fun A outer s H args us vs Q E hr e0 hb r hsp=>?_⟩
 have hl:=len _ _ _ _ hsp
 have KX:K.In s.heap:=e0.mod.kin.keeps fun b o e=>(e0.bs b o e).1
 have lim:s.heap.NoLimit:=e0.mod.nolimit.keeps fun b o e=>(e0.bs b o e).1
 have hkind:∀y∈ps.zip us,scope.names.lookup y.1=some .local∨(scope.names.lookup y.1=some .cell/\((cellsFrom (s.heap.objs.size+1) scope.names []).lookup y.1).isSome=true):=fun⟨n,v⟩ hy=>by
   rcases S.par n (List.of_mem_zip hy).1 with q | q
   · exact .inl q
   · exact .inr ⟨q,PySem.W.cellsFrom_some _ _ _ (.inl q)⟩
 refine codeAny_call_function hr.depth (KX _ _ lk) rfl S.co S.gen rfl (PySem.W.codeRec_of KX hcd) (hb _ _ _ _ ?_)
 refine wpAny_newFunctionEnv_cells S.kind hkind fun env he s1 x=>?_
 subst he
 refine⟨lim.keeps x.toInCall.keep,codeAny_func ?_⟩
 obtain⟨t,ht,hq⟩:=hbody A outer s H vs Q E (hr.deeper _) hsp
 have I:Inv (zXn CX P w K mg base N qual scope f cdv A outer s H E) [] (kU N vs) H s1:=zTR S hr.hd e0 hl r x
 refine wpAny_mono (ht [] s1 (kU N vs) H _ I hq) (fun fl s' hs=>?_) fun e s' hs=>hs
 have fin:∀ {σ':St} {H':Hp} {v:V} {u:Value},Inv (zXn CX P w K mg base N qual scope f cdv A outer s H E) [] σ' H' s'->RelV v u->Q v H'->CE outer P w H s Q u s' :=
   fun {σ' H' v u} J rv q=>⟨v,H',J.os,J.bare,J.base,J.hok,rv,q⟩
 cases fl with
 | ret u =>
   obtain⟨v,σ',H',J,rv,q⟩:=hs
   exact fin J rv q
 | next =>
   obtain⟨σ',H',J,q⟩:=hs
   exact fin (v:=V.non) (u:=Value.none) J rfl q
 | brk =>
   obtain⟨_,_,_,q⟩:=hs
   exact False.elim q
 | cont =>
   obtain⟨_,_,_,q⟩:=hs
   exact False.elim q
end L2
namespace L2
open PySem PySem.Spec PyProof.Rows
section
variable {X:Cx} {x:Str} {p pos:Pos} {e:Expr} {es:List Expr} {t:TA} {id T:String} {r:List V->Hp->VK->Prop}
def tCB (r:List V->Hp->VK->Prop)(t:TA):TE:=fun σ H Q=>t σ H fun vs H1=>r vs H1 Q
theorem oS (hc:CallR X (.builtin id) r)(hg:Gl X x)(hm:X.mg x=none)(hv:bootBuiltins x=some (.builtin id))(ha:PA X (e::es) t)(hn:x≠"__name__":=by decide)(hdb:(x==("__debug__":Str))=false:=by decide)
   (he:starEach (e::es) X.env=(false,eval e X.env)::starEach es X.env:=by rfl) (hpl:(backTo pos (starEach es X.env)).any (·.1)=false:=by rfl):PE X (.Call (.Name x p) (e::es) [] pos) (tCB r t):=by
 intro pins s σ H Q I h
 refine wpAny_Call_Name_kw (pE I hg hm hv ?_ hn hdb)
 exact PyProof.Rows.callWith_builtin1 (thn (ha pos pins s σ H _ I h) fun us s1 ⟨vs,H1,I1,r1,q1⟩=>hc pins s1 σ H1 vs us Q I1 r1 q1) he hpl
theorem qD (hc:CallR X (.type T) r)(hg:Gl X x)(hm:X.mg x=none)(hv:bootBuiltins x=some (.type T))(ha:PA X (e::es) t)(hn:x≠"__name__":=by decide)(hdb:(x==("__debug__":Str))=false:=by decide)
   (he:starEach (e::es) X.env=(false,eval e X.env)::starEach es X.env:=by rfl) (hpl:(backTo pos (starEach es X.env)).any (·.1)=false:=by rfl):PE X (.Call (.Name x p) (e::es) [] pos) (tCB r t):=by
 intro pins s σ H Q I h
 refine wpAny_Call_Name_kw (pE I hg hm hv ?_ hn hdb)
 exact PyProof.Rows.callWith_type1 (thn (ha pos pins s σ H _ I h) fun us s1 ⟨vs,H1,I1,r1,q1⟩=>hc pins s1 σ H1 vs us Q I1 r1 q1) he hpl
end
end L2
namespace HT
open PySem PyProof.Rows
section
open PySem.SeqAt
open PySem.AutoSeq1 (wpAny_loadPart')
open PySem.MeetsSeq PySem.MeetsSeq2 PySem.MeetsSeq3
end
section
variable {prog:Program} {w:World} {A:Around} {E:Value->Shared->Prop} {s:Shared}
def sIx (n d:Nat):Option Int->Nat
 | none=>d
 | some v=>if v < 0 then(v+(n:Int)).toNat else min v.toNat n
end
end HT
namespace L2
open PySem PySem.Spec PyProof.Rows
abbrev TO:=St->Hp->(Option Int->Hp->Prop)->Prop
def PO (X:Cx)(e:Option Expr)(t:TO):Prop :=
 ∀(pins:List (Addr×Obj)) (s:Shared) (σ:St) (H:Hp) (Q:Option Int->Hp->Prop),Inv X pins σ H s->t σ H Q ->
   wpAny (model X.prog X.w) X.A (evalPart e X.env) (fun u s'=>∃o H',Inv X pins σ H' s'/\IsPart u o/\Q o H') X.xe s
def zQW:TO:=fun _ H Q=>Q none H
def zNM (t:TE):TO:=fun σ H Q=>t σ H fun x H1=>∃i,x = .int i/\Q (some i) H1
theorem zUR {ns:List Int}:∀ {us:List Value},Vals (ns.map V.int) us->IntsAre us ns:=by
 induction ns with
 | nil=>intro us r;rw[List.map_nil] at r;cases r;exact .nil
 | cons n ns ih =>
   intro us r
   rw[List.map_cons] at r
   cases r with
   | cons r1 r2 =>
     obtain⟨t,e⟩:=r1
     subst e
     exact .cons n t (ih r2)
section
variable {X:Cx} {e:Expr} {te:TE} {lo hi:Option Expr} {tl th:TO} {pos p2:Pos}
theorem zRl:PO X none zQW:=by
 intro pins s σ H Q I h
 rw[evalPart_none]
 exact wpAny_pure ⟨none,H,I,.none,h⟩
theorem zQ1 (h:PE X e te):PO X (some e) (zNM te):=by
 intro pins s σ H Q I hw
 rw[evalPart_some]
 refine thn (h pins s σ H _ I hw) fun u s1 ⟨x,H1,I1,r1,q1⟩=>?_
 obtain⟨i,rfl,q⟩:=q1
 obtain⟨t,rfl⟩:=r1
 exact⟨some i,H1,I1,.int i t,q⟩
def SlR (X:Cx)(r:V->Option Int->Option Int->Hp->VK->Prop):Prop :=
 ∀(pins:List (Addr×Obj)) (s:Shared) (σ:St) (H:Hp) (x:V) (v vl vu:Value) (lo hi:Option Int) (sl:Addr) (Q:VK),Inv X pins σ H s->RelV x v->s.heap.IsSliceOf sl vl vu .none->IsPart vl lo->IsPart vu hi->r x lo hi H Q ->
   ∃T id,typeLookup (.type T) "__getitem__"=pure (some (.builtin id))/\s.TypeIs v T/\wpAny (model X.prog X.w) X.A (getItem v (.ref sl)) (EP X pins σ Q) X.xe s
def tSl (r:V->Option Int->Option Int->Hp->VK->Prop)(te:TE)(tl th:TO):TE:=fun σ H Q=>te σ H fun x H1=>tl σ H1 fun l H2=>th σ H2 fun u H3=>r x l u H3 Q
theorem zSf {r:V->Option Int->Option Int->Hp->VK->Prop}(hr:SlR X r)(he:PE X e te)(hl:PO X lo tl)(hu:PO X hi th):PE X (.Subscript e (.Slice lo hi none p2) pos) (tSl r te tl th):=by
 intro pins s σ H Q I h
 refine Subscript_ (thn (he pins s σ H _ I h) fun v s1 ⟨x,H1,I1,r1,q1⟩=>?_)
 refine wpAny_Slice (thn (hl pins s1 σ H1 _ I1 q1) fun vl s2 ⟨l,H2,I2,pl,q2⟩=>thn (hu pins s2 σ H2 _ I2 q2) fun vu s3 ⟨u,H3,I3,pu,q3⟩=>?_)
 rw[evalPart_none]
 refine wpAny_pure ?_
 have I4:Inv X pins σ H3 { s3 with heap:=s3.heap.push { cls:=.type "slice",data:=.fields #[vl,vu,.none] } }:=I3.kept (t':=s3.toks) fun b ob q=>Heap.get?_push_of_some _ q
 obtain⟨T,id,hT,ht,hg⟩:=hr pins { s3 with heap:=s3.heap.push { cls:=.type "slice",data:=.fields #[vl,vu,.none] } } σ H3 x v vl vu l u s3.heap.objs.size Q I4 r1 (Heap.IsSliceOf.new ..) pl pu q3
 show wpAny (model X.prog X.w) X.A (subscriptTail e (.Slice lo hi none p2) v (.ref s3.heap.objs.size)) (EP X pins σ Q) X.xe { s3 with heap:=s3.heap.push { cls:=.type "slice",data:=.fields #[vl,vu,.none] } }
 exact tail_any (ops:=[.ref s3.heap.objs.size,v]) ht hT hg (by with_unfolding_all rfl)
def zTJ (xs:List V)(lo hi:Option Int):List V:=(xs.drop (HT.sIx xs.length 0 lo)).take (HT.sIx xs.length xs.length hi - HT.sIx xs.length 0 lo)
theorem zVW (xs:List V)(lo hi:Option Int):(zTJ xs lo hi).length<=xs.length:=by
 unfold zTJ
 rw[List.length_take,List.length_drop]
 omega
theorem Vals.nil_iff {xs:List V}{us:List Value}(r:Vals xs us):us=[]↔xs=[]:=by
 cases r with
 | nil=>simp
 | cons _ _=>simp
end
end L2
namespace L2
open PySem PySem.Spec PyProof.Rows
def ixN (n:Nat)(i:Int):Option Nat:=if 0<=i then(if i < n then some i.toNat else none) else if -(n:Int)<=i then some (i+n).toNat else none
def atI {α:Type}(xs:List α)(i:Int):Option α:=(ixN xs.length i).bind fun j=>xs[j]?
theorem zXv {n:Nat}{i:Int}{j:Nat}(h:ixN n i=some j):seqIndex? i n=some j/\j < n /\ -(n:Int)<=i/\i < n:=by
 unfold ixN at h
 by_cases h0:0<=i
 · rw[if_pos h0] at h
   by_cases h1:i < n
   · rw[if_pos h1] at h
     have e:i.toNat=j:=Option.some.inj h
     exact⟨by rw[seqIndex_of h0 h1,e],by omega,by omega,h1⟩
   · rw[if_neg h1] at h;cases h
 · rw[if_neg h0] at h
   by_cases h1 : -(n:Int)<=i
   · rw[if_pos h1] at h
     have e:(i+n).toNat=j:=Option.some.inj h
     exact⟨by rw[seqIndex_neg (by omega) h1,e],by omega,h1,by omega⟩
   · rw[if_neg h1] at h;cases h
theorem zYs {α:Type}{xs:List α}{i:Int}{v:α}(h:atI xs i=some v):∃j,seqIndex? i xs.length=some j/\xs[j]?=some v/\j < xs.length /\ -(xs.length:Int)<=i/\i < xs.length:=by
 unfold atI at h
 cases e:ixN xs.length i with
 | none=>rw[e] at h;cases h
 | some j =>
   rw[e] at h
   obtain⟨h1,h2,h3,h4⟩:=zXv e
   exact⟨j,h1,h,h2,h3,h4⟩
theorem zX4 {α:Type}{xs:List α}{j:Nat}{v:α}(h:xs[j]?=some v):atI xs (j:Int)=some v:=by
 have hj:j < xs.length:=(List.getElem?_eq_some_iff.mp h).1
 have e:ixN xs.length (j:Int)=some j:=by
   unfold ixN
   rw[if_pos (by omega),if_pos (by omega)];simp
 unfold atI;rw[e];exact h
def cD (b:Expr):Prop:=∀o i,subscripted b false o i=operate [o,i] (getItem o i)
def IxR (X:Cx)(r:R2):Prop :=
 ∀(value slice:Expr) (pins:List (Addr×Obj)) (s:Shared) (σ:St) (H:Hp) (x y:V) (v u:Value) (Q:VK),Inv X pins σ H s->RelV x v->RelV y u->r x y H Q ->
   subscripted slice false v u=operate [v,u] (getItem v u)->wpAny (model X.prog X.w) X.A (subscriptTail value slice v u) (EP X pins σ Q) X.xe s
def MtR (X:Cx)(id:String)(r:V->List V->Hp->VK->Prop):Prop :=
 ∀(pins:List (Addr×Obj)) (s:Shared) (σ:St) (H:Hp) (x:V) (xs:List V) (v:Value) (us:List Value) (Q:VK),Inv X pins σ H s->RelV x v->Vals xs us->r x xs H Q ->
   wpAny (model X.prog X.w) X.A (call (.builtin id) (v::us)) (EP X pins σ Q) X.xe s
section
variable {X:Cx} {a b:Expr} {ta tb:TE} {pos:Pos}
theorem IxR.or {r r':R2}(h:IxR X r)(h':IxR X r'):IxR X (fun x y H Q=>r x y H Q∨r' x y H Q):=by
 intro value slice pins s σ H x y v u Q I rx ry q hs
 rcases q with q | q
 · exact h value slice pins s σ H x y v u Q I rx ry q hs
 · exact h' value slice pins s σ H x y v u Q I rx ry q hs
theorem zSX {r:R2}(hr:IxR X r)(ha:PE X a ta)(hb:PE X b tb)(hs:cD b):PE X (.Subscript a b pos) (tOp r ta tb):=by
 intro pins s σ H Q I h
 exact Subscript_ (zOK ha hb I h fun v u s2 x y H2 I2 rx ry q=>hr a b pins s2 σ H2 x y v u Q I2 rx ry q (hs _ _))
def zOh (K:PySem.W.Frag):R2:=fun x y H Q=>∃p xs i v,x = .ref p/\y = .int i/\SqL K H p xs/\atI xs i=some v/\Q v H
def zO1 (K:PySem.W.Frag):R2:=fun x y H Q=>∃p xs i v,x = .ref p/\y = .int i/\SqT K H p xs/\atI xs i=some v/\Q v H
def zOl:R2:=fun x y H Q=>∃z i c,x = .str z/\y = .int i/\z.length<=sizeLine/\atI z.cps.toList i=some c/\Q (.str ⟨#[c]⟩) H
theorem ix_list:IxR X (zOh X.K):=by
 intro value slice pins s σ H x y v u Q I rx ry h hs
 obtain⟨p,xs,i,z,rfl,rfl,hq,he,q⟩:=h
 cases rx
 obtain⟨t,rfl⟩:=ry
 obtain⟨its,r,pl,hz⟩:=I.list hq
 obtain⟨j,h1,h2,h3,h4,h5⟩:=zYs he
 obtain⟨w,ew,rw'⟩:=r.get h2
 have hl:=r.length
 have hn:=eO
 have fin:EP X pins σ Q w s:=⟨z,H,I,rw',q⟩
 by_cases h0:0<=i
 · have hj:i.toNat=j:=by
     rw[seqIndex_of h0 h5] at h1
     exact Option.some.inj h1
   exact item_listR pl.isList h0 (by omega) (by rw[hj];simpa using ew) fin hs
 · have hj:(i+(its.toArray.size:Int)).toNat=j:=by
     rw[seqIndex_neg (by omega) h4] at h1
     rw[List.size_toArray,←hl]
     exact Option.some.inj h1
   exact subscriptTail_builtinR (x:=w) pl.isList.typeIs slot_list_getitem.lookup
     (wpAny_getItem_list_neg (Q:=fun r s'=>r=w/\EP X pins σ Q r s') pl.isList (by omega) (by rw[List.size_toArray]<;>omega) (by omega) (by rw[hj];simpa using ew) ⟨rfl,fin⟩) hs
theorem ix_tup:IxR X (zO1 X.K):=by
 intro value slice pins s σ H x y v u Q I rx ry h hs
 obtain⟨p,xs,i,z,rfl,rfl,hq,he,q⟩:=h
 cases rx
 obtain⟨t,rfl⟩:=ry
 obtain⟨its,r,pl,hz⟩:=I.tuple hq
 obtain⟨j,h1,h2,h3,h4,h5⟩:=zYs he
 obtain⟨w,ew,rw'⟩:=r.get h2
 have hl:=r.length
 have hn:=eO
 have fin:EP X pins σ Q w s:=⟨z,H,I,rw',q⟩
 exact subscriptTail_builtinR (x:=w) pl.typeIs slot_tuple_getitem.lookup
   (getItem_tuple (j:=j) (Q:=fun r s'=>r=w/\EP X pins σ Q r s') pl (by omega) (by omega) (by rw[List.size_toArray,←hl];exact h1) (by simpa using ew) ⟨rfl,fin⟩) hs
theorem zOS:IxR X zOl:=by
 intro value slice pins s σ H x y v u Q I rx ry h hs
 obtain⟨z,i,c,rfl,rfl,hz,he,q⟩:=h
 obtain⟨t,rfl⟩:=rx
 obtain⟨t',rfl⟩:=ry
 obtain⟨j,h1,h2,h3,h4,h5⟩:=zYs he
 have hl:z.cps.toList.length=z.length:=by simp[Str.length]
 rw[hl] at h1 h4 h5
 have hn:=eO
 exact tail_any (typeIs_str s z t) slot_str_getitem.lookup (getItem_str (c:=c) (by
   have e1:decide (i < -(2^63:Int))=false:=decide_eq_false (by omega)
   have e2:decide (i≥2^63)=false:=decide_eq_false (by omega)
   rw[e1,e2,Bool.or_false]) (by rw[h1];simpa using h2) ⟨.str ⟨#[c]⟩,H,I.tok _,⟨_,rfl⟩,q⟩) hs
def rIx (K:PySem.W.Frag):R2:=fun x y H Q=>zOh K x y H Q∨zO1 K x y H Q∨zOl x y H Q
theorem zPD:IxR X (rIx X.K):=ix_list.or (ix_tup.or zOS)
theorem zVc (its:List Value)(n j:Nat)(u:Value):Obj.mapSeq (·.setIfInBounds j u) { cls:=.type "list",data:=.seq its.toArray n }={ cls:=.type "list",data:=.seq (its.set j u).toArray n }:=by
 simp[Obj.mapSeq]
theorem Inv.lst {pins:List (Addr×Obj)}{σ:St}{H:Hp}{s:Shared}{p:Addr}{xs:List V}(I:Inv X pins σ H s)(h:H p=some (.lst xs)) :
   ∃(its:List Value) (n:Nat),Vals xs its/\s.heap.get? p=some { cls:=.type "list",data:=.seq its.toArray n }/\xs.length<=sizeLine:=by
 obtain⟨z,its,n,r,e⟩:=I.hok p _ h
 exact⟨its,n,r,e,z⟩
theorem Inv.lstUpd {pins:List (Addr×Obj)}{σ:St}{H:Hp}{s:Shared}{p:Addr}{xs ys:List V}{its its':List Value}{n n':Nat}{f:Obj->Obj}(I:Inv X pins σ H s)(h:H p=some (.lst xs))
   (ho:s.heap.get? p=some { cls:=.type "list",data:=.seq its.toArray n }) (hf:f { cls:=.type "list",data:=.seq its.toArray n }={ cls:=.type "list",data:=.seq its'.toArray n' }) (r:Vals ys its') (hz:ys.length<=sizeLine) (t:Nat) :
   Inv X pins σ (upd H p (.lst ys)) { s with heap:=s.heap.update p f,toks:=t }:=by
 have e:(s.heap.update p f).get? p=some { cls:=.type "list",data:=.seq its'.toArray n' }:=by
   rw[Heap.get?_update_self f ho (by rw[hf]<;>rfl),hf]
 refine I.write (x:=p) (e:=p) (by rw[h];trivial) (.inl rfl) (fun b u hb q=>(Heap.get?_update_other _ _ (Ne.symm hb)).trans q) ⟨_,e⟩ ?_
 exact⟨hz,its',n',r,e⟩
def zOa:V->V->V->Hp->(Hp->Prop)->Prop:=fun o i v H Q=>∃p xs k j,o = .ref p/\i = .int k/\H p=some (.lst xs)/\ixN xs.length k=some j/\Q (upd H p (.lst (xs.set j v)))
theorem zSU:zOH X zOa:=by
 intro pins s σ H o i v ov iv u Q I ro ri rv h
 obtain⟨p,xs,k,j,rfl,rfl,hp,hj,q⟩:=h
 cases ro
 obtain⟨t,rfl⟩:=ri
 obtain⟨its,n,r,ho,hz⟩:=I.lst hp
 obtain⟨h1,h2,h3,h4⟩:=zXv hj
 have hl:=r.length
 have hn:=eO
 have I':Inv X pins σ (upd H p (.lst (xs.set j v))) { s with heap:=s.heap.update p (Obj.mapSeq (·.setIfInBounds j u)) } :=
   I.lstUpd hp ho (zVc its n j u) (r.set rv j) (by rw[List.length_set];exact hz) s.toks
 by_cases h0:0<=k
 · have hk:k.toNat=j:=by
     rw[seqIndex_of h0 h4] at h1
     exact Option.some.inj h1
   exact PySem.W.ki_setAt ho h0 (by omega) (by rw[List.size_toArray,←hl];exact h4) (by rw[hk];exact⟨_,I',q⟩)
 · have hk:(k+(its.toArray.size:Int)).toNat=j:=by
     rw[seqIndex_neg (by omega) h3] at h1
     rw[List.size_toArray,←hl]
     exact Option.some.inj h1
   exact PySem.W.ki_setBack ho (by omega) (by rw[List.size_toArray,←hl];exact h3) (by omega) (by rw[hk];exact⟨_,I',q⟩)
theorem zYp (lo hi:Option Int)(n:Nat):(sliceBounds lo hi none n).1=((HT.sIx n 0 lo:Nat):Int)/\(sliceBounds lo hi none n).2.1=((HT.sIx n n hi:Nat):Int)/\(sliceBounds lo hi none n).2.2=1:=by
 refine⟨?_,?_,rfl⟩
 · cases lo with
   | none=>simp[sliceBounds,HT.sIx]
   | some i =>
     simp only[sliceBounds,HT.sIx,Option.getD_none,show(1:Int) > 0 by decide,if_true]
     by_cases h:i < 0
     · simp only[h,if_true]<;>omega
     · simp only[h,if_false]<;>omega
 · cases hi with
   | none=>simp[sliceBounds,HT.sIx]
   | some i =>
     simp only[sliceBounds,HT.sIx,Option.getD_none,show(1:Int) > 0 by decide,if_true]
     by_cases h:i < 0
     · simp only[h,if_true]<;>omega
     · simp only[h,if_false]<;>omega
theorem zZx (its:List Value)(lo hi:Option Int):slicePick its.toArray lo hi none=((its.drop (HT.sIx its.length 0 lo)).take (HT.sIx its.length its.length hi - HT.sIx its.length 0 lo)).toArray:=by
 obtain⟨h1,h2,h3⟩:=zYp lo hi its.toArray.size
 unfold slicePick
 rw[h1,h2,h3]
 simp only[sliceRange_one,pick_run,List.size_toArray]<;>rfl
def zNu (K:PySem.W.Frag):V->Option Int->Option Int->Hp->VK->Prop:=fun x lo hi H Q=>∃a xs,x = .ref a/\SqL K H a xs/\∀p,H p=none->Q (.ref p) (upd H p (.lst (zTJ xs lo hi)))
theorem zQq:SlR X (zNu X.K):=by
 intro pins s σ H x v vl vu lo hi sl Q I rx hs pl pu h
 obtain⟨a,xs,rfl,hx,q⟩:=h
 cases rx
 obtain⟨its,r,ht,hz⟩:=I.list hx
 have hlen:=r.length
 refine⟨"list",_,slot_list_getitem.lookup,ht.isList.typeIs,?_⟩
 refine wpAny_getItem_list_slice ht.isList hs pl pu .none (by simp) ?_ (by rw[List.size_toArray]<;>omega)
 rw[zZx,←hlen]
 refine⟨.ref s.heap.objs.size,_,I.laid (t':=s.toks) (o:=.lst (zTJ xs lo hi)) (fun b ob q=>Heap.get?_push_of_some _ q) (Nat.le_refl _) ?_,rfl,q _ (I.hok.fresh (Nat.le_refl _))⟩
 exact⟨Nat.le_trans (zVW xs lo hi) hz,_,0,(r.drop (HT.sIx xs.length 0 lo)).take (HT.sIx xs.length xs.length hi - HT.sIx xs.length 0 lo),Heap.get?_push_size _ rfl⟩
def kX:V->Bool
 | .non=>true
 | .bl _=>true
 | .int _=>true
 | .str _=>true
 | _=>false
def eqV:V->V->Bool
 | .non,.non=>true
 | .bl a,.bl b=>a==b
 | .bl a,.int b=>(if a then 1 else 0)==b
 | .int a,.bl b=>a==(if b then 1 else 0)
 | .int a,.int b=>a==b
 | .str a,.str b=>a==b
 | _,_=>false
theorem zPx {A:Around}{s:Shared}{y x:V}{u v:Value}(ry:RelV y u)(rx:RelV x v)(fy:kX y=true)(fx:kX x=true):SeqAt.EqAt A s u v (eqV y x):=by
 cases y with
 | non =>
   cases ry
   cases x with
   | non=>cases rx;exact SeqAt.EqAt.same _
   | bl b=>cases rx;exact SeqAt.EqAt.none_bool b
   | int b=>obtain⟨t,rfl⟩:=rx;exact SeqAt.EqAt.none_int b t
   | str b=>obtain⟨t,rfl⟩:=rx;exact SeqAt.EqAt.none_str b t
   | _=>exact absurd (show false=true from fx) Bool.false_ne_true
 | bl a =>
   cases ry
   cases x with
   | non=>cases rx;exact SeqAt.EqAt.bool_none a
   | bl b=>cases rx;exact SeqAt.EqAt.bool_bool a b
   | int b=>obtain⟨t,rfl⟩:=rx;exact SeqAt.EqAt.bool_int a b t
   | str b=>obtain⟨t,rfl⟩:=rx;exact SeqAt.EqAt.bool_str a b t
   | _=>exact absurd (show false=true from fx) Bool.false_ne_true
 | int a =>
   obtain⟨t',rfl⟩:=ry
   cases x with
   | non=>cases rx;exact SeqAt.EqAt.int_none a t'
   | bl b=>cases rx;exact SeqAt.EqAt.int_bool a t' b
   | int b=>obtain⟨t,rfl⟩:=rx;exact SeqAt.EqAt.int_int a t' b t
   | str b=>obtain⟨t,rfl⟩:=rx;exact SeqAt.EqAt.int_str a t' b t
   | _=>exact absurd (show false=true from fx) Bool.false_ne_true
 | str a =>
   obtain⟨t',rfl⟩:=ry
   cases x with
   | non=>cases rx;exact SeqAt.EqAt.str_none a t'
   | bl b=>cases rx;exact SeqAt.EqAt.str_bool a t' b
   | int b=>obtain⟨t,rfl⟩:=rx;exact SeqAt.EqAt.str_int a t' b t
   | str b=>obtain⟨t,rfl⟩:=rx;exact SeqAt.EqAt.str_str a t' b t
   | _=>exact absurd (show false=true from fx) Bool.false_ne_true
 | _=>exact absurd (show false=true from fy) Bool.false_ne_true
def eqU (x:V)(u:Value):Bool:=match u with
 | .none=>eqV .non x
 | .bool b=>eqV (.bl b) x
 | .int i _=>eqV (.int i) x
 | .str z _=>eqV (.str z) x
 | _=>false
theorem zRP {x y:V}{u:Value}(r:RelV y u)(f:kX y=true):eqU x u=eqV y x:=by
 cases y with
 | non=>cases r;rfl
 | bl b=>cases r;rfl
 | int i=>obtain⟨t,rfl⟩:=r;rfl
 | str z=>obtain⟨t,rfl⟩:=r;rfl
 | _=>exact absurd (show false=true from f) Bool.false_ne_true
theorem zYw {x:V}:∀ {xs:List V} {us:List Value},Vals xs us->xs.all kX=true->us.any (eqU x)=xs.any fun y=>eqV y x
 | _,_,.nil,_=>rfl
 | y::xs,u::us,.cons r t,f=>by
   rw[List.all_cons,Bool.and_eq_true] at f
   rw[List.any_cons,List.any_cons,zRP r f.1,zYw t f.2]
theorem bO {A:Around}{s:Shared}{x:V}{v:Value}(rx:RelV x v)(fx:kX x=true):∀ {xs:List V} {us:List Value},Vals xs us->xs.all kX=true->∀u∈us,SeqAt.EqAt A s u v (eqU x u)
 | _,_,.nil,_=>fun u hu=>by cases hu
 | y::xs,u::us,.cons r t,f=>fun u' hu=>by
   rw[List.all_cons,Bool.and_eq_true] at f
   rcases List.mem_cons.mp hu with rfl | hu
   · rw[zRP r f.1];exact zPx r rx f.1 fx
   · exact bO rx fx t f.2 u' hu
def inV (x:V)(xs:List V):Bool:=xs.any fun y=>eqV y x
def rIn (K:PySem.W.Frag)(neg:Bool):R2:=fun x y H Q=>∃p xs,y = .ref p/\(SqL K H p xs∨SqT K H p xs)/\kX x=true/\xs.all kX=true/\Q (.bl (if neg then !inV x xs else inV x xs)) H
theorem zTx:OpR X (compareOp .In) (rIn X.K false):=by
 intro pins s σ H x y v u Q I rx ry h
 obtain⟨p,xs,rfl,hq,fx,fs,q⟩:=h
 cases ry
 rcases hq with hq | hq
 · obtain⟨its,r,pl,hz⟩:=I.list hq
   refine SeqAt.in_listAt (eqU x) pl.isList (fun w hw=>bO rx fx r fs w (by simpa using hw)) ⟨.bl _,H,I,rfl,?_⟩
   rw[show its.toArray.any (eqU x)=its.any (eqU x) by simp,zYw r fs]
   exact q
 · obtain⟨its,r,pl,hz⟩:=I.tuple hq
   refine SeqAt.in_tupleAt (eqU x) pl (fun w hw=>bO rx fx r fs w (by simpa using hw)) ⟨.bl _,H,I,rfl,?_⟩
   rw[show its.toArray.any (eqU x)=its.any (eqU x) by simp,zYw r fs]
   exact q
theorem call_len_seq:CallR X (.builtin "len") (fun xs H Q=>∃p ys,xs=[.ref p]/\(SqL X.K H p ys∨SqT X.K H p ys)/\Q (.int ys.length) H):=by
 intro pins s σ H xs us Q I r h
 obtain⟨p,ys,rfl,hq,q⟩:=h
 obtain⟨u,rfl,rx⟩:=pR r
 cases rx
 have hn:=eO
 rcases hq with hq | hq
 · obtain⟨its,r',pl,hz⟩:=I.list hq
   have hlen:=r'.length
   exact Calls.call_len_list pl.isList (by simp only[List.size_toArray]<;>omega) ⟨.int ys.length,H,I.tok _,⟨s.toks+1,by rw[List.size_toArray,hlen]⟩,q⟩
 · obtain⟨its,r',pl,hz⟩:=I.tuple hq
   have hlen:=r'.length
   exact len_tuple pl (by simp only[List.size_toArray]<;>omega) ⟨.int ys.length,H,I.tok _,⟨s.toks+1,by rw[List.size_toArray,hlen]⟩,q⟩
theorem zXp:CallR X (.builtin "len") (fun xs H Q=>∃z,xs=[.str z]/\z.length<=sizeLine/\Q (.int z.length) H):=by
 intro pins s σ H xs us Q I r h
 obtain⟨z,rfl,hz,q⟩:=h
 obtain⟨u,rfl,t,rfl⟩:=pR r
 have hn:=eO
 exact len_str (by omega) ⟨.int z.length,H,I.tok _,⟨_,rfl⟩,q⟩
theorem CallR.or {f:Value}{r r':List V->Hp->VK->Prop}(h:CallR X f r)(h':CallR X f r'):CallR X f (fun xs H Q=>r xs H Q∨r' xs H Q):=by
 intro pins s σ H xs us Q I rs q
 rcases q with q | q
 · exact h pins s σ H xs us Q I rs q
 · exact h' pins s σ H xs us Q I rs q
theorem zXK:CallR X (.type "list") (fun xs H Q=>∃p ys,xs=[.ref p]/\(SqL X.K H p ys∨SqT X.K H p ys)/\∀l,H l=none->Q (.ref l) (upd H l (.lst ys))):=by
 intro pins s σ H xs us Q I r h
 obtain⟨p,ys,rfl,hq,q⟩:=h
 obtain⟨u,rfl,rx⟩:=pR r
 cases rx
 have fin:∀(its:List Value),Vals ys its->ys.length<=sizeLine->∀(h':Heap) (c':Nat),(∀b o',s.heap.get? b=some o'->h'.get? b=some o') ->
     h'.get? s.heap.objs.size=some { cls:=.type "list",dict:=none,data:=.seq its.toArray c',slots:=#[] }->EP X pins σ Q (.ref s.heap.objs.size) { s with heap:=h' }:=fun its r' hz h' c' kp e =>
   ⟨.ref s.heap.objs.size,_,I.laid (t':=s.toks) kp (Nat.le_refl _) (show ObjOk X.prog X.w _ h' _ (.lst ys) from⟨hz,its,c',r',e⟩),rfl,q _ (I.hok.fresh (Nat.le_refl _))⟩
 rcases hq with hq | hq
 · obtain⟨its,r',pl,hz⟩:=I.list hq
   have hlen:=r'.length
   obtain⟨o,ho,hc,n,hd⟩:=pl.isList
   exact call_list_seq p (.inl rfl) ho hc hd (fun h' c' kp e=>fin its r' hz h' c' kp e) (by simp only[List.size_toArray]<;>omega)
 · obtain⟨its,r',pl,hz⟩:=I.tuple hq
   have hlen:=r'.length
   obtain⟨o,ho,hc,n,hd⟩:=pl
   exact call_list_seq p (.inr rfl) ho hc hd (fun h' c' kp e=>fin its r' hz h' c' kp e) (by simp only[List.size_toArray]<;>omega)
theorem zZw:CallR X (.type "tuple") (fun xs H Q=>∃p ys,xs=[.ref p]/\((SqL X.K H p ys/\∀l,H l=none->Q (.ref l) (upd H l (.tup ys)))∨(SqT X.K H p ys/\Q (.ref p) H))):=by
 intro pins s σ H xs us Q I r h
 obtain⟨p,ys,rfl,h⟩:=h
 obtain⟨u,rfl,rx⟩:=pR r
 cases rx
 rcases h with⟨hq,q⟩ | ⟨hq,q⟩
 · obtain⟨its,r',pl,hz⟩:=I.list hq
   have hlen:=r'.length
   refine call_tuple_list pl.isList (fun h' kp=>?_) (by simp only[List.size_toArray]<;>omega)
   have I1:Inv X pins σ H { s with heap:=h' }:=I.kept (t':=s.toks) kp
   have I2:Inv X pins σ (upd H h'.objs.size (.tup ys)) { s with heap:=h'.push { cls:=.type "tuple",data:=.seq its.toArray } } :=
     I1.laid (t':=s.toks) (fun b o e=>Heap.get?_push_of_some _ e) (Nat.le_refl _) (show ObjOk X.prog X.w _ _ _ (.tup ys) from⟨hz,its,r',IsTup.new _ _⟩)
   exact⟨.ref h'.objs.size,_,I2,rfl,q _ (I1.hok.fresh (Nat.le_refl _))⟩
 · obtain⟨its,r',pl,hz⟩:=I.tuple hq
   exact call_tuple_same pl ⟨.ref p,H,I,rfl,q⟩
def tyV (K:PySem.W.Frag)(T:String)(x:V)(H:Hp):Prop:=match x with
 | .str _=>T="str"
 | .int _=>T="int"
 | .ref p=>(T="list"/\∃xs,SqL K H p xs)∨(T="tuple"/\∃o,K.lookup p=some o/\o.cls = .type "tuple"/\o.dict=none) ∨
     (T="dict"/\((∃kvs,H p=some (.dK kvs))∨∃kvs,H p=some (.dT kvs)))∨(T="set"/\∃S n,H p=some (.set S n))
 | _=>False
theorem zPA {pins:List (Addr×Obj)}{σ:St}{H:Hp}{s:Shared}{T:String}{x:V}{v:Value}(I:Inv X pins σ H s)(r:RelV x v)(ty:tyV X.K T x H) :
   s.TypeIs v T/\∀a,v = .ref a->∃ob,s.heap.get? a=some ob/\ob.dict=none:=by
 cases x with
 | str z =>
   obtain⟨t,rfl⟩:=r
   cases (show T="str" from ty)
   exact⟨typeIs_str s z t,fun _ e=>nomatch e⟩
 | int i =>
   obtain⟨t,rfl⟩:=r
   cases (show T="int" from ty)
   exact⟨typeIs_int s i t,fun _ e=>nomatch e⟩
 | ref p =>
   cases r
   rcases ty with⟨rfl,xs,hq⟩ | ⟨rfl,o,hk,hc,hd⟩ | ⟨rfl,hk⟩ | ⟨rfl,S,n,hk⟩
   · obtain⟨its,_,pl,_⟩:=I.list hq
     refine⟨pl.isList.typeIs,fun a e=>?_⟩
     cases e
     obtain⟨o,n,e,c,hd,_⟩:=pl
     exact⟨o,e,hd⟩
   · refine⟨⟨o,I.kIn p o hk,hc⟩,fun a e=>?_⟩
     cases e
     exact⟨o,I.kIn _ o hk,hd⟩
   · have z:∃o,s.heap.get? p=some o/\o.ExactDict:=by
       rcases hk with⟨kvs,hk⟩ | ⟨kvs,hk⟩
       · obtain⟨_,_,_,_,o,_,_,e,ex,_⟩:=I.hok p _ hk
         exact⟨o,e,ex⟩
       · obtain⟨_,_,_,_,o,_,_,e,ex,_⟩:=I.hok p _ hk
         exact⟨o,e,ex⟩
     obtain⟨o,e,ex⟩:=z
     refine⟨⟨o,e,ex.1⟩,fun a e2=>?_⟩
     cases e2
     exact⟨o,e,ex.2.1⟩
   · obtain⟨o,_,_,_,e,ex,_⟩:=I.hok p _ hk
     refine⟨⟨o,e,ex.1⟩,fun a e2=>?_⟩
     cases e2
     exact⟨o,e,ex.2.1⟩
 | _=>exact False.elim ty
def tBM (K:PySem.W.Frag)(T:String)(r:V->List V->Hp->VK->Prop)(to:TE)(t:TA):TE:=fun σ H Q=>to σ H fun x H1=>tyV K T x H1/\t σ H1 fun xs H2=>r x xs H2 Q
variable {o e:Expr} {es:List Expr} {to:TE} {t:TA} {name:Str} {apos cpos:Pos} {T id:String} {r:V->List V->Hp->VK->Prop}
theorem qK (pa:PlainAttrs T)(slot:Slot T name id)(hty:typeOf (.builtin id)=pure (.type "method_descriptor"))(hm:MtR X id r)(ho:PE X o to)(ha:PA X (e::es) t)
   (hbase:attributeBase o name X.env (eval o X.env)=eval o X.env:=by rfl)
   (hfew:((backTo cpos (starEach (e::es) X.env)).all (fun x => !x.1)&&(backToKw cpos (keywordEach [] X.env)).all (fun x=>x.1.isSome)
     && decide ((e::es).length+([]:List Keyword).length+(if ([]:List Keyword).isEmpty then 0 else 1) < 30))=true:=by rfl)
   (hline:(apos.endLine==cpos.line)=true:=by rfl) (hs:starEach (e::es) X.env=(false,eval e X.env)::starEach es X.env:=by rfl) (hplain:(backTo cpos (starEach es X.env)).any (·.1)=false:=by rfl) :
   PE X (.Call (.Attribute o name apos) (e::es) [] cpos) (tBM X.K T r to t):=by
 intro pins s σ H Q I h
 refine wpAny_Call_method_late hbase hfew hline rfl (thn (ho pins s σ H _ I h) fun v s1 ⟨x,H1,I1,r1,ty,q1⟩=>?_)
 obtain⟨h1,h2⟩:=zPA I1 r1 ty
 refine⟨T,id,pa,slot,hty,h1,h2,?_⟩
 have hA:=ha cpos pins s1 σ H1 _ I1 q1
 rw[hs] at hA ⊢
 refine Calls.callWith_builtin (by show(false||(backTo cpos (starEach es X.env)).any (·.1))=false;rw[hplain]<;>rfl) (Calls.evalArgs_plain ?_)
 exact thn hA fun us s2 ⟨vs,H2,I2,r2,q2⟩=>hm pins s2 σ H2 x vs v us Q I2 r1 r2 q2
end
end L2
namespace L2
open PySem PySem.Spec PyProof.Rows
def MtM (X:Cx)(id:String)(r:V->List V->Hp->VK->Prop):Prop :=
 ∀(pins:List (Addr×Obj)) (s:Shared) (σ:St) (H:Hp) (x:V) (xs:List V) (v:Value) (us:List Value) (Q:VK),Inv X pins σ H s->RelV x v->Vals xs us->r x xs H Q ->
   wpAny (model X.prog X.w) X.A (call (.builtin id) (v::us)) (EP X pins σ Q) X.xe s
theorem Vals.one:∀ {x:V} {us:List Value},Vals [x] us->∃u,us=[u]/\RelV x u
 | _,_,.cons r .nil=>⟨_,rfl,r⟩
theorem Vals.eraseIdx:∀ {xs:List V} {us:List Value} (i:Nat),Vals xs us->Vals (xs.eraseIdx i) (us.eraseIdx i)
 | _,_,_,.nil=>.nil
 | _,_,0,.cons _ t=>t
 | _,_,i+1,.cons r t=>.cons r (Vals.eraseIdx i t)
theorem Vals.reverse {xs:List V}{us:List Value}(h:Vals xs us):Vals xs.reverse us.reverse:=by
 induction h with
 | nil=>exact .nil
 | cons r t ih=>rw[List.reverse_cons,List.reverse_cons];exact Vals.append ih (.cons r .nil)
theorem Vals.rep {xs:List V}{us:List Value}(h:Vals xs us):∀k:Nat,Vals (List.replicate k xs).flatten (List.replicate k us).flatten
 | 0=>.nil
 | k+1=>by
   rw[List.replicate_succ,List.replicate_succ,List.flatten_cons,List.flatten_cons]
   exact Vals.append h (Vals.rep h k)
theorem zYZ {α:Type}:∀(l:List α) (i:Nat),(l.eraseIdx i).length<=l.length
 | [],_=>Nat.le_refl _
 | _::_,0=>Nat.le_succ _
 | _::r,i+1=>Nat.succ_le_succ (zYZ r i)
theorem dQ (its:List Value):∀(k:Nat) (acc:List Value),
   List.foldl (fun x1 x2=>x1++x2) acc.toArray (List.replicate k its.toArray)=(acc++(List.replicate k its).flatten).toArray
 | 0,acc=>by simp
 | k+1,acc=>by
   have e:acc.toArray++its.toArray=(acc++its).toArray:=by simp
   have e2:(acc++its)++(List.replicate k its).flatten=acc++(List.replicate (k+1) its).flatten:=by
     rw[List.replicate_succ,List.flatten_cons,List.append_assoc]
   rw[←e2,←dQ its k (acc++its),←e,List.replicate_succ,List.foldl_cons]
section
variable {X:Cx} {pins:List (Addr×Obj)} {σ:St} {H:Hp} {s:Shared} {l b:Addr} {xs ys zs:List V}
theorem Inv.lset {its its':List Value}{n:Nat}{f:Array Value->Array Value}{t':Nat}(I:Inv X pins σ H s)(hH:H l=some (.lst xs))
   (e:s.heap.get? l=some { cls:=.type "list",data:=.seq its.toArray n }) (hf:f its.toArray=its'.toArray) (hv:Vals ys its') (hz:ys.length<=sizeLine) :
   Inv X pins σ (upd H l (.lst ys)) { s with heap:=s.heap.update l (Obj.mapSeq f),toks:=t' }:=by
 have q:=PySem.IsL.update e f
 rw[hf] at q
 refine I.write (x:=l) (e:=l) (by rw[hH];exact trivial) (.inl rfl) (fun b' u hb hu=>(Heap.get?_update_other s.heap (Obj.mapSeq f) (Ne.symm hb)).trans hu) ⟨_,q⟩ ?_
 exact⟨hz,its',_,hv,q⟩
theorem Inv.lnew {its:List Value}{t':Nat}(I:Inv X pins σ H s)(hv:Vals ys its)(hz:ys.length<=sizeLine) :
   Inv X pins σ (upd H s.heap.objs.size (.lst ys)) { s with heap:=s.heap.push { cls:=.type "list",data:=.seq its.toArray },toks:=t' } :=
 I.laid (fun _ _ q=>Heap.get?_push_of_some _ q) (Nat.le_refl _) ⟨hz,its,0,hv,Heap.get?_push_size _ rfl⟩
theorem Inv.fresh (I:Inv X pins σ H s):H s.heap.objs.size=none:=I.hok.fresh (Nat.le_refl _)
theorem Inv.lstM (I:Inv X pins σ H s)(hH:H l=some (.lst xs)):xs.length<=sizeLine/\∃(its:List Value) (n:Nat),Vals xs its/\xs.length=its.length/\s.heap.get? l=some { cls:=.type "list",data:=.seq its.toArray n }:=by
 obtain⟨z,its,n,r,e⟩:=I.hok l _ hH
 exact⟨z,its,n,r,r.length,e⟩
theorem zR2 {n:Nat}(h:n<=sizeLine):Builtin.List.listTooLong n=false:=by
 unfold Builtin.List.listTooLong
 exact decide_eq_false (by omega)
end
section
variable {X:Cx}
def zU1:V->List V->Hp->VK->Prop:=fun x vs H Q=>∃l xs y,x = .ref l/\vs=[y]/\H l=some (.lst xs)/\xs.length < sizeLine/\Q .non (upd H l (.lst (xs++[y])))
theorem qB:MtM X "list.append" zU1:=by
 intro pins s σ H x vs v us Q I rx rv h
 obtain⟨l,xs,y,rfl,rfl,hH,hz,q⟩:=h
 cases rx
 obtain⟨u,rfl,ru⟩:=rv.one
 obtain⟨z,its,n,r,hl,e⟩:=I.lstM hH
 refine call_meets F.slot_list_append ⟨_,e,rfl⟩ F.entry_list_append (F.args_list_append_2 _ _) (PySem.list_append l its.toArray n u (by rw[List.size_toArray];omega)) ⟨e,?_⟩
 refine⟨.non,_,I.lset (its':=its++[u]) hH e (by simp) (r.append (.cons ru .nil)) ?_,rfl,q⟩
 rw[List.length_append,List.length_singleton]
 omega
def zRC:V->List V->Hp->VK->Prop:=fun x vs H Q=>∃l xs i k y,x = .ref l/\vs=[.int i]/\H l=some (.lst xs) /\ -(2^63)<=i/\i < 2^63/\seqIndex? i xs.length=some k/\xs[k]?=some y/\Q y (upd H l (.lst (xs.eraseIdx k)))
theorem zSY:MtM X "list.pop" zRC:=by
 intro pins s σ H x vs v us Q I rx rv h
 obtain⟨l,xs,i,k,y,rfl,rfl,hH,h1,h2,hk,hy,q⟩:=h
 cases rx
 obtain⟨u,rfl,ru⟩:=rv.one
 obtain⟨t,rfl⟩:=ru
 obtain⟨z,its,n,r,hl,e⟩:=I.lstM hH
 obtain⟨w,hw,rw'⟩:=r.get hy
 refine call_meets F.slot_list_pop ⟨_,e,rfl⟩ F.entry_list_pop (F.args_list_pop_2 _ _)
   (MeetsSeq.list_pop_at l its.toArray n i t k w (fitsIndex_both h1 h2) (by rw[List.size_toArray,←hl];exact hk) (by rw[←Array.getElem?_toList];exact hw) (by rw[List.size_toArray];omega)) ⟨e,?_⟩
 refine⟨y,_,I.lset (its':=its.eraseIdx k) hH e ?_ (r.eraseIdx k) ?_,rw',q⟩
 · show its.toArray.eraseIdxIfInBounds k=(its.eraseIdx k).toArray
   rw[List.eraseIdxIfInBounds_toArray]
 · have:=zYZ xs k
   omega
def zN7:R2:=fun x y H Q=>∃l b xs zs,x = .ref l/\y = .ref b/\H l=some (.lst xs)/\H b=some (.lst zs)/\xs.length+zs.length<=sizeLine/\∀p,H p=none->Q (.ref p) (upd H p (.lst (xs++zs)))
theorem zPl:OpR X (binaryOp .Add) zN7:=by
 intro pins s σ H x y v u Q I rx ry h
 obtain⟨l,b,xs,zs,rfl,rfl,hH,hB,hz,q⟩:=h
 cases rx
 cases ry
 obtain⟨z,its,n,r,hl,e⟩:=I.lstM hH
 obtain⟨z2,its2,n2,r2,hl2,e2⟩:=I.lstM hB
 refine PySem.P.add_list e e2 ?_ (by rw[List.size_toArray,List.size_toArray];omega)
 have ea:its.toArray++its2.toArray=(its++its2).toArray:=by simp
 rw[ea]
 exact⟨.ref _,_,I.lnew (t':=s.toks) (r.append r2) (by rw[List.length_append];omega),rfl,q _ I.fresh⟩
def zNp:R2:=fun x y H Q=>∃l k xs,x = .ref l/\y = .int k/\H l=some (.lst xs) /\ -(2^63)<=k/\k < 2^63/\xs.length*k.toNat<=sizeLine /\
 ∀p,H p=none->Q (.ref p) (upd H p (.lst (List.replicate k.toNat xs).flatten))
theorem zQv {α:Type}(xs:List α)(k:Nat):(List.replicate k xs).flatten.length=k*xs.length:=by
 induction k with
 | zero=>simp
 | succ k ih=>rw[List.replicate_succ,List.flatten_cons,List.length_append,ih,Nat.succ_mul,Nat.add_comm]
theorem zO4:OpR X (binaryOp .Mult) zNp:=by
 intro pins s σ H x y v u Q I rx ry h
 obtain⟨l,k,xs,rfl,rfl,hH,h1,h2,hz,q⟩:=h
 cases rx
 obtain⟨t,rfl⟩:=ry
 obtain⟨z,its,n,r,hl,e⟩:=I.lstM hH
 have hlen:its.toArray.size*k.toNat<=sizeLine:=by rw[List.size_toArray,←hl];exact hz
 have hcap:¬its.toArray.size*k.toNat > (2^63 - 1) / 8:=by
   have:(sizeLine:Nat)<=(2^63 - 1) / 8:=by decide
   omega
 have hfit:¬(!Builtin.List.listFitsIndex k)=true:=by
   rw[fitsIndex_both h1 h2]
   exact Bool.false_ne_true
 have hlong:¬Builtin.List.listTooLong (its.toArray.size*k.toNat)=true:=by
   rw[zR2 hlen]
   exact Bool.false_ne_true
 have hnew:List.foldl (fun x1 x2=>x1++x2) #[] (List.replicate (if its.toArray.isEmpty=true then 0 else k.toNat) its.toArray)=(List.replicate k.toNat its).flatten.toArray:=by
   have f0:∀m:Nat,List.foldl (fun x1 x2=>x1++x2) #[] (List.replicate m its.toArray)=(List.replicate m its).flatten.toArray:=fun m=>by
     have:=dQ its m []
     rw[List.nil_append] at this
     exact this
   rw[f0]
   cases its with
   | nil=>simp
   | cons a r'=>rw[if_neg (by simp)]
 refine wpAny_binaryOp_repeat_ref (T:="list") (U:="int") (by decide) ⟨_,e,rfl⟩ (fun s'=>typeIs_int s' k t) noFill_list_mul F.fills_int_mul F.slot_int_rmul repeat_list F.slot_int_index.lookup
   (call_meets F.slot_int_rmul (typeIs_int s k t) F.entry_int_rmul (F.args_int_rmul_2 _ _) (int___rmul___int_list k t l its.toArray n)
     ⟨e,rfl,⟨_,e,rfl⟩,call_meets F.slot_list_mul ⟨_,e,rfl⟩ F.entry_list_mul (F.args_list_mul_2 _ _) (AutoListH.list___mul___list_int_3 l its.toArray n k t hfit hcap hlong) ⟨e,?_⟩⟩)
 rw[hnew]
 exact⟨.ref _,_,I.lnew (t':=s.toks) (r.rep k.toNat) (by rw[zQv,Nat.mul_comm];exact hz),rfl,q _ I.fresh⟩
end
section
variable {prog:Program} {w:World} {A:Around} {E:Value->Shared->Prop} {s:Shared}
end
section
variable {X:Cx}
end
end L2
namespace Att
open PySem PySem.W PySem.Calls PyProof.Rows
theorem cJ {P:Params}{h:Heap}:∀(ns:List Int) (vs:List Value),WellAll P h vs (ns.map WData.int)->IntsAre vs ns:=by
 intro ns
 induction ns with
 | nil =>
   intro vs w
   rw[List.map_nil] at w
   cases w
   exact .nil
 | cons n ns ih =>
   intro vs w
   rw[List.map_cons] at w
   cases w with
   | cons a b =>
     cases a
     exact .cons _ _ (ih _ b)
theorem zTM {l:OpenLaw}{n:Nat}(hn:l.most=some n){P:Params}{h:Heap}{args:List WData}{vals:List Value}
   (hpre:l.row.toRowW.claim.pre args=true) (hwl:WellAll P h vals args) :
   ∃a vs ns,vals=[Value.ref a]/\args=[WData.list (ns.map WData.int)]/\h.get? a=some { cls:=.type "list",data:=.seq vs.toArray }/\IntsAre vs ns/\ns.length<=n:=by
 have hsh:WShape.hasAll [] args [.list .int]=true:=(pre_splitW hpre).1
 have hc:l.pre.holds [] { args:=args }=true:=(pre_splitW hpre).2
 obtain⟨d,r,rfl,h1,h2⟩:=hasAllW_cons hsh
 obtain rfl:=hasAllW_nil h2
 obtain⟨xs,rfl,h3⟩:=hasW_list h1
 obtain⟨ns,rfl⟩:=items_int h3
 have hlen:ns.length<=n:=by
   unfold OpenLaw.pre at hc
   have h4:(WTm.not (.lt (.lit (.int (n:Int))) (.len (.arg 0)))).holds [] { args:=[.list (ns.map .int)] }=true:=by
     have h4:=(holds_andW hc).1
     rw[hn] at h4
     exact h4
   have h5:=condW_of h4 (w_not (w_lt w_lit (w_len_list (w_arg rfl))))
   rw[List.length_map] at h5
   refine Nat.le_of_not_lt fun q=>?_
   have q':(n:Int) < ((ns.length:Nat):Int):=by omega
   first
     | (rw[decide_eq_true q'] at h5;exact absurd h5 (by decide))
     | (simp at h5;omega)
 cases hwl with
 | cons w1 w2 =>
   cases w2
   cases w1 with
   | list ho hall=>exact⟨_,_,ns,rfl,rfl,ho,cJ ns _ hall,hlen⟩
theorem zTg (l:OpenLaw)(args:List WData):l.row.toRowW.claim.post args (.bool true) args=true :=
 postW_of (r:=l.row.toRowW) (X:=(true==true))
   (show WShape.has [] (.bool true) .bool=true by first | rfl | decide | simp[WShape.has,WShape.arms,WShape.armsAll])
   (show(WTm.eq .res (.lit (.bool true))).value [] { args:=args,res:=some (.bool true),after:=args }=some (.bool (true==true)) from w_eq_bool (w_res rfl) w_lit) rfl
section
variable {prog:Program} {w:World} {A:Around} {E:Value->Shared->Prop} {s:Shared} {K:Frag}
end
end Att
namespace L2
open PySem PySem.Spec PyProof.Rows
theorem eU:∀ {vs:List Value} {ns:List Int},IntsAre vs ns->Vals (ns.map V.int) vs
 | _,_,.nil=>.nil
 | _,_,.cons n t h=>.cons ⟨t,rfl⟩ (eU h)
def zOD (H:Hp):Prop:=∀b,H b=none∨∃o xs,H b=some (.frz o (.lst xs))
theorem zRW {P:Program}{w:World}{K:PySem.W.Frag}{mg mb:Str->Option Value}{CX:CXT}{k:Nat}{fa a:Addr}{fd:FuncData}{x:Str}{sp:Sp}{s₁:Shared}{vs:List Value}{ns:List Int}
   (KX:K.In s₁.heap) (hns:s₁.heap.Ns mainGlobals mg) (hb:s₁.heap.Ns builtinsNs mb) (hbb:∀x:Str,x≠"__name__"->mb x=bootBuiltins x) (hlim:s₁.heap.NoLimit) (hg:s₁.gens=#[])
   (ha:s₁.heap.get? a=some { cls:=.type "list",data:=.seq vs.toArray }) (hi:IntsAre vs ns) (hl:ns.length<=sizeLine) (hr:Room k callerA)
   (F:∀base:Heap,K.In base->base.Ns mainGlobals mg->FnOk P w K mg base CX k fa fd [x] sp) (hbind:∀(s:Shared) (u:Value),BindsTo s fd ⟨[u],[]⟩ [(x,u)])
   (hsp:∀H:Hp,zOD H->SqL K H a (ns.map V.int)->sp [.ref a] H (fun v _=>v = .bl true) fun _ _ _=>False)
   (hCX:∀H e s',CX [] H s₁ (fun _ _ _=>False) e s'->False) :
   codeAny (model P w) callerA (.call (.ref fa) ⟨[.ref a],[]⟩) (fun r s'=>r = .ok (.ret (.bool true))/\OldK s₁.heap s'.heap/\s'.os=s₁.os/\AllBare s'.gens) s₁:=by
 have rv:=eU hi
 have lenV:=hi.length
 -- from an abstract heap in which nothing but the script may be tracked
 have core:∀H:Hp,zOD H->SqL K H a (ns.map V.int)->HOk P w H s₁.heap->(∀b,H b≠none->b=a)->(H a≠none->K.lookup a=none) ->
     codeAny (model P w) callerA (.call (.ref fa) ⟨[.ref a],[]⟩) (fun r s'=>r = .ok (.ret (.bool true))/\OldK s₁.heap s'.heap/\s'.os=s₁.os/\AllBare s'.gens) s₁:=by
   intro H hO hS hok hA hK
   have base_of:∀ {b:Addr} {o:Obj},s₁.heap.get? b=some o->H b=none->(zYk s₁.heap H).get? b=some o:=fun e n=>zSp e n
   have noA:∀ {b:Addr} {o:Obj} {es:Array DictEntry} {ep:Nat},s₁.heap.get? b=some o->o.data = .dict es ep->H b=none:=fun {b o es ep} e d=>by
     cases q:H b with
     | none=>rfl
     | some u =>
       have e':b=a:=hA b (by rw[q];simp)
       subst e'
       rw[ha] at e;cases e
       have d':Data.seq vs.toArray _=Data.dict es ep:=d
       cases d'
   have nsK:∀ {b:Addr} {m:Str->Option Value},s₁.heap.Ns b m->(zYk s₁.heap H).Ns b m:=fun {b m} ⟨o,es,ep,e,d,r⟩=>⟨o,es,ep,base_of e (noA e d),d,r⟩
   have hKb:K.In (zYk s₁.heap H):=fun b o e=>base_of (KX b o e) (by
     cases q:H b with
     | none=>rfl
     | some u =>
       have e':b=a:=hA b (by rw[q];simp)
       subst e'
       rw[hK (by rw[q];simp)] at e;cases e)
   have hM:Mod K mg (zYk s₁.heap H):=⟨hKb,nsK hns,⟨mb,nsK hb,hbb⟩,let ⟨mc,h1,h2⟩:=hlim;⟨mc,nsK h1,h2⟩⟩
   have e0:Env0 P w K mg (zYk s₁.heap H) callerA [] s₁ H:=⟨rfl,hM,fun b o e=>zQJ e,Nat.le_of_eq (zTi _ _),trivial,fun b hb=>absurd (show b∈([]:List Addr) from hb) (by simp),hok,.of_eq hg⟩
   refine codeAny_mono ((F _ hKb (nsK hns)).run callerA [] s₁ H ⟨[.ref a],[]⟩ [.ref a] [.ref a] _ _ hr e0 (hbind s₁ (.ref a)) (.cons rfl .nil) (hsp H hO hS)) fun r s' h=>?_
   cases r with
   | error e=>exact(hCX H e s' h).elim
   | ok fl =>
     cases fl with
     | next=>exact False.elim h
     | brk=>exact False.elim h
     | cont=>exact False.elim h
     | ret u =>
       obtain⟨v,H',os,bare,un,hok',r',q⟩:=h
       have q':v = .bl true:=q
       subst q'
       obtain rfl:u=Value.bool true:=r'
       refine⟨rfl,OldK.of_keep fun b o e=>?_,os,bare⟩
       cases q:H b with
       | none=>exact un.keep b o e q (by intro z;exact absurd (show b∈([]:List Addr) from z) (by simp)) (by simp)
       | some u =>
         rcases hO b with z | ⟨ob,xs,z⟩
         · rw[q] at z;cases z
         · have z2:=un.frzs b ob _ z
           obtain⟨e1,_⟩:=hok b _ z
           obtain⟨e2,_⟩:=hok' b _ z2
           rw[e] at e1;cases e1
           exact e2
 cases hk:K.lookup a with
 | some o =>
   -- the script is one of the module's own objects
   have e:=KX a o hk
   rw[ha] at e
   cases e
   refine core (fun _=>none) (fun _=>.inl rfl) (.inr ⟨_,vs.toArray,_,hk,rfl,rfl,rfl,by rw[List.size_toArray,lenV];exact hl,by simpa using rv⟩) (fun b u z=>by have z':(none:Option HO)=some u:=z;cases z') (fun b z=>absurd rfl z) fun z=>absurd rfl z
 | none =>
   refine core (fun b=>if b=a then some (.frz { cls:=.type "list",data:=.seq vs.toArray } (.lst (ns.map V.int))) else none) (fun b=>?_) (.inl (.inr ⟨{ cls:=.type "list",data:=.seq vs.toArray },if_pos rfl⟩)) (fun b u z=>?_) (fun b z=>?_) fun _=>hk
   · by_cases hb:b=a
     · exact .inr ⟨_,_,if_pos hb⟩
     · exact .inl (if_neg hb)
   · by_cases hb:b=a
     · have z':=(if_pos hb).symm.trans z
       cases z'
       subst hb
       exact⟨ha,by rw[List.length_map];exact hl,vs,_,rv,ha⟩
     · have z':=(if_neg hb).symm.trans z
       cases z'
   · by_cases hb:b=a
     · exact hb
     · exact absurd (if_neg hb) z
end L2
namespace L2
open PySem PySem.Spec PyProof.Rows
end L2
namespace L2
open PySem PySem.Spec PyProof.Rows
abbrev CX0:CXT:=fun _ _ _ _ _ _=>False
abbrev E0:XK:=fun _ _ _=>False
theorem zSy {X:Cx}:zZX CX0 X E0:=fun _ _ _ _ _ _ _ h=>h.elim
structure Fun (K:PySem.W.Frag)(x qual:Str)(st:Stmt)(f:Addr)(fd:FuncData):Prop where
 ex:∃(oc:Value) (od:Option Addr) (kV doc pm:Value) (an:Option Addr) (cdv ct:Value) (osl:Array (Option Value)),
   fd=PySem.W.fnOf x qual (zP st) (zQ st) (zX st) .none kV doc pm an cdv ct/\K.lookup f=some ⟨oc,od,.func fd,osl⟩/\PySem.W.codeIn K cdv qual=true
 kp:PySem.W.keepIn K (.ref f)=true
section
variable {P:Program} {w:World} {K:PySem.W.Frag} {mg:Str->Option Value} {base:Heap}
theorem Fun.ok {x qual:Str}{st:Stmt}{f:Addr}{fd:FuncData}{N ps:List Str}{k:Nat}{sp:Sp}(F:Fun K x qual st f fd)(S:FnScope N ps (zX st))(len:∀vs H Q E,sp vs H Q E->vs.length=ps.length)
   (hbody:∀(cdv:Value) (A:Around) (outer:List Env) (s:Shared) (H:Hp) (vs:List V) (Q:VK) (E:XK),Room k (A.deeper (envOfC qual (zX st) s.heap.objs.size f cdv))->sp vs H Q E ->
     ∃t,PSs (zXn CX0 P w K mg base N qual (zX st) f cdv A outer s H E).nox (zQ st) t/\t { nx:=fun _ H'=>Q .non H',rt:=Q } (kU N vs) H):FnOk P w K mg base CX0 (k+1) f fd ps sp:=by
 obtain⟨oc,od,kV,doc,pm,an,cdv,ct,osl,rfl,lk,hcd⟩:=F.ex
 refine zNY lk hcd S len fun A outer s H vs Q E hr hsp=>?_
 obtain⟨t,h,q⟩:=hbody cdv A outer s H vs Q E hr hsp
 exact⟨t,h.nox,q⟩
theorem Fun.binds {x qual:Str}{st:Stmt}{f:Addr}{fd:FuncData}{ps:List Str}(F:Fun K x qual st f fd)
   (h:∀(kV doc pm:Value) (an:Option Addr) (cdv ct:Value) (us:List Value),us.length=ps.length->bindArgs (PySem.W.fnOf x qual (zP st) (zQ st) (zX st) .none kV doc pm an cdv ct) ⟨us,[]⟩=pure (ps.zip us)):Binds K fd ps []:=by
 obtain⟨oc,od,kV,doc,pm,an,cdv,ct,osl,rfl,lk,hcd⟩:=F.ex
 exact .all (h kV doc pm an cdv ct)
theorem yW {x qual:Str}{st:Stmt}{f:Addr}{oc:Value}{od an:Option Addr}{osl:Array (Option Value)}{kV doc pm cdv ct:Value}(l:K.lookup f=some ⟨oc,od,.func (PySem.W.fnOf x qual (zP st) (zQ st) (zX st) .none kV doc pm an cdv ct),osl⟩)
   (c:PySem.W.codeIn K cdv qual=true) (k:PySem.W.keepIn K (.ref f)=true):Fun K x qual st f (PySem.W.fnOf x qual (zP st) (zQ st) (zX st) .none kV doc pm an cdv ct):=⟨⟨oc,od,kV,doc,pm,an,cdv,ct,osl,rfl,l,c⟩,k⟩
end
section
variable {X:Cx}
theorem pv (i:Nat){x:Str}{pos:Pos}(hN:X.N[i]?=some x:=by rfl)(hv:Vis X.env.scope x:=by first | exact Or.inl rfl | exact Or.inr (Or.inl rfl) | exact Or.inr (Or.inr rfl))(hd:(x==("__debug__":Str))=false:=by decide)
   (hcd:(x==("__classdict__":Str))=false:=by decide):PE X (.Name x pos) (zQi i):=nL hN hv hd hcd
end
def Same (H H':Hp):Prop:=∀b o,H b=some o->H' b=some o
theorem Same.refl (H:Hp):Same H H:=fun _ _ h=>h
theorem Same.trans {H H1 H2:Hp}(a:Same H H1)(b:Same H1 H2):Same H H2:=fun c o h=>b c o (a c o h)
theorem Same.free {H H':Hp}(e:Same H H'){l:Addr}(h:H' l=Option.none):H l=Option.none:=by
 cases q:H l with
 | none=>rfl
 | some o =>
   rw[e l o q] at h
   cases h
theorem Same.seq {K:PySem.W.Frag}{H H':Hp}{a:Addr}{xs:List V}(e:Same H H')(h:SqL K H a xs):SqL K H' a xs:=by
 rcases h with(h | ⟨o,h⟩) | h
 · exact .inl (.inl (e _ _ h))
 · exact .inl (.inr ⟨o,e _ _ h⟩)
 · exact .inr h
end L2
namespace L2
open PySem PySem.Spec PyProof.Rows
section
variable {prog:Program} {w:World} {A:Around} {R:Result->Shared->Prop} {s:Shared}
abbrev F0:Value->Shared->Prop:=fun _ _=>False
theorem zYS {α:Type}{t:Sem α}{Q Q':α->Shared->Prop}{M:Model}{A:Around}{E:Value->Shared->Prop}{s:Shared}(h:wpAny M A t Q F0 s)(hq:∀a s,Q a s->Q' a s):wpAny M A t Q' E s:=wpAny_mono h hq fun _ _ z=>z.elim
theorem aA {elt target iter:Expr}{ifs:List Expr}{scope:Scope}{pos:Pos}{it acc:Value}{env:Env}(I:Nat->Shared->Prop)
   (turn:∀n s,I n s->wpAny (model prog w) A (pyNext it) (fun r s₁=>match r with
     | none=>R (.ok .next) s₁
     | some v=>wpAny (model prog w) A (letOwnedTupleGo target it v) (fun _ s₁=>wpAny (model prog w) A (assign target env v) (fun _ s₂ =>
         wpAny (model prog w) A (forIn ifs true fun c r=>if r=true then do let ok ←isTrue c env (eval c env);pure (ForInStep.yield ok) else pure (ForInStep.yield r)) (fun ok s₃ =>
           if ok=true then wpAny (model prog w) A (eval elt env) (fun x s₄ =>
             wpAny (model prog w) A (call (.builtin "list.append") [acc,x]) (fun _ s₅ => ∃m,m < n/\I m s₅) F0 s₄) F0 s₃
           else ∃m,m < n/\I m s₃) F0 s₂) F0 s₁) F0 s₁) F0 s)
   (n:Nat) (h:I n s) :
   codeAny (model prog w) A (.compLoop (.ListComp elt [⟨target,iter,ifs,0⟩] scope pos) 0 it acc env) R s:=by
 refine codeAny_loop rfl I (fun n s hI=>?_) n h
 show wpAny _ A ((compTurn (.ListComp elt [⟨target,iter,ifs,0⟩] scope pos) 0 it acc env).onRaise (fun x=>do noteFrame x env;theTreesLotGoes x)) _ _ s
 refine wpAny_noted ?_
 rw[compTurn_list]
 refine wpAny_bind (wpAny_standAt (wpAny_bind (zYS (turn n s hI) (fun r s₁ h₁=>?_))))
 cases r with
 | none=>exact wpAny_pure h₁
 | some v =>
   refine wpAny_bind (zYS h₁ fun _ s₁' h₁'=>?_)
   refine wpAny_bind (zYS h₁' fun _ s₂ h₂=>wpAny_bind (zYS h₂ fun ok s₃ h₃ => ?_))
   cases ok with
   | false=>exact wpAny_pure ⟨rfl,h₃⟩
   | true =>
     exact wpAny_bind (wpAny_bind (zYS h₃ fun x s₄ h₄ => wpAny_bind (zYS h₄ fun _ s₅ h₅ => wpAny_pure (wpAny_pure ⟨rfl,h₅⟩))))
end
theorem jS {env:Env}(x:Str):∀(names:List (Str×NameKind)),
   (names.map fun(n,k)=>if (k==NameKind.free&&env.scope.kind == .function&&env.kindOf n==some .cell) then(n,NameKind.cell) else(n,k)).lookup x
     = (names.lookup x).map fun k=>if (k==NameKind.free&&env.scope.kind == .function&&env.kindOf x==some .cell)=true then NameKind.cell else k
 | []=>rfl
 | (n,k)::r=>by
   have ih:=jS (env:=env) x r
   rw[List.map_cons]
   cases hx:x==n with
   | true =>
     have e:x=n:=eq_of_beq hx
     subst e
     by_cases hc:(k==NameKind.free&&env.scope.kind == .function&&env.kindOf x==some .cell)=true
     · simp only[hc,if_true,List.lookup_cons,beq_self_eq_true,Option.map_some]
     · simp only[hc,if_false,List.lookup_cons,beq_self_eq_true,Option.map_some,Bool.false_eq_true]
   | false =>
     by_cases hc:(k==NameKind.free&&env.scope.kind == .function&&env.kindOf n==some .cell)=true
     · simp only[hc,if_true,List.lookup_cons,hx];exact ih
     · simp only[hc,if_false,List.lookup_cons,hx,Bool.false_eq_true];exact ih
def jF (env:Env):List (Str×NameKind)->List (Str×Addr)->List (Str×Addr)
 | [],acc=>acc
 | (n,k)::r,acc=>jF env r (if k = .free then(match env.cells.lookup n with | some c=>(n,c)::acc | none=>acc) else acc)
theorem zVF {env:Env}{scope:Scope}(h:∀p∈scope.names,p.2 = .free->∃c,env.cells.lookup p.1=some c):closureFor scope env=pure (jF env scope.names []):=by
 have gen:∀(l:List (Str×NameKind)) (acc:List (Str×Addr)),(∀p∈l,p.2 = .free->∃c,env.cells.lookup p.1=some c) ->
     (forIn l acc fun x r=>if (x.2==NameKind.free)=true then(do let a ←cellOf env x.1;pure (ForInStep.yield ((x.1,a)::r))) else pure (ForInStep.yield r):Sem (List (Str×Addr)))=pure (jF env l acc):=by
   intro l
   induction l with
   | nil=>intro acc _;rfl
   | cons p r ih =>
     intro acc hp
     obtain⟨n,k⟩:=p
     rw[List.forIn_cons]
     have hr:∀p∈r,p.2 = .free->∃c,env.cells.lookup p.1=some c:=fun p hm=>hp p (List.mem_cons_of_mem _ hm)
     by_cases hk:k = .free
     · subst hk
       obtain⟨c,hc⟩:=hp (n,.free) List.mem_cons_self rfl
       have e:cellOf env n=pure c:=by unfold cellOf;rw[hc]
       simp only[beq_self_eq_true,if_true,e]
       show(forIn r ((n,c)::acc) _:Sem _)=_
       rw[ih _ hr]
       show _=(pure (jF env r (if NameKind.free=NameKind.free then(match env.cells.lookup n with | some c=>(n,c)::acc | none=>acc) else acc)):Sem _)
       rw[if_pos rfl,hc]
     · have hb:(k==NameKind.free)=false:=by simpa using hk
       simp only[hb,Bool.false_eq_true,if_false]
       show(forIn r acc _:Sem _)=_
       rw[ih _ hr]
       show _=(pure (jF env r (if k=NameKind.free then(match env.cells.lookup n with | some c=>(n,c)::acc | none=>acc) else acc)):Sem _)
       rw[if_neg hk]
 have q:=gen scope.names [] h
 simp only[closureFor]
 rw[q]
 rfl
theorem zZQ {env:Env}:∀(l:List (Str×NameKind)) (acc:List (Str×Addr)),(∀x c,acc.lookup x=some c->env.cells.lookup x=some c)->∀x c,(jF env l acc).lookup x=some c->env.cells.lookup x=some c
 | [],_,h=>h
 | (n,k)::r,acc,h=>by
   refine zZQ r _ ?_
   by_cases hk:k = .free
   · rw[if_pos hk]
     cases e:env.cells.lookup n with
     | none=>exact h
     | some c =>
       intro x c' hx
       rw[List.lookup_cons] at hx
       cases q:x==n with
       | true=>rw[q] at hx;cases hx;rw[eq_of_beq q];exact e
       | false=>rw[q] at hx;exact h x c' hx
   · rw[if_neg hk];exact h
theorem zWO {env:Env}:∀(l:List (Str×NameKind)) (acc:List (Str×Addr)) (x:Str),(acc.lookup x).isSome=true->((jF env l acc).lookup x).isSome=true
 | [],_,_,h=>h
 | (n,k)::r,acc,x,h=>by
   refine zWO r _ x ?_
   by_cases hk:k = .free
   · rw[if_pos hk]
     cases e:env.cells.lookup n with
     | none=>exact h
     | some c =>
       show(List.lookup x ((n,c)::acc)).isSome=true
       rw[List.lookup_cons]
       cases q:x==n with
       | true=>rfl
       | false=>exact h
   · rw[if_neg hk];exact h
theorem bB {env:Env}:∀(l:List (Str×NameKind)) (acc:List (Str×Addr)),(∀p∈l,p.2 = .free->∃c,env.cells.lookup p.1=some c)->∀x,(x,NameKind.free)∈l->((jF env l acc).lookup x).isSome=true
 | [],_,_,_,h=>nomatch h
 | (n,k)::r,acc,hp,x,h=>by
   rcases List.mem_cons.mp h with e | h
   · cases e
     obtain⟨c,hc⟩:=hp (n,.free) List.mem_cons_self rfl
     show((jF env r (if NameKind.free=NameKind.free then(match env.cells.lookup n with | some c=>(n,c)::acc | none=>acc) else acc)).lookup n).isSome=true
     rw[if_pos rfl,hc]
     exact zWO r _ n (by simp[List.lookup_cons])
   · exact bB r _ (fun p hm=>hp p (List.mem_cons_of_mem _ hm)) x h
def lW (sc scope:Scope)(N tgs frees:List Str)(js:List Nat):Bool :=
 scope.kind == .function&&scope.names.all (fun p=>p.2 != .cell&&(p.2 != .free||sc.names.lookup p.1==some .cell||sc.names.lookup p.1==some .free)&&(p.2 != .local||scope.names.lookup p.1==some .local))
   && tgs.all (fun x=>scope.names.lookup x==some .local)&&frees.all (fun x=>scope.names.lookup x==some .free)&&(js.map fun j=>N[j]?)==frees.map some
def upC (m:Nat)(js:List Nat)(σ:St):St:=List.replicate m none++js.map fun j=>(σ[j]?).join
def vW (X:Cx)(Nc:List Str)(scope:Scope)(C:Addr)(s₀:Shared)(H₀:Hp)(fp:List Addr):Cx where
 prog:=X.prog
 w:=X.w
 K:=X.K
 mg:=X.mg
 base:=X.base
 A:=X.A
 N:=Nc
 s₀:=s₀
 H₀:=H₀
 env:=compEnvC scope (jF X.env scope.names []) C X.env
 outer:=X.stack
 stack:=X.stack
 ex:=fp
 fn:=fun _=>false
 calm:=X.calm
 pn:=[]
 xe:=F0
def zV9 (X:Cx)(ifs:List Expr)(t:TT):Prop :=
 ∀(pins:List (Addr×Obj)) (s:Shared) (σ:St) (H:Hp) (Q:Bool->Hp->Prop),Inv X pins σ H s->t σ H Q ->
   wpAny (model X.prog X.w) X.A (forIn ifs true fun c r=>if r=true then do let ok ←isTrue c X.env (eval c X.env);pure (ForInStep.yield ok) else pure (ForInStep.yield r)) (TP X pins σ Q) X.xe s
def zNx:TT:=fun _ H Q=>Q true H
theorem zTb {X:Cx}:zV9 X [] zNx:=fun _ _ _ H _ I h=>wpAny_tests_nil ⟨H,I,h⟩
theorem zST {X:Cx}{c:Expr}{t:TT}(h:PT X c t):zV9 X [c] t:=fun pins s σ H Q I hq=>wpAny_tests_one (h pins s σ H Q I hq)
def zOq (J:It)(m:Nat)(js:List Nat)(g:TG)(tc:TT)(te:TE)(σ:St)(H1:Hp)(Q:VK):Prop:=∀D,H1 D=none ->
 ∃W:Nat->Nat->St->Hp->Prop,(∃k,W 0 k (upC m js σ) (upd H1 D (.lst [])))/\∀i k σ' H',W i k σ' H' ->
   (J.stop i H'/\Q (.ref D) H')∨(J.go i H'/\∀x H2,J.yld i H' x H2->g x σ' H2 fun σ2 H3=>tc σ2 H3 fun b H4=>if b=true then te σ2 H4 fun y H5=>∃ys k',H5 D=some (.lst ys)/\ys.length < sizeLine/\k' < k/\W (i+1) k' σ2 (upd H5 D (.lst (ys++[y])))
     else ∃k',k' < k/\W (i+1) k' σ2 H4)
section
variable {X:Cx} {pins:List (Addr×Obj)} {σ:St} {H2:Hp} {s2:Shared} {tg elt iter:Expr} {ifs:List Expr} {scope sc:Scope} {pos:Pos} {tgs frees:List Str} {js:List Nat} {g:TG} {te:TE} {tc:TT}
theorem sR {N:List Str}(h:lW sc scope N tgs frees js=true):scope.kind = .function/\(∀p∈scope.names,p.2 ≠ .cell)/\(∀p∈scope.names,p.2 = .free->sc.names.lookup p.1=some .cell∨sc.names.lookup p.1=some .free) /\
   (∀p∈scope.names,p.2 = .local->scope.names.lookup p.1=some .local)/\(∀x∈tgs,scope.names.lookup x=some .local)/\(∀x∈frees,scope.names.lookup x=some .free)/\(js.map fun j=>N[j]?)=frees.map some:=by
 unfold lW at h
 simp only[Bool.and_eq_true,List.all_eq_true,bne_iff_ne,ne_eq,Bool.or_eq_true,beq_iff_eq] at h
 obtain⟨⟨⟨⟨h1,h2⟩,h3⟩,h4⟩,h5⟩:=h
 refine⟨h1,fun p hp=>(h2 p hp).1.1,fun p hp e=>?_,fun p hp e=>?_,h3,h4,h5⟩
 · rcases(h2 p hp).1.2 with(q | q) | q
   · exact absurd e q
   · exact .inl q
   · exact .inr q
 · rcases(h2 p hp).2 with q | q
   · exact absurd e q
   · exact q
theorem zVo {C:Addr}{s3:Shared}{H3:Hp}{h4:Heap}{tk:Nat}{fp:List Addr}{m0:Str->Option Value}(I:Inv X pins σ H3 s3)(f3:∀b∈fp,mN X pins H3 b)(ofp:∀b∈fp,b < s3.heap.objs.size)
   (hsc:X.env.scope=sc) (hok:lW sc scope X.N tgs frees js=true) (hC:C=s3.heap.objs.size) (hk:∀b o,s3.heap.get? b=some o->h4.get? b=some o) (hn:h4.Ns C m0) :
   Inv (vW X (tgs++frees) scope C s3 H3 fp) [] (upC tgs.length js σ) H3 { s3 with heap:=h4,toks:=tk }:=by
 obtain⟨k1,k2,k3,k4,k5,k6,k7⟩:=sR hok
 have hcl:∀x c,(jF X.env scope.names []).lookup x=some c->X.env.cells.lookup x=some c:=zZQ scope.names [] (fun _ _ z=>nomatch z)
 have hfr:∀p∈scope.names,p.2 = .free->∃c,X.env.cells.lookup p.1=some c:=fun p hp e=>I.ok.has p.1 (by
   show X.env.scope.names.lookup p.1=_∨X.env.scope.names.lookup p.1=_
   rw[hsc];exact k3 p hp e)
 have rl:∀x,(relabel scope X.env).names.lookup x=(scope.names.lookup x).map fun k=>if (k==NameKind.free&&X.env.scope.kind == .function&&X.env.kindOf x==some .cell)=true then NameKind.cell else k:=fun x=>jS x scope.names
 have hasc:∀x,((relabel scope X.env).names.lookup x=some .cell∨(relabel scope X.env).names.lookup x=some .free)->∃c,(jF X.env scope.names []).lookup x=some c:=fun x hx=>by
   rw[rl x] at hx
   cases e:scope.names.lookup x with
   | none=>rw[e] at hx;simp at hx
   | some k =>
     have hm:=PySem.mem_of_lookup e
     have hkf:k = .free:=by
       rw[e] at hx
       simp only[Option.map_some,Option.some.injEq] at hx
       by_cases q:k = .free
       · exact q
       · have hb:(k==NameKind.free)=false:=by simpa using q
         rw[hb] at hx
         simp only[Bool.false_and,Bool.false_eq_true,if_false] at hx
         rcases hx with z | z
         · exact absurd z (k2 _ hm)
         · exact z
     subst hkf
     exact Option.isSome_iff_exists.mp (bB scope.names [] hfr x hm)
 have cfr:∀x c,X.env.cells.lookup x=some c->c≠C:=fun x c e z=>by
   obtain⟨v,q⟩:=I.cell x c e
   exact absurd (z ▸ q.lt) (by rw[hC];exact Nat.lt_irrefl _)
 have base0:∀b o,X.base.get? b=some o->b∉fp:=fun b o e hb=>by
   obtain⟨_,_,_,q,_⟩:=f3 b hb
   rcases q with q | q
   · exact I.ok.noex b o e q
   · exact absurd (Nat.lt_of_lt_of_le (Heap.lt_size (I.ok.bs b o e).1) q) (Nat.lt_irrefl _)
 have stk:∀b∈fp,b∉frs X.stack:=fun b hb z=>by
   obtain⟨_,q1,q2,_⟩:=f3 b hb
   rcases List.mem_cons.mp (I.stkSub b z) with e | e
   · exact q1 e
   · exact q2 e
 refine⟨⟨I.ok.mod,k1,I.ok.glob,I.ok.blt,by rw[hC];exact Nat.le_refl _,fun x y c e1 e2=>I.ok.inj x y c (hcl x c e1) (hcl y c e2),hasc,(fun x c z _=>nomatch z),I.ok.hd,I.ok.frames,.inl rfl,
     fun b hb=>⟨fun z=>absurd (ofp b hb) (by rw[show b=C from z,hC];exact Nat.lt_irrefl _),fun x c e=>(f3 b hb).2.2.2.2.1 x c (hcl x c e)⟩,
     fun b o e=>I.bs b o e,Nat.le_trans I.ok.bsz I.sz,base0,stk,I.stack,I.stkFree⟩,
   rfl,I.bare,Un.kept hk,⟨m0,hn,fun i x v e1 e2 e3=>?_⟩,fun x c e=>?_,I.hok.fresh (by rw[show(vW X (tgs++frees) scope C s3 H3 fp).env.locals=C from rfl,hC];exact Nat.le_refl _),fun x c e=>I.freeC x c (hcl x c e),
   fun p hp=>absurd (show p∈([]:List (Addr×Obj)) from hp) (by simp),I.hok.kept hk,?_⟩
 · -- a name's value
   have hi:tgs.length<=i:=by
     refine Nat.le_of_not_lt fun hlt=>?_
     have e2:(upC tgs.length js σ)[i]?=some (some v):=e2
     unfold upC at e2
     rw[List.getElem?_append_left (by simpa using hlt),List.getElem?_replicate] at e2
     split at e2<;>cases e2
   have e2:(upC tgs.length js σ)[i]?=some (some v):=e2
   unfold upC at e2
   rw[List.getElem?_append_right (by simpa using hi),List.length_replicate,List.getElem?_map] at e2
   have e1:(tgs++frees)[i]?=some x:=e1
   rw[List.getElem?_append_right hi] at e1
   obtain⟨j,ej,e2⟩:=Option.map_eq_some_iff.mp e2
   have hj:X.N[j]?=some x:=by
     have q:=congrArg (fun l=>l[i - tgs.length]?) k7
     simp only[List.getElem?_map,ej,e1,Option.map_some] at q
     exact Option.some.inj q
   have hσ:σ[j]?=some (some v):=by
     cases q:σ[j]? with
     | none=>rw[q] at e2;cases e2
     | some o=>rw[q] at e2;exact congrArg some e2
   have hf:scope.names.lookup x=some .free:=k6 x (List.mem_of_getElem? e1)
   have hX:X.env.kindOf x=some .cell∨X.env.kindOf x=some .free:=by
     show X.env.scope.names.lookup x=_∨X.env.scope.names.lookup x=_
     rw[hsc];exact k3 _ (PySem.mem_of_lookup hf) rfl
   obtain⟨m,_,hl⟩:=I.loc
   obtain⟨u,r,l⟩:=hl j x v hj hσ (by
     rcases hX with q | q
     · exact .inr (.inl q)
     · exact .inr (.inr q))
   refine⟨u,r,.inr ⟨?_,?_⟩⟩
   · show(relabel scope X.env).names.lookup x=_∨(relabel scope X.env).names.lookup x=_
     rw[rl x,hf]
     by_cases q:(NameKind.free==NameKind.free&&X.env.scope.kind == .function&&X.env.kindOf x==some .cell)=true
     · exact .inl (by rw[Option.map_some,if_pos q])
     · exact .inr (by rw[Option.map_some,if_neg q])
   · rcases l with⟨q,_⟩ | ⟨_,c,ec,hcell⟩
     · rcases hX with z | z<;>(rw[z] at q;cases q)
     · obtain⟨c',ec'⟩:=Option.isSome_iff_exists.mp (bB scope.names [] hfr x (PySem.mem_of_lookup hf))
       have e:c'=c:=Option.some.inj ((hcl x c' ec').symm.trans ec)
       subst e
       obtain⟨o,ho,hd⟩:=hcell
       exact⟨c',ec',o,hk _ _ ho,hd⟩
 · obtain⟨v,o,ho,hd⟩:=I.cell x c (hcl x c e)
   exact⟨v,o,hk _ _ ho,hd⟩
 · show(upC tgs.length js σ).length=(tgs++frees).length
   have q:=congrArg List.length k7
   rw[List.length_map,List.length_map] at q
   unfold upC
   rw[List.length_append,List.length_replicate,List.length_map,List.length_append,q]
theorem zZJ {J:It}{fp:List Addr}{it:Addr}{tn:Nat->Heap->Prop}{RR:Value->Addr->Result->Shared->Prop}{E:Value->Shared->Prop}{Q:VK}
   (I2:Inv X pins σ H2 s2) (T:Turn X.prog X.w X.K tg J fp it tn) (st2:tn 0 s2.heap) (f2:∀b∈fp,mN X pins H2 b) (hc:X.calm=true)
   (hsc:X.env.scope=sc) (hok:lW sc scope X.N tgs frees js=true)
   (hg:∀C s₀ H₀ fp,PG (vW X (tgs++frees) scope C s₀ H₀ fp) tg g) (hi:∀C s₀ H₀ fp,zV9 (vW X (tgs++frees) scope C s₀ H₀ fp) ifs tc) (he:∀C s₀ H₀ fp,PE (vW X (tgs++frees) scope C s₀ H₀ fp) elt te)
   (hw:zOq J tgs.length js g tc te σ H2 Q)
   (hRR:∀D C s' H' m,Inv X pins σ H' s'->Q (.ref D) H'->mN X pins H' C->s'.heap.Ns C m->RR (.ref D) C (.ok .next) s') :
   wpAny (model X.prog X.w) X.A (newList []) (fun acc s₃ => wpAny (model X.prog X.w) X.A (newFunctionEnv scope X.env.globals (jF X.env scope.names []) [] X.env.qual none .none (some X.env)) (fun cenv s₄ =>
     codeAny (model X.prog X.w) X.A (.compStart (.ListComp elt [⟨tg,iter,ifs,0⟩] scope pos) 0 (.ref it) acc { cenv with scope:=relabel scope X.env }) (RR acc cenv.locals) s₄) E s₃) E s2:=by
 obtain⟨k1,k2,k3,k4,k5,k6,k7⟩:=sR hok
 refine wpAny_newObj_type (wpAny_newFunctionEnv k2 (by intro y hy;simp at hy) (fun h4 hn4 hs4=>?_) k1)
 dsimp only at hn4 hs4 ⊢
 generalize hh3:s2.heap.push { cls:=.type "list",dict:=none,data:=.seq ([]:List Value).toArray }=h3 at hn4 hs4 ⊢
 generalize hD:s2.heap.objs.size=D
 have hDn:H2 D=none:=by rw[←hD];exact I2.fresh
 have hsz3:h3.objs.size=D+1:=by rw[←hh3,Heap.size_push,hD]
 have keep23:∀b o,s2.heap.get? b=some o->h3.get? b=some o:=fun b o e=>by rw[←hh3];exact Heap.get?_push_of_some _ e
 have keep34:∀b o,h3.get? b=some o->h4.get? b=some o:=fun b o e=>hs4.extBut b o (Nat.ne_of_lt (Heap.lt_size e)) (Heap.get?_push_of_some _ e)
 have I3:Inv X pins σ (upd H2 D (.lst [])) { s2 with heap:=h3 }:=by
   have q:=I2.lnew (its:=[]) (ys:=[]) (t':=s2.toks) .nil (Nat.zero_le _)
   rw[hD] at q
   rw[←hh3]
   exact q
 have nfp:∀b∈fp,b≠D:=fun b hb z=>by
   obtain⟨o,e,_⟩:=T.obj 0 _ st2 b hb
   exact absurd (Heap.lt_size e) (by rw[z,hD];exact Nat.lt_irrefl _)
 have f3:∀b∈fp,mN X pins (upd H2 D (.lst [])) b:=fun b hb=>by
   obtain⟨q0,q⟩:=f2 b hb
   exact⟨by rw[yP (nfp b hb)];exact q0,q⟩
 have ofp:∀b∈fp,b < h3.objs.size:=fun b hb=>by
   obtain⟨o,e,_⟩:=T.obj 0 _ st2 b hb
   exact Heap.lt_size (keep23 b o e)
 obtain⟨W,⟨n0,w0⟩,turn⟩:=hw D hDn
 have loop:∀s4:Shared,s4={ s2 with heap:=h4,toks:=s2.toks+([]:List (Str×Value)).length } ->
     codeAny (model X.prog X.w) X.A (.compLoop (.ListComp elt [⟨tg,iter,ifs,0⟩] scope pos) 0 (.ref it) (.ref D) (compEnvC scope (jF X.env scope.names []) h3.objs.size X.env)) (RR (.ref D) h3.objs.size) s4:=by
   rintro s4 rfl
   generalize hX':vW X (tgs++frees) scope h3.objs.size { s2 with heap:=h3 } (upd H2 D (.lst [])) fp=X'
   have I4:Inv X' [] (upC tgs.length js σ) (upd H2 D (.lst [])) { s2 with heap:=h4,toks:=s2.toks+([]:List (Str×Value)).length }:=by
     rw[←hX']
     exact zVo (s3:={ s2 with heap:=h3 }) I3 f3 ofp hsc hok rfl keep34 hn4
   have eP:X'.prog=X.prog:=by rw[←hX'];rfl
   have eW:X'.w=X.w:=by rw[←hX'];rfl
   have eK:X'.K=X.K:=by rw[←hX'];rfl
   have eA:X'.A=X.A:=by rw[←hX'];rfl
   have eC:X'.calm=true:=by rw[←hX'];exact hc
   have T':Turn X'.prog X'.w X'.K tg J fp it tn:=by rw[eP,eW,eK];exact T
   have eE:X'.env=compEnvC scope (jF X.env scope.names []) h3.objs.size X.env:=by rw[←hX'];rfl
   have eX:X'.xe=F0:=by rw[←hX'];rfl
   have stat:∀ {H':Hp},(∀b∈fp,H' b=none)->∀b∈fp,mN X' [] H' b:=fun {H'} hn b hb=>by
     obtain⟨_,q1,q2,q3,q4,q5⟩:=f3 b hb
     rw[←hX']
     refine⟨hn b hb,?_,?_,.inl hb,fun x c e=>?_,fun p hp=>absurd (show p∈([]:List (Addr×Obj)) from hp) (by simp)⟩
     · exact fun z=>absurd (ofp b hb) (by rw[show b=h3.objs.size from z];exact Nat.lt_irrefl _)
     · intro z
       rcases List.mem_cons.mp (I3.stkSub b z) with e | e
       · exact q1 e
       · exact q2 e
     · exact q4 x c (zZQ scope.names [] (fun _ _ z=>nomatch z) x c e)
   have hgX:PG X' tg g:=by rw[←hX'];exact hg _ _ _ _
   have hiX:zV9 X' ifs tc:=by rw[←hX'];exact hi _ _ _ _
   have heX:PE X' elt te:=by rw[←hX'];exact he _ _ _ _
   refine aA (fun n s'=>∃i σ' H',Inv X' [] σ' H' s'/\tn i s'.heap/\(∀b∈fp,H' b=none)/\W i n σ' H') ?_ n0 ⟨0,_,_,I4,T.keep 0 _ _ st2 (fun b _ o e=>keep34 b o (keep23 b o e)),fun b hb=>(f3 b hb).1,w0⟩
   rintro n s5 ⟨i,σ5,H5,I5,st5,fr5,w5⟩
   rw[←eP,←eW,←eE,←eA]
   rcases turn i n σ5 H5 w5 with⟨stop,qn⟩ | ⟨go,step⟩
   · refine thn (T'.done X' rfl rfl rfl eC i [] s5 σ5 H5 F0 I5 (stat fr5) st5 stop) fun r s6 ⟨hr,I6⟩=>?_
     subst hr
     have un:Un (frs X.stack) fp H2 H5 s2.heap s6.heap:=by
       have u1:Un (frs X.stack) fp H2 (upd H2 D (.lst [])) s2.heap h3:=Un.laid keep23 (Nat.le_of_eq hD) hDn
       have u2:=I6.base
       rw[←hX'] at u2
       exact u1.trans u2
     have hpx:HOk X.prog X.w H5 s6.heap:=by have q:=I6.hok;rw[eP,eW] at q;exact q
     have hos:s6.os=s2.os:=by have q:=I6.os;rw[←hX'] at q;exact q
     have IX:Inv X pins σ H5 s6:=I2.call' (ch:=fp) hos un hpx I6.bare fun b hb=>⟨(f2 b hb).2.2.2.1,(f2 b hb).2.1,(f2 b hb).2.2.2.2.1,(f2 b hb).2.2.2.2.2⟩
     obtain⟨m,hm,_⟩:=I6.loc
     have hloc:X'.env.locals=h3.objs.size:=by rw[eE];rfl
     rw[hloc] at hm
     have hle:s2.heap.objs.size<=h3.objs.size:=by rw[hD,hsz3];exact Nat.le_succ _
     refine hRR D h3.objs.size s6 H5 m IX qn (I2.fpOk hle ?_) hm
     have q:=I6.free
     rw[hloc] at q
     exact q
   · refine thn (T'.item X' rfl rfl rfl eC i [] s5 σ5 H5 F0 I5 (stat fr5) st5 go) fun r s6 ⟨u,hr,h6⟩=>?_
     subst hr
     refine thn h6 fun _ s7 ⟨x,H7,I7,r7,y7,st7,fr7⟩=>?_
     have I7':=I7.pinned (stat fr7) (T.obj _ _ st7)
     have xe0:X'.xe=F0:=eX
     have conv:∀ {α:Type} {t:Sem α} {Q:α->Shared->Prop} {s:Shared},wpAny (model X'.prog X'.w) X'.A t Q X'.xe s->wpAny (model X'.prog X'.w) X'.A t Q F0 s:=fun h=>by rw[xe0] at h;exact h
     refine thn (conv (hgX _ s7 σ5 H7 x u _ I7' r7 (step x H7 y7))) fun _ s8 ⟨σ8,H8,I8,q8⟩=>?_
     refine thn (conv (hiX _ s8 σ8 H8 _ I8 q8)) fun ok s9 ⟨H9,I9,q9⟩=>?_
     have again:∀ {σz:St} {Hz:Hp} {sz:Shared} {k':Nat},Inv X' ([]++bJ fp s7.heap) σz Hz sz->k' < n->W (i+1) k' σz Hz->∃m,m < n/\∃i σ' H',Inv X' [] σ' H' sz/\tn i sz.heap/\(∀b∈fp,H' b=none)/\W i m σ' H':=fun {σz Hz sz k'} Iz hk wz=>by
       refine⟨k',hk,i+1,σz,Hz,Iz.unpinned,T.keep _ _ _ st7 fun b hb o e=>(Iz.pin (b,o) (List.mem_append_right _ (List.mem_append_right _ (mD hb e)))).1,fun b hb=>?_,wz⟩
       obtain⟨o,e,d⟩:=T.obj _ _ st7 b hb
       exact(Iz.pin (b,o) (List.mem_append_right _ (List.mem_append_right _ (mD hb e)))).2.1
     cases ok with
     | false =>
       rw[if_neg (by decide)] at q9
       rw[if_neg (by decide)]
       obtain⟨k',hk,wz⟩:=q9
       exact again I9 hk wz
     | true =>
       rw[if_pos rfl] at q9
       rw[if_pos rfl]
       refine thn (conv (heX _ s9 σ8 H9 _ I9 q9)) fun v s10 ⟨y,H10,I10,r10,ys,k',hys,hl,hk,wz⟩=>?_
       refine thn (conv (qB (X:=X') _ s10 σ8 H10 (.ref D) [y] (.ref D) [v] (fun z Hz=>W (i+1) k' σ8 Hz) I10 rfl (.cons r10 .nil) ⟨D,ys,y,rfl,rfl,hys,hl,wz⟩)) fun _ s11 ⟨_,H11,I11,_,q11⟩=>?_
       exact again I11 hk q11
 rw[show s2.heap.objs.size=D from hD] at *
 exact codeAny_compStart_list (loop _ rfl) (T.self _ 0 _ _ _ (T.keep 0 _ _ st2 fun b _ o e=>keep34 b o (keep23 b o e)) (loop _ rfl))
def zSa (wi:TI)(m:Nat)(js:List Nat)(g:TG)(tc:TT)(te:TE):TE:=fun σ H Q=>wi σ H fun J H1=>zOq J m js g tc te σ H1 Q
theorem zZO (ok:X.Ok)(hsc:X.env.scope=sc)(hok:lW sc scope X.N tgs frees js=true):closureFor scope X.env=pure (jF X.env scope.names []) :=
 zVF fun p hp e=>ok.has p.1 (by
   show X.env.scope.names.lookup p.1=_∨X.env.scope.names.lookup p.1=_
   rw[hsc];exact(sR hok).2.2.1 p hp e)
theorem zQF (sc:Scope)(tgs frees:List Str)(js:List Nat){wi:TI}(hp:PI X tg iter wi)(hc:X.calm=true)(hsc:X.env.scope=sc)(hok:lW sc scope X.N tgs frees js=true)
   (hg:∀C s₀ H₀ fp,PG (vW X (tgs++frees) scope C s₀ H₀ fp) tg g) (hi:∀C s₀ H₀ fp,zV9 (vW X (tgs++frees) scope C s₀ H₀ fp) ifs tc) (he:∀C s₀ H₀ fp,PE (vW X (tgs++frees) scope C s₀ H₀ fp) elt te)
   (hs:∀x,foldedSetIterable iter X.env x=pure x:=by intro _;rfl) :
   PE X (.ListComp elt [⟨tg,iter,ifs,0⟩] scope pos) (zSa wi tgs.length js g tc te):=by
 intro pins s σ H Q I h
 obtain⟨k1,k2,k3,k4,k5,k6,k7⟩:=sR hok
 rw[eval_ListComp]
 refine wpAny_comprehension_free (use:=none) rfl hs (zZO I.ok hsc hok) k1 k4 (thn (hp pins s σ H _ I h) fun v s1 h1=>thn h1 fun itv s2 h2=>?_)
 obtain⟨it,fp,tn,J,H2,e,I2,T,st2,f2,hw⟩:=h2
 subst e
 refine zZJ (RR:=fun acc C=>compPost (model X.prog X.w) X.A X.xe none (EP X pins σ Q) acc C) I2 T st2 f2 hc hsc hok hg hi he hw ?_
 intro D C s' H' m I' q fC hn
 refine⟨m,hn,fun h' hs'=>⟨.ref D,H',?_,rfl,q⟩⟩
 obtain⟨c0,c1,c2,c3,c4,c5⟩:=fC
 exact I'.turned (t':=s'.toks) (fun b o hb e=>hs'.extBut b o hb e) c0 c1 c3 c4 c5
theorem zVd (sc:Scope)(tgs frees:List Str)(js:List Nat){wi:TI}{i:Nat}{x:Str}{pos' spos:Pos}(hN:X.N.Nodup)(hx:X.N[i]?=some x)(hl:X.env.scope.names.lookup x=some .local)
   (hp:PI X tg iter wi) (hc:X.calm=true) (hsc:X.env.scope=sc) (hok:lW sc scope X.N tgs frees js=true)
   (hg:∀C s₀ H₀ fp,PG (vW X (tgs++frees) scope C s₀ H₀ fp) tg g) (hi:∀C s₀ H₀ fp,zV9 (vW X (tgs++frees) scope C s₀ H₀ fp) ifs tc) (he:∀C s₀ H₀ fp,PE (vW X (tgs++frees) scope C s₀ H₀ fp) elt te)
   (hsw:swapsWith (.ListComp elt [⟨tg,iter,ifs,0⟩] scope pos) (some (.Name x pos')) spos.line X.env=pure true:=by with_unfolding_all rfl) (hs:∀x,foldedSetIterable iter X.env x=pure x:=by intro _;rfl) :
   PS X (.Assign [.Name x pos'] (.ListComp elt [⟨tg,iter,ifs,0⟩] scope pos) spos) (zTP (zSa wi tgs.length js g tc te) (zWR i)):=by
 intro pins s σ H D I h
 obtain⟨k1,k2,k3,k4,k5,k6,k7⟩:=sR hok
 rw[exec_Assign_Name_used _ _ _ _ hsw]
 refine wpAny_bind (wpAny_standAt (wpAny_bind ?_))
 show wpAny _ X.A (do let _ ←comprehension (.ListComp elt [⟨tg,iter,ifs,0⟩] scope pos) scope X.env _ (newList []) false (eval iter X.env) (some (assign (.Name x pos') X.env))) _ _ s
 refine wpAny_bind (wpAny_mono (wpAny_comprehension_free (use:=some (assign (.Name x pos') X.env)) (Q:=fun _ s'=>SP X pins D .next s') rfl hs (zZO I.ok hsc hok) k1 k4
   (thn (hp pins s σ H _ I h) fun v s1 h1=>thn h1 fun itv s2 h2=>?_)) (fun _ s' hq=>wpAny_pure (wpAny_pure hq)) fun _ _ e=>e)
 obtain⟨it,fp,tn,J,H2,e,I2,T,st2,f2,hw⟩:=h2
 subst e
 refine zZJ (RR:=fun acc C=>compPost (model X.prog X.w) X.A X.xe (some (assign (.Name x pos') X.env)) (fun _ s'=>SP X pins D .next s') acc C) I2 T st2 f2 hc hsc hok hg hi he hw ?_
 intro D' C s' H' m I' q fC hn
 obtain⟨c0,c1,c2,c3,c4,c5⟩:=fC
 show wpAny _ X.A (assign (.Name x pos') X.env (.ref D')) _ _ _
 refine wpAny_assign_Name (zYQ (v:=V.ref D') I' hN hx (.inl hl) rfl (fun s3 I3 hb=>?_) (.inr hl))
 obtain⟨a,sb,ha⟩:=hb
 have hCa:C≠a:=by
   rcases ha with z | z
   · rw[z];exact c1
   · exact(c4 x a z).symm
 refine⟨m,hn.sameBut sb hCa,fun h' hs'=>⟨_,H',I3.turned (t':=s3.toks) (fun b o hb e=>hs'.extBut b o hb e) c0 c1 c3 c4 c5,q⟩⟩
end
end L2
namespace L2
open PySem PySem.Spec PyProof.Rows
inductive KT where
 | int (i:Int) | tup (l:List KT)
instance:DecidableEq KT:=fun _ _=>Classical.propDecidable _
def zPO:KT->Int
 | .int i=>hashInt i
 | .tup _=>0
def hK:Nat->KT->Int
 | n+1,.tup ks=>reduceHash (Builtin.Tuple.tupleHashOf (ks.map (hK n)))
 | _,k=>zPO k
def cU:List KT->List Addr->List Value->List DictEntry
 | k::ks,a::as,u::us=>⟨hK 8 k,.ref a,u⟩::cU ks as us
 | _,_,_=>[]
def mR (a:Addr)(ks:List KT)(as:List Addr)(vs:List V):Heap->Prop:=fun h =>
 ∃us,Vals vs us/\∃o es ep,h.get? a=some o/\o.ExactDict/\o.data = .dict es ep/\es.toList=cU ks as us
end L2
namespace L2
open PySem PySem.Spec PyProof.Rows
inductive D where
 | non | bl (b:Bool) | int (i:Int) | str (x:Str) | tup (ds:List D) | lst (ds:List D) | obj (c:Str) (ns:List Str) (ds:List D)
 /-- an exception of an own class -/
 | exc (c:Str) (ns:List Str) (ds:List D)
 deriving Inhabited
theorem Same.tup {K:PySem.W.Frag}{H H':Hp}{a:Addr}{xs:List V}(e:Same H H')(h:SqT K H a xs):SqT K H' a xs:=by
 rcases h with(h | ⟨o,h⟩) | h
 · exact .inl (.inl (e _ _ h))
 · exact .inl (.inr ⟨o,e _ _ h⟩)
 · exact .inr h
def ClsAt (K:PySem.W.Frag)(c:Str)(C:Addr):Prop:=PySem.W.nsIn K mainGlobals c=some (some (.ref C))
theorem ClsAt.one {K:PySem.W.Frag}{c:Str}{C C':Addr}(h:ClsAt K c C)(h':ClsAt K c C'):C'=C:=by
 have:=h.symm.trans h'
 cases this;rfl
def Xe (C a:Addr)(od:Option Addr):Heap->Prop:=fun h=>∃fs,h.get? a=some { cls:=.ref C,dict:=od,data:=.fields fs }
def Xd (dx:Addr)(fs:List (Str×V)):Heap->Prop:=fun h=>∃mA,h.Ns1 dx mA/\∀f,RelO (fs.lookup f) (mA f)
def XD (G:Hp):Option Addr->List (Str×V)->Prop
 | none,fs=>fs=[]
 | some dx,fs=>G dx=some (.ext (Xd dx fs))
theorem XD.mono {G G':Hp}(e:Same G G'):∀ {od:Option Addr} {fs:List (Str×V)},XD G od fs->XD G' od fs
 | none,_,h=>h
 | some _,_,h=>e _ _ h
mutual
def Rep (K:PySem.W.Frag)(G:Hp):D->V->Prop
 | .non,v=>v = .non
 | .bl b,v=>v = .bl b
 | .int i,v=>v = .int i
 | .str x,v=>v = .str x
 | .tup ds,v=>∃a vs,v = .ref a/\SqT K G a vs/\Reps K G ds vs
 | .lst ds,v=>∃a vs,v = .ref a/\SqL K G a vs/\Reps K G ds vs
 | .obj c ns ds,v=>∃C a dx vs,ClsAt K c C/\v = .ref a/\G a=some (.ins C dx (ns.zip vs))/\ns.length=ds.length/\Reps K G ds vs
 | .exc c ns ds,v=>∃C a od vs,ClsAt K c C/\v = .ref a/\G a=some (.ext (Xe C a od))/\XD G od (ns.zip vs)/\ns.length=ds.length/\Reps K G ds vs
def Reps (K:PySem.W.Frag)(G:Hp):List D->List V->Prop
 | [],vs=>vs=[]
 | d::r,vs=>∃v vr,vs=v::vr/\Rep K G d v/\Reps K G r vr
end
section
variable {K:PySem.W.Frag} {G G':Hp}
mutual
theorem Rep.mono (e:Same G G'):∀(d:D) (v:V),Rep K G d v->Rep K G' d v
 | .non,_,h=>by unfold Rep at h ⊢;exact h
 | .bl _,_,h=>by unfold Rep at h ⊢;exact h
 | .int _,_,h=>by unfold Rep at h ⊢;exact h
 | .str _,_,h=>by unfold Rep at h ⊢;exact h
 | .tup ds,_,h=>by
   unfold Rep at h ⊢
   obtain⟨a,vs,h1,h2,h3⟩:=h
   exact⟨a,vs,h1,e.tup h2,Reps.mono e ds vs h3⟩
 | .lst ds,_,h=>by
   unfold Rep at h ⊢
   obtain⟨a,vs,h1,h2,h3⟩:=h
   exact⟨a,vs,h1,e.seq h2,Reps.mono e ds vs h3⟩
 | .obj C ns ds,_,h=>by
   unfold Rep at h ⊢
   obtain⟨C,a,dx,vs,h0,h1,h2,h4,h3⟩:=h
   exact⟨C,a,dx,vs,h0,h1,e _ _ h2,h4,Reps.mono e ds vs h3⟩
 | .exc C ns ds,_,h=>by
   unfold Rep at h ⊢
   obtain⟨C,a,od,vs,h0,h1,h2,h5,h4,h3⟩:=h
   exact⟨C,a,od,vs,h0,h1,e _ _ h2,h5.mono e,h4,Reps.mono e ds vs h3⟩
theorem Reps.mono (e:Same G G'):∀(ds:List D) (vs:List V),Reps K G ds vs->Reps K G' ds vs
 | [],_,h=>by unfold Reps at h ⊢;exact h
 | d::r,_,h=>by
   unfold Reps at h ⊢
   obtain⟨v,vr,h1,h2,h3⟩:=h
   exact⟨v,vr,h1,Rep.mono e d v h2,Reps.mono e r vr h3⟩
end
theorem rep_non {v:V}:Rep K G .non v↔v = .non:=by unfold Rep;exact Iff.rfl
theorem rep_bl {b:Bool}{v:V}:Rep K G (.bl b) v↔v = .bl b:=by unfold Rep;exact Iff.rfl
theorem rep_int {i:Int}{v:V}:Rep K G (.int i) v↔v = .int i:=by unfold Rep;exact Iff.rfl
theorem rep_str {x:Str}{v:V}:Rep K G (.str x) v↔v = .str x:=by unfold Rep;exact Iff.rfl
theorem rep_tup {ds:List D}{v:V}:Rep K G (.tup ds) v↔∃a vs,v = .ref a/\SqT K G a vs/\Reps K G ds vs:=by
 constructor<;>(intro h;unfold Rep at *;exact h)
theorem rep_lst {ds:List D}{v:V}:Rep K G (.lst ds) v↔∃a vs,v = .ref a/\SqL K G a vs/\Reps K G ds vs:=by
 constructor<;>(intro h;unfold Rep at *;exact h)
theorem rep_obj {c:Str}{ns:List Str}{ds:List D}{v:V}:Rep K G (.obj c ns ds) v↔∃C a dx vs,ClsAt K c C/\v = .ref a/\G a=some (.ins C dx (ns.zip vs))/\ns.length=ds.length/\Reps K G ds vs:=by
 constructor<;>(intro h;unfold Rep at *;exact h)
theorem rep_exc {c:Str}{ns:List Str}{ds:List D}{v:V}:Rep K G (.exc c ns ds) v↔∃C a od vs,ClsAt K c C/\v = .ref a/\G a=some (.ext (Xe C a od))/\XD G od (ns.zip vs)/\ns.length=ds.length/\Reps K G ds vs:=by
 constructor<;>(intro h;unfold Rep at *;exact h)
theorem reps_nil {vs:List V}:Reps K G [] vs↔vs=[]:=by unfold Reps;exact Iff.rfl
theorem reps_cons {d:D}{r:List D}{vs:List V}:Reps K G (d::r) vs↔∃v vr,vs=v::vr/\Rep K G d v/\Reps K G r vr:=by
 rw[Reps]
theorem Reps.length:∀ {ds:List D} {vs:List V},Reps K G ds vs->ds.length=vs.length
 | [],_,h=>by rw[reps_nil] at h;rw[h];rfl
 | d::r,_,h=>by
   rw[reps_cons] at h
   obtain⟨v,vr,rfl,_,h3⟩:=h
   rw[List.length_cons,List.length_cons,Reps.length h3]
theorem Reps.get:∀ {ds:List D} {vs:List V} {i:Nat} {d:D},Reps K G ds vs->ds[i]?=some d->∃v,vs[i]?=some v/\Rep K G d v
 | [],_,_,_,_,e=>by simp at e
 | d::r,_,0,_,h,e=>by
   rw[reps_cons] at h
   obtain⟨v,vr,rfl,h2,h3⟩:=h
   simp at e;subst e
   exact⟨v,rfl,h2⟩
 | d::r,_,i+1,_,h,e=>by
   rw[reps_cons] at h
   obtain⟨v,vr,rfl,h2,h3⟩:=h
   obtain⟨u,e1,e2⟩:=Reps.get h3 (by simpa using e)
   exact⟨u,by simpa using e1,e2⟩
theorem Reps.snoc:∀ {ds:List D} {vs:List V} {d:D} {v:V},Reps K G ds vs->Rep K G d v->Reps K G (ds++[d]) (vs++[v])
 | [],_,d,v,h,r=>by
   rw[reps_nil] at h;subst h
   exact reps_cons.mpr ⟨v,[],rfl,r,reps_nil.mpr rfl⟩
 | e::t,_,d,v,h,r=>by
   rw[reps_cons] at h
   obtain⟨u,vr,rfl,h2,h3⟩:=h
   exact reps_cons.mpr ⟨u,vr++[v],rfl,h2,h3.snoc r⟩
theorem Reps.append:∀ {ds es:List D} {vs us:List V},Reps K G ds vs->Reps K G es us->Reps K G (ds++es) (vs++us)
 | [],_,_,_,h,r=>by rw[reps_nil] at h;subst h;exact r
 | e::t,_,_,us,h,r=>by
   rw[reps_cons] at h
   obtain⟨u,vr,rfl,h2,h3⟩:=h
   exact reps_cons.mpr ⟨u,vr++us,rfl,h2,h3.append r⟩
theorem Reps.take:∀ {ds:List D} {vs:List V} (n:Nat),Reps K G ds vs->Reps K G (ds.take n) (vs.take n)
 | _,_,0,_=>by rw[List.take_zero,List.take_zero];exact reps_nil.mpr rfl
 | [],_,_+1,h=>by rw[reps_nil] at h;subst h;exact reps_nil.mpr rfl
 | e::t,_,n+1,h=>by
   rw[reps_cons] at h
   obtain⟨u,vr,rfl,h2,h3⟩:=h
   exact reps_cons.mpr ⟨u,vr.take n,rfl,h2,h3.take n⟩
theorem Reps.drop:∀ {ds:List D} {vs:List V} (n:Nat),Reps K G ds vs->Reps K G (ds.drop n) (vs.drop n)
 | _,_,0,h=>h
 | [],_,_+1,h=>by rw[reps_nil] at h;subst h;exact reps_nil.mpr rfl
 | e::t,_,n+1,h=>by
   rw[reps_cons] at h
   obtain⟨u,vr,rfl,h2,h3⟩:=h
   exact h3.drop n
theorem Reps.set:∀ {ds:List D} {vs:List V} {d:D} {v:V} (i:Nat),Reps K G ds vs->Rep K G d v->Reps K G (ds.set i d) (vs.set i v)
 | [],_,_,_,_,h,_=>by rw[reps_nil] at h;subst h;exact reps_nil.mpr rfl
 | e::t,_,d,v,0,h,r=>by
   rw[reps_cons] at h
   obtain⟨u,vr,rfl,h2,h3⟩:=h
   exact reps_cons.mpr ⟨v,vr,rfl,r,h3⟩
 | e::t,_,d,v,i+1,h,r=>by
   rw[reps_cons] at h
   obtain⟨u,vr,rfl,h2,h3⟩:=h
   exact reps_cons.mpr ⟨u,vr.set i v,rfl,h2,h3.set i r⟩
theorem Reps.erase:∀ {ds:List D} {vs:List V} (i:Nat),Reps K G ds vs->Reps K G (ds.eraseIdx i) (vs.eraseIdx i)
 | [],_,_,h=>by rw[reps_nil] at h;subst h;exact reps_nil.mpr rfl
 | e::t,_,0,h=>by
   rw[reps_cons] at h
   obtain⟨u,vr,rfl,h2,h3⟩:=h
   exact h3
 | e::t,_,i+1,h=>by
   rw[reps_cons] at h
   obtain⟨u,vr,rfl,h2,h3⟩:=h
   exact reps_cons.mpr ⟨u,vr.eraseIdx i,rfl,h2,h3.erase i⟩
end
structure Step (G H G' H':Hp):Prop where
 hh:Same H H'
 gg:Same G G'
 sub:Same G' H'
 new:∀a,H a≠none->G' a=G a
theorem Step.refl {G H:Hp}(h:Same G H):Step G H G H:=⟨Same.refl _,Same.refl _,h,fun _ _=>rfl⟩
theorem Step.trans {G H G1 H1 G2 H2:Hp}(a:Step G H G1 H1)(b:Step G1 H1 G2 H2):Step G H G2 H2 :=
 ⟨a.hh.trans b.hh,a.gg.trans b.gg,b.sub,fun c hc=>(b.new c (fun z=>hc (a.hh.free z))).trans (a.new c hc)⟩
theorem Same.new {H:Hp}{p:Addr}{o:HO}(hp:H p=none):Same H (upd H p o):=fun b u e=>by rw[yP (yE e hp)];exact e
theorem Step.laid {G H:Hp}{p:Addr}{o:HO}(s:Same G H)(hp:H p=none):Step G H (upd G p o) (upd H p o):=by
 refine⟨Same.new hp,Same.new (s.free hp),fun b u e=>?_,fun a ha=>?_⟩
 · by_cases hb:b=p
   · subst hb;rw[z0] at e ⊢;exact e
   · rw[yP hb] at e ⊢;exact s b u e
 · exact yP (fun z:a=p=>ha (by rw[z];exact hp))
theorem Step.own {G H:Hp}{p:Addr}{o:HO}(s:Same G H)(hp:H p=none):Step G H G (upd H p o) :=
 ⟨Same.new hp,Same.refl _,s.trans (Same.new hp),fun _ _=>rfl⟩
theorem Step.frz {G H G' H':Hp}{p:Addr}{o:HO}(s:Step G H G' H')(hp:H p=none)(h':H' p=some o)(g':G' p=none):Step G H (upd G' p o) H':=by
 refine⟨s.hh,s.gg.trans (Same.new g'),fun b u e=>?_,fun a ha=>?_⟩
 · by_cases hb:b=p
   · subst hb;rw[z0] at e;rw[h'];exact e
   · rw[yP hb] at e;exact s.sub b u e
 · rw[yP (fun z:a=p=>ha (by rw[z];exact hp))];exact s.new a ha
inductive B where
 | no | fz (d:D) | ow (ds:List D)
 /-- a dict of its own: keys and values -/
 | od (kvs:List (D×D))
 deriving Inhabited
def zVf (f:D->Option KT):List D->Option (List KT)
 | []=>some []
 | d::r=>(f d).bind fun k=>(zVf f r).map fun ks=>k::ks
def ktD:Nat->D->Option KT
 | _,.int i=>some (.int i)
 | _,.bl b=>some (.int (if b then 1 else 0))
 | n+1,.tup ds=>(zVf (ktD n) ds).map .tup
 | _,_=>none
inductive ODs (K:PySem.W.Frag)(G:Hp):List (D×D)->List KT->List Addr->List V->Prop
 | nil:ODs K G [] [] [] []
 | cons {d e:D} {k:KT} {a:Addr} {v:V} {kvs:List (D×D)} {ks:List KT} {as:List Addr} {vs:List V}:ktD 8 d=some k->Rep K G d (.ref a)->Rep K G e v->ODs K G kvs ks as vs->ODs K G ((d,e)::kvs) (k::ks) (a::as) (v::vs)
theorem ODs.mono {K:PySem.W.Frag}{G G':Hp}(h:Same G G'):∀ {kvs ks as vs},ODs K G kvs ks as vs->ODs K G' kvs ks as vs
 | _,_,_,_,.nil=>.nil
 | _,_,_,_,.cons h1 h2 h3 h4=>.cons h1 (h2.mono h) (h3.mono h) (ODs.mono h h4)
inductive RB (K:PySem.W.Frag)(H0 G H:Hp):Option V->B->Prop where
 | no {o:Option V}:RB K H0 G H o .no
 | fz {v:V} {d:D}:Rep K G d v->RB K H0 G H (some v) (.fz d)
 | ow {a:Addr} {vs:List V} {ds:List D}:H a=some (.lst vs)->G a=none->H0 a=none->Reps K G ds vs->RB K H0 G H (some (.ref a)) (.ow ds)
 | od {a:Addr} {kvs:List (D×D)} {ks:List KT} {as:List Addr} {vs:List V}:H a=some (.ext (mR a ks as vs))->G a=none->H0 a=none->ODs K G kvs ks as vs->ks.Nodup->(a==sysModules)=false->RB K H0 G H (some (.ref a)) (.od kvs)
structure Good (K:PySem.W.Frag)(G0 H0 G H:Hp)(σ:St)(ρ:List B):Prop where
 st:Step G0 H0 G H
 vals:Paired (RB K H0 G H) σ ρ
 apart:∀(i j:Nat) (a:Addr) (ds es:List D),ρ[i]?=some (.ow ds)->ρ[j]?=some (.ow es)->σ[i]?=some (some (.ref a))->σ[j]?=some (some (.ref a))->i=j
theorem Paired.get {α β:Type}{F:α->β->Prop}:∀ {l:List α} {r:List β} {i:Nat} {b:β},Paired F l r->r[i]?=some b->∃a,l[i]?=some a/\F a b
 | _,_,_,_,.nil,e=>by simp at e
 | _,_,0,_,.cons h _,e=>by simp at e;subst e;exact⟨_,rfl,h⟩
 | _,_,i+1,b,.cons _ t,e=>by
   obtain⟨a,h1,h2⟩:=Paired.get (i:=i) (b:=b) t (by simpa using e)
   exact⟨a,by simpa using h1,h2⟩
theorem Paired.set {α β:Type}{F:α->β->Prop}{a:α}{b:β}(h:F a b):∀ {l:List α} {r:List β} (i:Nat),Paired F l r->Paired F (l.set i a) (r.set i b)
 | _,_,_,.nil=>.nil
 | _,_,0,.cons _ t=>.cons h t
 | _,_,i+1,.cons q t=>.cons q (Paired.set h i t)
theorem RB.step {K:PySem.W.Frag}{H0 G H G' H':Hp}{o:Option V}{b:B}(r:RB K H0 G H o b)(s:Step G H G' H'):RB K H0 G' H' o b:=by
 cases r with
 | no=>exact .no
 | fz q=>exact .fz (q.mono s.gg)
 | ow h1 h2 h3 h4=>exact .ow (s.hh _ _ h1) ((s.new _ (by rw[h1];exact fun z=>nomatch z)).trans h2) h3 (h4.mono s.gg)
 | od h1 h2 h3 h4 h5 h6=>exact .od (s.hh _ _ h1) ((s.new _ (by rw[h1];exact fun z=>nomatch z)).trans h2) h3 (h4.mono s.gg) h5 h6
theorem Good.step {K:PySem.W.Frag}{G0 H0 G H G' H':Hp}{σ:St}{ρ:List B}(g:Good K G0 H0 G H σ ρ)(s:Step G H G' H'):Good K G0 H0 G' H' σ ρ :=
 ⟨g.st.trans s,Paired.mapP g.vals fun _ _ r=>r.step s,g.apart⟩
theorem Good.sub {K:PySem.W.Frag}{G0 H0 G H:Hp}{σ:St}{ρ:List B}(g:Good K G0 H0 G H σ ρ):Same G H:=g.st.sub
abbrev Ef:=List B->Option D
def tF (K:PySem.W.Frag)(f:Ef):TE:=fun σ H Q=>∃G0 H0 G ρ d,Good K G0 H0 G H σ ρ/\f ρ=some d/\∀v H' G',Step G H G' H'->Rep K G' d v->Q v H'
def PF (X:Cx)(e:Expr)(f:Ef):Prop:=PE X e (tF X.K f)
theorem PE.to {X:Cx}{e:Expr}{t:TE}{f:Ef}(h:PE X e t)(imp:∀σ H Q,tF X.K f σ H Q->t σ H Q):PF X e f:=fun pins s σ H Q I q=>h pins s σ H Q I (imp σ H Q q)
abbrev Lf:=List B->Option (List D)
def tFr (K:PySem.W.Frag)(f:Lf):TE:=fun σ H Q=>∃G0 H0 G ρ ds,Good K G0 H0 G H σ ρ/\f ρ=some ds/\∀a vs H' G',Step G H G' H'->H a=none->H' a=some (.lst vs)->G' a=none->Reps K G' ds vs->Q (.ref a) H'
def PFr (X:Cx)(e:Expr)(f:Lf):Prop:=PE X e (tFr X.K f)
theorem PE.toR {X:Cx}{e:Expr}{t:TE}{f:Lf}(h:PE X e t)(imp:∀σ H Q,tFr X.K f σ H Q->t σ H Q):PFr X e f:=fun pins s σ H Q I q=>h pins s σ H Q I (imp σ H Q q)
def eL (f:Lf):Ef:=fun ρ=>(f ρ).map .lst
theorem vP {X:Cx}{e:Expr}{f:Lf}(h:PFr X e f):PF X e (eL f):=by
 refine PE.to h ?_
 rintro σ H Q ⟨G0,H0,G,ρ,d,good,hf,k⟩
 unfold eL at hf
 obtain⟨ds,h1,rfl⟩:=Option.map_eq_some_iff.mp hf
 refine⟨G0,H0,G,ρ,ds,good,h1,fun a vs H' G' s hn ha ga rs=>?_⟩
 exact k _ _ (upd G' a (.lst vs)) (s.frz hn ha ga) (rep_lst.mpr ⟨a,vs,rfl,.of z0,rs.mono (Same.new ga)⟩)
abbrev Tf:=List B->Option Bool
def tFT (K:PySem.W.Frag)(f:Tf):TT:=fun σ H Q=>∃G0 H0 G ρ b,Good K G0 H0 G H σ ρ/\f ρ=some b/\∀H' G',Step G H G' H'->Q b H'
def PFT (X:Cx)(e:Expr)(f:Tf):Prop:=PT X e (tFT X.K f)
theorem PT.to {X:Cx}{e:Expr}{t:TT}{f:Tf}(h:PT X e t)(imp:∀σ H Q,tFT X.K f σ H Q->t σ H Q):PFT X e f:=fun pins s σ H Q I q=>h pins s σ H Q I (imp σ H Q q)
def PFW (X:Cx)(e:Expr)(f:Tf):Prop:=PW X e (tFT X.K f)
def tFA (K:PySem.W.Frag)(f:Lf):TA:=fun σ H Q=>∃G0 H0 G ρ ds,Good K G0 H0 G H σ ρ/\f ρ=some ds/\∀vs H' G',Step G H G' H'->Reps K G' ds vs->Q vs H'
def PFA (X:Cx)(es:List Expr)(f:Lf):Prop:=PA X es (tFA X.K f)
theorem PA.to {X:Cx}{es:List Expr}{t:TA}{f:Lf}(h:PA X es t)(imp:∀σ H Q,tFA X.K f σ H Q->t σ H Q):PFA X es f:=fun pos pins s σ H Q I q=>h pos pins s σ H Q I (imp σ H Q q)
section
variable {X:Cx} {a b c e:Expr} {es:List Expr} {fa fb fc:Ef} {ga gb:Lf} {ta tb:Tf} {pos:Pos}
def sK (ρ:List B)(i:Nat):Option D:=match ρ[i]? with | some (.fz d)=>some d | _=>none
def eV (i:Nat):Ef:=fun ρ=>sK ρ i
theorem zTv {K:PySem.W.Frag}{G0 H0 G H:Hp}{σ:St}{ρ:List B}{i:Nat}{d:D}(g:Good K G0 H0 G H σ ρ)(h:sK ρ i=some d):∃v,σ[i]?=some (some v)/\Rep K G d v:=by
 unfold sK at h
 split at h
 · rename_i d' e
   cases h
   obtain⟨o,h1,r⟩:=Paired.get g.vals e
   cases r with
   | fz r=>exact⟨_,h1,r⟩
 · cases h
theorem zT (i:Nat){x:Str}(hN:X.N[i]?=some x:=by rfl)(hv:Vis X.env.scope x:=by first | exact Or.inl rfl | exact Or.inr (Or.inl rfl) | exact Or.inr (Or.inr rfl))(hd:(x==("__debug__":Str))=false:=by decide)(hcd:(x==("__classdict__":Str))=false:=by decide):PF X (.Name x pos) (eV i):=by
 refine PE.to (nL hN hv hd hcd) ?_
 rintro σ H Q ⟨G0,H0,G,ρ,d,good,hf,k⟩
 obtain⟨v,h1,r⟩:=zTv good hf
 exact⟨v,h1,k v H G (.refl good.sub) r⟩
def eC (d:D):Ef:=fun _=>some d
theorem dX {v:V}{d:D}(h:PE X e (tC v))(r:∀G,Rep X.K G d v):PF X e (eC d):=by
 refine PE.to h ?_
 rintro σ H Q ⟨G0,H0,G,ρ,d',good,hf,k⟩
 cases hf
 exact k v H G (.refl good.sub) (r G)
theorem zW {i:Int}{j:Nat}:PF X (.Constant (.int i) j pos) (eC (.int i)):=dX zPI fun _=>rep_int.mpr rfl
theorem uB {i:Bool}{j:Nat}:PF X (.Constant (.bool i) j pos) (eC (.bl i)):=dX zOf fun _=>rep_bl.mpr rfl
theorem sV {j:Nat}:PF X (.Constant .none j pos) (eC .non):=dX zSC fun _=>rep_non.mpr rfl
theorem vK {x:Str}{j:Nat}:PF X (.Constant (.str x) j pos) (eC (.str x)):=dX zPH fun _=>rep_str.mpr rfl
theorem cF {x y:Str}{t:Tok}(hg:Gl X x)(hm:X.mg x=some (.str y t))(hd:(x==("__debug__":Str))=false:=by decide):PF X (.Name x pos) (eC (.str y)):=dX (cA (v:=.str y) hg hm ⟨t,rfl⟩ hd) fun _=>rep_str.mpr rfl
theorem zPX {x:Str}{i:Int}{t:Tok}(hg:Gl X x)(hm:X.mg x=some (.int i t))(hd:(x==("__debug__":Str))=false:=by decide):PF X (.Name x pos) (eC (.int i)):=dX (cA (v:=.int i) hg hm ⟨t,rfl⟩ hd) fun _=>rep_int.mpr rfl
def eI (C:Int->Int->Bool)(g:Int->Int->Int)(fa fb:Ef):Ef:=fun ρ=>(fa ρ).bind fun x=>(fb ρ).bind fun y=>match x,y with | .int i,.int j=>if C i j then some (.int (g i j)) else none | _,_=>none
theorem zSb {C:Int->Int->Bool}{g:Int->Int->Int}{ρ:List B}{d:D}(h:eI C g fa fb ρ=some d):∃i j,fa ρ=some (.int i)/\fb ρ=some (.int j)/\C i j=true/\d = .int (g i j):=by
 unfold eI at h
 obtain⟨x,h1,h⟩:=Option.bind_eq_some_iff.mp h
 obtain⟨y,h2,h⟩:=Option.bind_eq_some_iff.mp h
 cases x with
 | int i =>
   cases y with
   | int j =>
     dsimp only at h
     split at h
     · rename_i hc;cases h;exact⟨i,j,h1,h2,hc,rfl⟩
     · cases h
   | _=>cases h
 | _=>cases h
theorem zVb {op:Operator}{C:Int->Int->Bool}{P:Int->Int->Prop}{g:Int->Int->Int}(ho:OpR X (binaryOp op) (rI P fun i j=>.int (g i j)))(hP:∀i j,C i j=true->P i j)(ha:PF X a fa)(hb:PF X b fb):PF X (.BinOp a op b pos) (eI C g fa fb):=by
 refine PE.to (aZ ho ha hb) ?_
 rintro σ H Q ⟨G0,H0,G,ρ,d,good,hf,k⟩
 obtain⟨i,j,h1,h2,hc,rfl⟩:=zSb hf
 refine⟨G0,H0,G,ρ,_,good,h1,fun x H1 G1 s1 r1=>⟨G0,H0,G1,ρ,_,good.step s1,h2,fun y H2 G2 s2 r2=>?_⟩⟩
 exact⟨i,j,rep_int.mp r1,rep_int.mp r2,hP i j hc,k _ _ G2 (s1.trans s2) (rep_int.mpr rfl)⟩
theorem zRI {op:Operator}{g:Int->Int->Int}(ho:OpR X (binaryOp op) (rI0 fun i j=>.int (g i j)))(ha:PF X a fa)(hb:PF X b fb):PF X (.BinOp a op b pos) (eI (fun _ _=>true) g fa fb):=by
 refine PE.to (aZ ho ha hb) ?_
 rintro σ H Q ⟨G0,H0,G,ρ,d,good,hf,k⟩
 obtain⟨i,j,h1,h2,hc,rfl⟩:=zSb hf
 refine⟨G0,H0,G,ρ,_,good,h1,fun x H1 G1 s1 r1=>⟨G0,H0,G1,ρ,_,good.step s1,h2,fun y H2 G2 s2 r2=>?_⟩⟩
 exact⟨i,j,rep_int.mp r1,rep_int.mp r2,k _ _ G2 (s1.trans s2) (rep_int.mpr rfl)⟩
abbrev vT:=eI (fun _ _=>true) (fun i j=>i+j)
abbrev mU:=eI (fun _ _=>true) (fun i j=>i - j)
def aT (i j:Int):Bool:=(decide (-(2^64) < i)&&decide (i < 2^64))||(decide (-(2^64) < j)&&decide (j < 2^64))
abbrev pK:=eI aT (fun i j=>i*j)
def zZ0 (_ j:Int):Bool:=decide (0 < j)&&decide (j < 1073741824)
abbrev vV:=eI zZ0 (fun i j=>i / j)
abbrev yG:=eI (fun _ j=>decide (0 < j)) (fun i j=>i % j)
def zWz (i j:Int):Bool:=decide (0<=j)&&decide (j<=1000000)&&decide (i.natAbs < 2^64)
abbrev hJ:=eI zWz (fun i j=>i^j.toNat)
abbrev aF:=eI (fun _ j=>decide (0<=j)) (fun i j=>i / 2^j.toNat)
abbrev zX6:=eI (fun _ _=>true) (fun i j=>Builtin.bitXor i j)
theorem uN (ha:PF X a fa)(hb:PF X b fb):PF X (.BinOp a .Add b pos) (vT fa fb):=zRI op_add ha hb
theorem jY (ha:PF X a fa)(hb:PF X b fb):PF X (.BinOp a .Sub b pos) (mU fa fb):=zRI zPJ ha hb
theorem nS (ha:PF X a fa)(hb:PF X b fb):PF X (.BinOp a .Mult b pos) (pK fa fb):=zVb zPz (fun i j h=>by
 unfold aT at h
 simp only[Bool.or_eq_true,Bool.and_eq_true,decide_eq_true_eq] at h
 exact h) ha hb
theorem uL (ha:PF X a fa)(hb:PF X b fb):PF X (.BinOp a .FloorDiv b pos) (vV fa fb):=zVb zRa (fun i j h=>by
 unfold zZ0 at h
 simp only[Bool.and_eq_true,decide_eq_true_eq] at h
 exact h) ha hb
theorem xQ (ha:PF X a fa)(hb:PF X b fb):PF X (.BinOp a .Mod b pos) (yG fa fb):=zVb zO6 (fun i j h=>of_decide_eq_true h) ha hb
theorem zQE {i j:Int}(h:zWz i j=true):zNU i j:=by
 unfold zWz at h
 simp only[Bool.and_eq_true,decide_eq_true_eq] at h
 exact⟨h.1.1,h.1.2,h.2⟩
theorem zZU (ha:PF X a fa)(hb:PF X b fb):PF X (.BinOp a .Pow b pos) (hJ fa fb):=zVb zPt (fun i j h=>zQE h) ha hb
theorem zXl (ha:PF X a fa)(hb:PF X b fb):PF X (.BinOp a .RShift b pos) (aF fa fb):=zVb zPc (fun i j h=>of_decide_eq_true h) ha hb
theorem zYr (ha:PF X a fa)(hb:PF X b fb):PF X (.BinOp a .BitXor b pos) (zX6 fa fb):=zRI zOC ha hb
def zUV (fa:Ef):Ef:=fun ρ=>(fa ρ).bind fun x=>match x with | .int i=>some (.int (-i)) | _=>none
theorem zUO (ha:PF X a fa):PF X (.UnaryOp .USub a pos) (zUV fa):=by
 refine PE.to (zOn zOX ha) ?_
 rintro σ H Q ⟨G0,H0,G,ρ,d,good,hf,k⟩
 unfold zUV at hf
 obtain⟨x,h1,hf⟩:=Option.bind_eq_some_iff.mp hf
 split at hf
 · rename_i i
   cases hf
   exact⟨G0,H0,G,ρ,_,good,h1,fun x H1 G1 s1 r1=>⟨i,rep_int.mp r1,k _ _ G1 s1 (rep_int.mpr rfl)⟩⟩
 · cases hf
def eB2 (g:D->D->Option Bool)(fa fb:Ef):Tf:=fun ρ=>(fa ρ).bind fun x=>(fb ρ).bind fun y=>g x y
def xJ (t:Tf):Ef:=fun ρ=>(t ρ).map .bl
def gLt:D->D->Option Bool | .int i,.int j=>some (decide (i < j)) | _,_=>none
def gLe:D->D->Option Bool | .int i,.int j=>some (decide (i<=j)) | _,_=>none
def gGt:D->D->Option Bool | .int i,.int j=>some (decide (j < i)) | _,_=>none
def gGe:D->D->Option Bool | .int i,.int j=>some (decide (j<=i)) | _,_=>none
def gEq:D->D->Option Bool
 | .int i,.int j=>some (decide (i=j))
 | .bl i,.bl j=>some (decide (i=j))
 | .str i,.str j=>some (decide (i=j))
 | _,_=>none
def gNe (x y:D):Option Bool:=(gEq x y).map (!·)
def CmR (X:Cx)(op:CmpOp)(g:D->D->Option Bool):Prop:=∃r:R2,OpR X (compareOp op) r/\∀(d d':D) (k:Bool) (G H:Hp) (x y:V) (Q:VK),g d d'=some k->Same G H->Rep X.K G d x->Rep X.K G d' y->(∀H' G',Step G H G' H'->Q (.bl k) H')->r x y H Q
theorem zYq {op:CmpOp}{p:Int->Int->Bool}{g:D->D->Option Bool}(ho:OpR X (compareOp op) (rI0 fun i j=>.bl (p i j)))(hg:∀d d' k,g d d'=some k->∃i j,d = .int i/\d' = .int j/\k=p i j):CmR X op g:=by
 refine⟨_,ho,fun d d' k G H x y Q h s rx ry q=>?_⟩
 obtain⟨i,j,rfl,rfl,rfl⟩:=hg d d' k h
 exact⟨i,j,rep_int.mp rx,rep_int.mp ry,q H G (.refl s)⟩
theorem zU7:CmR X .Lt gLt:=zYq zNP fun d d' k h=>by unfold gLt at h;split at h<;>cases h;exact⟨_,_,rfl,rfl,rfl⟩
theorem aR:CmR X .LtE gLe:=zYq zOr fun d d' k h=>by unfold gLe at h;split at h<;>cases h;exact⟨_,_,rfl,rfl,rfl⟩
theorem zUx:CmR X .Gt gGt:=zYq zNG fun d d' k h=>by unfold gGt at h;split at h<;>cases h;exact⟨_,_,rfl,rfl,rfl⟩
theorem zSB:CmR X .GtE gGe:=zYq zOb fun d d' k h=>by unfold gGe at h;split at h<;>cases h;exact⟨_,_,rfl,rfl,rfl⟩
theorem zRY {d d':D}{k:Bool}{K:PySem.W.Frag}{G:Hp}{x y:V}(h:gEq d d'=some k)(rx:Rep K G d x)(ry:Rep K G d' y):zPa x y=true/\decide (x=y)=k:=by
 unfold gEq at h
 split at h
 · cases h;rw[rep_int] at rx ry;subst rx;subst ry;exact⟨rfl,by simp⟩
 · cases h;rw[rep_bl] at rx ry;subst rx;subst ry;exact⟨rfl,by simp⟩
 · cases h;rw[rep_str] at rx ry;subst rx;subst ry;exact⟨rfl,by simp⟩
 · cases h
theorem tP:CmR X .Eq gEq:=⟨_,zNQ,fun d d' k G H x y Q h s rx ry q=>by
 obtain⟨h1,h2⟩:=zRY h rx ry
 exact⟨h1,by rw[h2];exact q H G (.refl s)⟩⟩
theorem zZl:CmR X .NotEq gNe:=⟨_,zOg,fun d d' k G H x y Q h s rx ry q=>by
 unfold gNe at h
 obtain⟨k',h',rfl⟩:=Option.map_eq_some_iff.mp h
 obtain⟨h1,h2⟩:=zRY h' rx ry
 exact⟨h1,by rw[h2];exact q H G (.refl s)⟩⟩
theorem zUI {g:D->D->Option Bool}{ρ:List B}{k:Bool}(h:eB2 g fa fb ρ=some k):∃x y,fa ρ=some x/\fb ρ=some y/\g x y=some k:=by
 unfold eB2 at h
 obtain⟨x,h1,h⟩:=Option.bind_eq_some_iff.mp h
 obtain⟨y,h2,h⟩:=Option.bind_eq_some_iff.mp h
 exact⟨x,y,h1,h2,h⟩
theorem aS {t:Tf}{ρ:List B}{d:D}(h:xJ t ρ=some d):∃k,t ρ=some k/\d = .bl k:=by
 unfold xJ at h
 obtain⟨k,h1,rfl⟩:=Option.map_eq_some_iff.mp h
 exact⟨k,h1,rfl⟩
theorem uM {op:CmpOp}{g:D->D->Option Bool}(hc:CmR X op g)(ha:PF X a fa)(hb:PF X b fb)(hm:behindInMarks op b=false:=by first | exact aL _ | (with_unfolding_all rfl)):PF X (.Compare a [op] [b] pos) (xJ (eB2 g fa fb)):=by
 obtain⟨r,ho,hr⟩:=hc
 refine PE.to (zQN ho ha hb hm) ?_
 rintro σ H Q ⟨G0,H0,G,ρ,d,good,hf,k⟩
 obtain⟨c,hf2,rfl⟩:=aS hf
 obtain⟨x,y,h1,h2,h3⟩:=zUI hf2
 refine⟨G0,H0,G,ρ,_,good,h1,fun u H1 G1 s1 r1=>⟨G0,H0,G1,ρ,_,good.step s1,h2,fun v H2 G2 s2 r2=>?_⟩⟩
 exact hr x y c G2 H2 u v Q h3 s2.sub (r1.mono s2.gg) r2 fun H' G' s3=>k _ _ G' ((s1.trans s2).trans s3) (rep_bl.mpr rfl)
theorem yT {op:CmpOp}{g:D->D->Option Bool}(hc:CmR X op g)(ha:PF X a fa)(hb:PF X b fb)(hm:behindInMarks op b=false:=by first | exact aL _ | (with_unfolding_all rfl)):PFT X (.Compare a [op] [b] pos) (eB2 g fa fb):=by
 obtain⟨r,ho,hr⟩:=hc
 refine PT.to (cH ho ha hb hm) ?_
 rintro σ H Q ⟨G0,H0,G,ρ,c,good,hf,k⟩
 obtain⟨x,y,h1,h2,h3⟩:=zUI hf
 refine⟨G0,H0,G,ρ,_,good,h1,fun u H1 G1 s1 r1=>⟨G0,H0,G1,ρ,_,good.step s1,h2,fun v H2 G2 s2 r2=>?_⟩⟩
 exact hr x y c G2 H2 u v _ h3 s2.sub (r1.mono s2.gg) r2 fun H' G' s3=>⟨c,rfl,k _ G' ((s1.trans s2).trans s3)⟩
def pC:D->Bool | .non=>true | _=>false
theorem zYJ {K:PySem.W.Frag}{G:Hp}{d:D}{v:V}(r:Rep K G d v):decide (v = .non)=pC d:=by
 cases d with
 | non=>rw[rep_non] at r;subst r;rfl
 | bl b=>rw[rep_bl] at r;subst r;simp[pC]
 | int b=>rw[rep_int] at r;subst r;simp[pC]
 | str b=>rw[rep_str] at r;subst r;simp[pC]
 | tup ds=>obtain⟨p,_,rfl,_⟩:=rep_tup.mp r;simp[pC]
 | lst ds=>obtain⟨p,_,rfl,_⟩:=rep_lst.mp r;simp[pC]
 | obj C ns ds=>obtain⟨_,p,_,_,_,rfl,_⟩:=rep_obj.mp r;simp[pC]
 | exc C ns ds=>obtain⟨_,p,_,_,_,rfl,_⟩:=rep_exc.mp r;simp[pC]
def eT:D->D->Option Bool | d,.non=>some (!pC d) | _,_=>none
theorem zW5:CmR X .IsNot eT:=⟨_,zRc,fun d d' k G H x y Q h s rx ry q=>by
 unfold eT at h
 split at h
 · cases h
   refine⟨rep_non.mp ry,?_⟩
   rw[zYJ rx];exact q H G (.refl s)
 · cases h⟩
def tB1 (f:Ef):Tf:=fun ρ=>(f ρ).bind fun x=>match x with | .bl k=>some k | _=>none
theorem zX2 {f:Ef}{ρ:List B}{k:Bool}(h:tB1 f ρ=some k):f ρ=some (.bl k):=by
 unfold tB1 at h
 obtain⟨x,h1,h⟩:=Option.bind_eq_some_iff.mp h
 split at h
 · cases h;exact h1
 · cases h
theorem xM (ha:PF X a fa)(he:∀whole,isTrue a X.env whole=(do let v ←whole;standAt a.pos;holding [v] (truthy v)):=by intro _;rfl):PFT X a (tB1 fa):=by
 refine PT.to (zON ha he) ?_
 rintro σ H Q ⟨G0,H0,G,ρ,c,good,hf,k⟩
 exact⟨G0,H0,G,ρ,_,good,zX2 hf,fun u H1 G1 s1 r1=>⟨c,rep_bl.mp r1,k _ G1 s1⟩⟩
def xS (t:Tf):Tf:=fun ρ=>(t ρ).map (!·)
def dC (t u:Tf):Tf:=fun ρ=>(t ρ).bind fun c=>if c=true then u ρ else some false
def rV (t u:Tf):Tf:=fun ρ=>(t ρ).bind fun c=>if c=true then some true else u ρ
theorem vR (ha:PFT X a ta):PFT X (.UnaryOp .Not a pos) (xS ta):=by
 refine PT.to (zP0 ha) ?_
 rintro σ H Q ⟨G0,H0,G,ρ,c,good,hf,k⟩
 unfold xS at hf
 obtain⟨c',h1,rfl⟩:=Option.map_eq_some_iff.mp hf
 exact⟨G0,H0,G,ρ,_,good,h1,fun H1 G1 s1=>k _ G1 s1⟩
theorem PW.to {t:TT}{f:Tf}(h:PW X e t)(imp:∀σ H Q,tFT X.K f σ H Q->t σ H Q):PFW X e f:=fun whole pins s σ H Q I q=>h whole pins s σ H Q I (imp σ H Q q)
theorem zW9 (ha:PFT X a ta):PFW X (.BoolOp .And [a] pos) ta:=zQz ha
theorem rM (ha:PFT X a ta):PFW X (.BoolOp .Or [a] pos) ta:=zPm ha
theorem zUB {rest:List Expr}(ha:PFT X a ta)(hb:PFW X (.BoolOp .And (b::rest) pos) tb):PFW X (.BoolOp .And (a::b::rest) pos) (dC ta tb):=by
 refine PW.to (zP2 ha hb) ?_
 rintro σ H Q ⟨G0,H0,G,ρ,c,good,hf,k⟩
 unfold dC at hf
 obtain⟨c',h1,hf⟩:=Option.bind_eq_some_iff.mp hf
 refine⟨G0,H0,G,ρ,_,good,h1,fun H1 G1 s1=>?_⟩
 split at hf
 · rename_i h;rw[if_pos h];exact⟨G0,H0,G1,ρ,c,good.step s1,hf,fun H2 G2 s2=>k _ G2 (s1.trans s2)⟩
 · rename_i h;rw[if_neg h];cases hf;exact k _ G1 s1
theorem rT {rest:List Expr}(ha:PFT X a ta)(hb:PFW X (.BoolOp .Or (b::rest) pos) tb):PFW X (.BoolOp .Or (a::b::rest) pos) (rV ta tb):=by
 refine PW.to (zOi ha hb) ?_
 rintro σ H Q ⟨G0,H0,G,ρ,c,good,hf,k⟩
 unfold rV at hf
 obtain⟨c',h1,hf⟩:=Option.bind_eq_some_iff.mp hf
 refine⟨G0,H0,G,ρ,_,good,h1,fun H1 G1 s1=>?_⟩
 split at hf
 · rename_i h;rw[if_pos h];cases hf;exact k _ G1 s1
 · rename_i h;rw[if_neg h];exact⟨G0,H0,G1,ρ,c,good.step s1,hf,fun H2 G2 s2=>k _ G2 (s1.trans s2)⟩
theorem cN (h:PFW X e ta):PFT X e ta:=h.pt
theorem zX1 {op:BoolOp}(h:PF X a fa):PF X (.BoolOp op [a] pos) fa:=zO9 h
def kT (fa fb:Ef):Ef:=fun ρ=>(tB1 fa ρ).bind fun c=>if c=true then fb ρ else some (.bl false)
theorem bP {rest:List Expr}(ha:PF X a fa)(hb:PF X (.BoolOp .And (b::rest) pos) fb):PF X (.BoolOp .And (a::b::rest) pos) (kT fa fb):=by
 refine PE.to (zP8 ha hb) ?_
 rintro σ H Q ⟨G0,H0,G,ρ,d,good,hf,k⟩
 obtain⟨c,h1,hf⟩:=Option.bind_eq_some_iff.mp hf
 refine⟨G0,H0,G,ρ,_,good,zX2 h1,fun u H1 G1 s1 r1=>⟨c,rep_bl.mp r1,?_⟩⟩
 split at hf
 · rename_i h;rw[if_pos h];exact⟨G0,H0,G1,ρ,d,good.step s1,hf,fun v H2 G2 s2 r2=>k _ _ G2 (s1.trans s2) r2⟩
 · rename_i h;rw[if_neg h];cases hf;exact k _ _ G1 s1 (rep_bl.mpr rfl)
theorem zRR (ha:PF X a fa):PF X (.UnaryOp .Not a pos) (xJ (xS (tB1 fa))):=by
 refine PE.to (zPw ha) ?_
 rintro σ H Q ⟨G0,H0,G,ρ,d,good,hf,k⟩
 obtain⟨c,hf2,rfl⟩:=aS hf
 unfold xS at hf2
 obtain⟨c',h1,rfl⟩:=Option.map_eq_some_iff.mp hf2
 exact⟨G0,H0,G,ρ,_,good,zX2 h1,fun u H1 G1 s1 r1=>⟨c',rep_bl.mp r1,k _ _ G1 s1 (rep_bl.mpr rfl)⟩⟩
def eIf (t:Tf)(fa fb:Ef):Ef:=fun ρ=>(t ρ).bind fun c=>if c=true then fa ρ else fb ρ
theorem zRn (ht:PFT X c ta)(ha:PF X a fa)(hb:PF X b fb):PF X (.IfExp c a b pos) (eIf ta fa fb):=by
 refine PE.to (zRL ht ha hb) ?_
 rintro σ H Q ⟨G0,H0,G,ρ,d,good,hf,k⟩
 unfold eIf at hf
 obtain⟨c',h1,hf⟩:=Option.bind_eq_some_iff.mp hf
 refine⟨G0,H0,G,ρ,_,good,h1,fun H1 G1 s1=>?_⟩
 split at hf
 · rename_i h;rw[if_pos h];exact⟨G0,H0,G1,ρ,d,good.step s1,hf,fun v H2 G2 s2 r2=>k _ _ G2 (s1.trans s2) r2⟩
 · rename_i h;rw[if_neg h];exact⟨G0,H0,G1,ρ,d,good.step s1,hf,fun v H2 G2 s2 r2=>k _ _ G2 (s1.trans s2) r2⟩
def zS:Lf:=fun _=>some []
def zZ (f:Ef)(r:Lf):Lf:=fun ρ=>(f ρ).bind fun d=>(r ρ).map fun ds=>d::ds
theorem zU:PFA X [] zS:=by
 refine PA.to yB ?_
 rintro σ H Q ⟨G0,H0,G,ρ,d,good,hf,k⟩
 cases hf
 exact k [] H G (.refl good.sub) (reps_nil.mpr rfl)
theorem zZj {f:Ef}{r:Lf}{ρ:List B}{ds:List D}(h:zZ f r ρ=some ds):∃d dr,f ρ=some d/\r ρ=some dr/\ds=d::dr:=by
 unfold zZ at h
 obtain⟨d,h1,h⟩:=Option.bind_eq_some_iff.mp h
 obtain⟨dr,h2,rfl⟩:=Option.map_eq_some_iff.mp h
 exact⟨d,dr,h1,h2,rfl⟩
theorem zY (ha:PF X e fa)(hr:PFA X es ga)(hs:starEach (e::es) X.env=(false,eval e X.env)::starEach es X.env:=by rfl):PFA X (e::es) (zZ fa ga):=by
 refine PA.to (yS ha hr hs) ?_
 rintro σ H Q ⟨G0,H0,G,ρ,ds,good,hf,k⟩
 obtain⟨d,dr,h1,h2,rfl⟩:=zZj hf
 refine⟨G0,H0,G,ρ,_,good,h1,fun u H1 G1 s1 r1=>⟨G0,H0,G1,ρ,_,good.step s1,h2,fun v H2 G2 s2 r2=>?_⟩⟩
 exact k _ _ G2 (s1.trans s2) (reps_cons.mpr ⟨u,v,rfl,r1.mono s2.gg,r2⟩)
abbrev lim:Nat:=100000
theorem wK {n:Nat}(h:n<=lim):n < sizeLine:=Nat.lt_of_le_of_lt h (by decide)
def okL (ds:List D):Option (List D):=if ds.length<=lim then some ds else none
theorem gQ {ds es:List D}(h:okL ds=some es):es=ds/\ds.length<=lim:=by
 unfold okL at h
 split at h
 · rename_i q;cases h;exact⟨rfl,q⟩
 · cases h
def zI (g:Lf):Ef:=fun ρ=>((g ρ).bind okL).map .tup
theorem zH {k:Nat}(h:PFA X es ga):PF X (.Tuple es k pos) (zI ga):=by
 refine PE.to (zPE h) ?_
 rintro σ H Q ⟨G0,H0,G,ρ,d,good,hf,k⟩
 unfold zI at hf
 obtain⟨ds,h1,rfl⟩:=Option.map_eq_some_iff.mp hf
 obtain⟨es,h1,h2⟩:=Option.bind_eq_some_iff.mp h1
 obtain⟨rfl,h3⟩:=gQ h2
 refine⟨G0,H0,G,ρ,_,good,h1,fun vs H1 G1 s1 r1=>⟨by rw[←r1.length];exact Nat.le_of_lt (wK h3),fun p hp=>?_⟩⟩
 have s2:=Step.laid (o:=.tup vs) s1.sub hp
 exact k _ _ _ (s1.trans s2) (rep_tup.mpr ⟨p,vs,rfl,.of z0,r1.mono s2.gg⟩)
def yO (g:Lf):Lf:=fun ρ=>(g ρ).bind okL
theorem xX (h:PFA X es ga):PFr X (.List es pos) (yO ga):=by
 refine PE.toR (zSi h) ?_
 rintro σ H Q ⟨G0,H0,G,ρ,d,good,hf,k⟩
 unfold yO at hf
 obtain⟨es,h1,h2⟩:=Option.bind_eq_some_iff.mp hf
 obtain⟨rfl,h3⟩:=gQ h2
 refine⟨G0,H0,G,ρ,_,good,h1,fun vs H1 G1 s1 r1=>⟨by rw[←r1.length];exact Nat.le_of_lt (wK h3),fun p hp=>?_⟩⟩
 exact k p vs _ G1 (s1.trans (Step.own s1.sub hp)) (s1.hh.free hp) z0 (s1.sub.free hp) r1
def atD (x y:D):Option D:=match x,y with
 | .tup ds,.int i=>atI ds i
 | .lst ds,.int i=>atI ds i
 | .str z,.int i=>if z.length<=lim then(atI z.cps.toList i).map fun c=>.str ⟨#[c]⟩ else none
 | _,_=>none
def eIx (fa fb:Ef):Ef:=fun ρ=>(fa ρ).bind fun x=>(fb ρ).bind fun y=>atD x y
theorem aQ {K:PySem.W.Frag}{G:Hp}{ds:List D}{vs:List V}{i:Int}{d:D}(r:Reps K G ds vs)(h:atI ds i=some d):∃v,atI vs i=some v/\Rep K G d v:=by
 unfold atI at h ⊢
 rw[r.length] at h
 obtain⟨j,h1,h2⟩:=Option.bind_eq_some_iff.mp h
 obtain⟨v,h3,h4⟩:=r.get h2
 exact⟨v,by rw[h1];exact h3,h4⟩
theorem xO (ha:PF X a fa)(hb:PF X b fb)(hs:cD b:=by exact fun _ _=>rfl):PF X (.Subscript a b pos) (eIx fa fb):=by
 refine PE.to (zSX zPD ha hb hs) ?_
 rintro σ H Q ⟨G0,H0,G,ρ,d,good,hf,k⟩
 unfold eIx at hf
 obtain⟨x,h1,hf⟩:=Option.bind_eq_some_iff.mp hf
 obtain⟨y,h2,hf⟩:=Option.bind_eq_some_iff.mp hf
 refine⟨G0,H0,G,ρ,_,good,h1,fun u H1 G1 s1 r1=>⟨G0,H0,G1,ρ,_,good.step s1,h2,fun v H2 G2 s2 r2=>?_⟩⟩
 have r1:=r1.mono s2.gg
 have s3:=s1.trans s2
 unfold atD at hf
 split at hf
 · obtain⟨p,vs,rfl,q,rs⟩:=rep_tup.mp r1
   obtain⟨w,e,rw'⟩:=aQ rs hf
   exact .inr (.inl ⟨p,vs,_,w,rfl,rep_int.mp r2,s2.sub.tup q,e,k _ _ G2 s3 rw'⟩)
 · obtain⟨p,vs,rfl,q,rs⟩:=rep_lst.mp r1
   obtain⟨w,e,rw'⟩:=aQ rs hf
   exact .inl ⟨p,vs,_,w,rfl,rep_int.mp r2,s2.sub.seq q,e,k _ _ G2 s3 rw'⟩
 · split at hf
   · rename_i hz
     obtain⟨c,e,rfl⟩:=Option.map_eq_some_iff.mp hf
     exact .inr (.inr ⟨_,_,c,rep_str.mp r1,rep_int.mp r2,Nat.le_of_lt (wK hz),e,k _ _ G2 s3 (rep_str.mpr rfl)⟩)
   · cases hf
 · cases hf
end
end L2
namespace L2
open PySem PySem.Spec PyProof.Rows
inductive Out where
 | nx (ρ:List B) | rt (d:D) | rl (ds:List D) | bk (ρ:List B) | ct (ρ:List B)
 deriving Inhabited
abbrev Sf:=List B->Option Out
def Wants (K:PySem.W.Frag)(G0 H0 G:Hp)(D:Ends):Out->Prop
 | .nx ρ'=>∀σ' H' G',Same G G'->Good K G0 H0 G' H' σ' ρ'->D.nx σ' H'
 | .bk ρ'=>∀σ' H' G',Same G G'->Good K G0 H0 G' H' σ' ρ'->D.bk σ' H'
 | .ct ρ'=>∀σ' H' G',Same G G'->Good K G0 H0 G' H' σ' ρ'->D.ct σ' H'
 | .rt d=>∀v H' G',Step G0 H0 G' H'->Rep K G' d v->D.rt v H'
 | .rl ds=>∀a vs H' G',Step G0 H0 G' H'->H0 a=none->H' a=some (.lst vs)->G' a=none->Reps K G' ds vs->D.rt (.ref a) H'
def tFS (K:PySem.W.Frag)(f:Sf):TS:=fun D σ H=>∃G0 H0 G ρ o,Good K G0 H0 G H σ ρ/\f ρ=some o/\Wants K G0 H0 G D o
def PFS (X:Cx)(st:Stmt)(f:Sf):Prop:=PS X st (tFS X.K f)
def aP (X:Cx)(sts:List Stmt)(f:Sf):Prop:=PSs X sts (tFS X.K f)
theorem PS.to {X:Cx}{st:Stmt}{t:TS}{f:Sf}(h:PS X st t)(imp:∀D σ H,tFS X.K f D σ H->t D σ H):PFS X st f:=fun pins s σ H D I q=>h pins s σ H D I (imp D σ H q)
theorem PSs.to {X:Cx}{st:List Stmt}{t:TS}{f:Sf}(h:PSs X st t)(imp:∀D σ H,tFS X.K f D σ H->t D σ H):aP X st f:=fun pins s σ H D I q=>h pins s σ H D I (imp D σ H q)
theorem Wants.mono {K:PySem.W.Frag}{G0 H0 G G':Hp}{D:Ends}{o:Out}(h:Wants K G0 H0 G D o)(s:Same G G'):Wants K G0 H0 G' D o:=by
 cases o with
 | nx ρ=>exact fun σ' H' G2 s2 g=>h σ' H' G2 (s.trans s2) g
 | bk ρ=>exact fun σ' H' G2 s2 g=>h σ' H' G2 (s.trans s2) g
 | ct ρ=>exact fun σ' H' G2 s2 g=>h σ' H' G2 (s.trans s2) g
 | rt d=>exact h
 | rl ds=>exact h
theorem w8 {ρ:List B}{i j:Nat}{d:D}{ds:List D}(h:(ρ.set i (.fz d))[j]?=some (.ow ds)):j≠i/\ρ[j]?=some (.ow ds):=by
 by_cases e:j=i
 · subst e
   rw[List.getElem?_set] at h
   split at h
   · split at h<;>cases h
   · rename_i z;exact absurd rfl z
 · rw[List.getElem?_set_ne (Ne.symm e)] at h
   exact⟨e,h⟩
theorem dU {ρ:List B}{i j:Nat}{d:D}{ds:List (D×D)}(h:(ρ.set i (.fz d))[j]?=some (.od ds)):j≠i/\ρ[j]?=some (.od ds):=by
 by_cases e:j=i
 · subst e
   rw[List.getElem?_set] at h
   split at h
   · split at h<;>cases h
   · rename_i z;exact absurd rfl z
 · rw[List.getElem?_set_ne (Ne.symm e)] at h
   exact⟨e,h⟩
theorem Good.setF {K:PySem.W.Frag}{G0 H0 G H:Hp}{σ:St}{ρ:List B}{v:V}{d:D}(g:Good K G0 H0 G H σ ρ)(i:Nat)(r:Rep K G d v):Good K G0 H0 G H (σ.set i (some v)) (ρ.set i (.fz d)):=by
 refine⟨g.st,Paired.set (.fz r) i g.vals,fun j k a ds es h1 h2 h3 h4=>?_⟩
 obtain⟨n1,e1⟩:=w8 h1
 obtain⟨n2,e2⟩:=w8 h2
 rw[List.getElem?_set_ne (Ne.symm n1)] at h3
 rw[List.getElem?_set_ne (Ne.symm n2)] at h4
 exact g.apart j k a ds es e1 e2 h3 h4
theorem Good.addr {K:PySem.W.Frag}{G0 H0 G H:Hp}{σ:St}{ρ:List B}{i:Nat}{ds:List D}(g:Good K G0 H0 G H σ ρ)(h:ρ[i]?=some (.ow ds)):∃a vs,σ[i]?=some (some (.ref a))/\H a=some (.lst vs)/\G a=none/\H0 a=none/\Reps K G ds vs:=by
 obtain⟨o,e,r⟩:=Paired.get g.vals h
 cases r with
 | ow h1 h2 h3 h4=>exact⟨_,_,e,h1,h2,h3,h4⟩
theorem Good.setO {K:PySem.W.Frag}{G0 H0 G H:Hp}{σ:St}{ρ:List B}{a:Addr}{vs:List V}{ds:List D}(g:Good K G0 H0 G H σ ρ)(i:Nat)(ha:H a=some (.lst vs))(ga:G a=none)(h0:H0 a=none)(rs:Reps K G ds vs)
   (fr:∀(j:Nat) (es:List D),ρ[j]?=some (B.ow es)->σ[j]?≠some (some (V.ref a))):Good K G0 H0 G H (σ.set i (some (.ref a))) (ρ.set i (.ow ds)):=by
 have hl:σ.length=ρ.length:=Paired.length g.vals
 refine⟨g.st,Paired.set (.ow ha ga h0 rs) i g.vals,fun j k b d1 d2 h1 h2 h3 h4=>?_⟩
 by_cases hj:j=i
 · by_cases hk:k=i
   · rw[hj,hk]
   · subst hj
     rw[List.getElem?_set_ne (Ne.symm hk)] at h2 h4
     have hlt:j < σ.length:=by
       have:=(List.getElem?_eq_some_iff.mp h3).1
       rwa[List.length_set] at this
     rw[List.getElem?_set_self hlt] at h3
     cases h3
     exact absurd h4 (fr k d2 h2)
 · rw[List.getElem?_set_ne (Ne.symm hj)] at h1 h3
   by_cases hk:k=i
   · subst hk
     have hlt:k < σ.length:=by
       have:=(List.getElem?_eq_some_iff.mp h4).1
       rwa[List.length_set] at this
     rw[List.getElem?_set_self hlt] at h4
     cases h4
     exact absurd h3 (fr j d1 h1)
   · rw[List.getElem?_set_ne (Ne.symm hk)] at h2 h4
     exact g.apart j k b d1 d2 h1 h2 h3 h4
theorem Good.wr {K:PySem.W.Frag}{G0 H0 G H:Hp}{σ:St}{ρ:List B}{a:Addr}{us:List V}{ds es:List D}{i:Nat}(g:Good K G0 H0 G H σ ρ)(hi:ρ[i]?=some (.ow ds))(hs:σ[i]?=some (some (.ref a)))(rs:Reps K G es us) :
   Good K G0 H0 G (upd H a (.lst us)) σ (ρ.set i (.ow es)):=by
 obtain⟨a',vs,h1,h2,h3,h4,_⟩:=g.addr hi
 rw[hs] at h1;cases h1
 have st:Step G0 H0 G (upd H a (.lst us)):=by
   refine⟨fun b o e=>?_,g.st.gg,fun b o e=>?_,g.st.new⟩
   · rw[yP (yE e h4)];exact g.st.hh b o e
   · rw[yP (yE e h3)];exact g.st.sub b o e
 have hl:σ.length=ρ.length:=Paired.length g.vals
 have hil:i < ρ.length:=(List.getElem?_eq_some_iff.mp hi).1
 have key:∀(l:List (Option V)) (r:List B) (n:Nat),Paired (RB K H0 G H) l r->(∀j es,n+j≠i->r[j]?=some (.ow es)->l[j]?≠some (some (.ref a)))->(∀j,n+j=i->l[j]?=some (some (.ref a))) ->
     Paired (RB K H0 G (upd H a (.lst us))) l (if i < n then r else r.set (i - n) (.ow es)):=by
   intro l r n p
   induction p generalizing n with
   | nil=>intro _ _;split<;>exact .nil
   | @cons o b l' r' q t ih =>
     intro hne hat
     have tl:=ih (n+1) (fun j es z e=>by have:=hne (j+1) es (by omega) (by simpa using e);simpa using this) (fun j z=>by have:=hat (j+1) (by omega);simpa using this)
     have keepq:(∀es,b = .ow es->o≠some (.ref a))->RB K H0 G (upd H a (.lst us)) o b:=fun hb=>by
       cases q with
       | no=>exact .no
       | fz r=>exact .fz r
       | @ow c vs ds' c1 c2 c3 c4 =>
         have:c≠a:=fun z=>hb _ rfl (by rw[z])
         exact .ow (by rw[yP this];exact c1) c2 c3 c4
       | @od c _ _ _ _ c1 c2 c3 c4 c5 c6 =>
         have:c≠a:=fun z=>by rw[z,h2] at c1;cases c1
         exact .od (by rw[yP this];exact c1) c2 c3 c4 c5 c6
     by_cases h1:i < n
     · rw[if_pos h1]
       rw[if_pos (by omega)] at tl
       refine .cons (keepq fun es e z=>?_) tl
       exact hne 0 es (by omega) (by simp[e]) (by simp[z])
     · rw[if_neg h1]
       by_cases h2:i=n
       · subst h2
         rw[if_pos (by omega)] at tl
         have:=hat 0 (by omega)
         simp at this
         subst this
         rw[Nat.sub_self]
         exact .cons (.ow z0 h3 h4 rs) tl
       · rw[if_neg (by omega)] at tl
         have e:i - n=(i - (n+1))+1:=by omega
         rw[e]
         refine .cons (keepq fun es e z=>?_) tl
         exact hne 0 es (by omega) (by simp[e]) (by simp[z])
 have vals:=key σ ρ 0 g.vals (fun j es' z e w=>by
   have:=g.apart j i a es' ds e hi w hs
   omega) (fun j z=>by rw[show j=i by omega];exact hs)
 rw[if_neg (Nat.not_lt_zero _),Nat.sub_zero] at vals
 refine⟨st,vals,fun j k b d1 d2 e1 e2 e3 e4=>?_⟩
 have un:∀(j:Nat) (d1:List D),(ρ.set i (B.ow es))[j]?=some (B.ow d1)->∃d,ρ[j]?=some (B.ow d):=fun j d1 e=>by
   by_cases hj:j=i
   · subst hj;exact⟨ds,hi⟩
   · rw[List.getElem?_set_ne (Ne.symm hj)] at e;exact⟨d1,e⟩
 obtain⟨c1,f1⟩:=un j d1 e1
 obtain⟨c2,f2⟩:=un k d2 e2
 exact g.apart j k b c1 c2 f1 f2 e3 e4
section
variable {X:Cx} {a b c e tg:Expr} {es:List Expr} {fa fb:Ef} {ga:Lf} {ta:Tf} {pos:Pos} {st:Stmt} {sts rest:List Stmt} {f g:Sf}
def zM (f g:Sf):Sf:=fun ρ=>(f ρ).bind fun o=>match o with | .nx ρ'=>g ρ' | o=>some o
def yU:Sf:=fun ρ=>some (.nx ρ)
theorem zB:aP X [] yU:=by
 refine PSs.to zUg ?_
 rintro D σ H ⟨G0,H0,G,ρ,o,good,hf,k⟩
 cases hf
 exact k σ H G (Same.refl _) good
theorem zR (h:PFS X st f):aP X [st] f:=zPV h
theorem zV (h1:PFS X st f)(h2:aP X rest g):aP X (st::rest) (zM f g):=by
 refine PSs.to (zW6 h1 h2) ?_
 rintro D σ H ⟨G0,H0,G,ρ,o,good,hf,k⟩
 unfold zM at hf
 obtain⟨o1,h1,hf⟩:=Option.bind_eq_some_iff.mp hf
 refine⟨G0,H0,G,ρ,o1,good,h1,?_⟩
 cases o1 with
 | nx ρ'=>exact fun σ' H' G' s g'=>⟨G0,H0,G',ρ',o,g',hf,k.mono s⟩
 | rt d=>cases hf;exact k
 | rl d=>cases hf;exact k
 | bk d=>cases hf;exact k
 | ct d=>cases hf;exact k
def yY (f:Ef):Sf:=fun ρ=>(f ρ).map .rt
theorem zF (h:PF X e fa):PFS X (.Return (some e) pos) (yY fa):=by
 refine PS.to (zVa h) ?_
 rintro D σ H ⟨G0,H0,G,ρ,o,good,hf,k⟩
 unfold yY at hf
 obtain⟨d,h1,rfl⟩:=Option.map_eq_some_iff.mp hf
 exact⟨G0,H0,G,ρ,d,good,h1,fun v H' G' s r=>k v H' G' (good.st.trans s) r⟩
def qL (f:Lf):Sf:=fun ρ=>(f ρ).map .rl
theorem jK (h:PFr X e ga):PFS X (.Return (some e) pos) (qL ga):=by
 refine PS.to (zVa h) ?_
 rintro D σ H ⟨G0,H0,G,ρ,o,good,hf,k⟩
 unfold qL at hf
 obtain⟨d,h1,rfl⟩:=Option.map_eq_some_iff.mp hf
 exact⟨G0,H0,G,ρ,d,good,h1,fun p vs H' G' s hn hp gp rs=>k p vs H' G' (good.st.trans s) (good.st.hh.free hn) hp gp rs⟩
def dL (i:Nat):Sf:=fun ρ=>match ρ[i]? with | some (.ow ds)=>some (.rl ds) | _=>none
theorem fA (i:Nat){x:Str}{pos':Pos}(hN:X.N[i]?=some x:=by rfl)(hv:Vis X.env.scope x:=by first | exact Or.inl rfl | exact Or.inr (Or.inl rfl) | exact Or.inr (Or.inr rfl))(hd:(x==("__debug__":Str))=false:=by decide)(hcd:(x==("__classdict__":Str))=false:=by decide) :
   PFS X (.Return (some (.Name x pos')) pos) (dL i):=by
 refine PS.to (zVa (nL hN hv hd hcd)) ?_
 rintro D σ H ⟨G0,H0,G,ρ,o,good,hf,k⟩
 unfold dL at hf
 split at hf
 · rename_i ds e
   cases hf
   obtain⟨p,vs,h1,h2,h3,h4,h5⟩:=good.addr e
   exact⟨.ref p,h1,k p vs H G good.st h4 h2 h3 h5⟩
 · cases hf
def sIf (t:Tf)(f g:Sf):Sf:=fun ρ=>(t ρ).bind fun c=>if c=true then f ρ else g ρ
theorem yR {sa sb:List Stmt}(ht:PFT X c ta)(ha:aP X sa f)(hb:aP X sb g):PFS X (.If c sa sb pos) (sIf ta f g):=by
 refine PS.to (zOp ht ha hb) ?_
 rintro D σ H ⟨G0,H0,G,ρ,o,good,hf,k⟩
 unfold sIf at hf
 obtain⟨c',h1,hf⟩:=Option.bind_eq_some_iff.mp hf
 refine⟨G0,H0,G,ρ,_,good,h1,fun H1 G1 s1=>?_⟩
 split at hf
 · rename_i h;rw[if_pos h];exact⟨G0,H0,G1,ρ,o,good.step s1,hf,k.mono s1.gg⟩
 · rename_i h;rw[if_neg h];exact⟨G0,H0,G1,ρ,o,good.step s1,hf,k.mono s1.gg⟩
def zXb (f:Ef):Sf:=fun ρ=>(f ρ).map fun _=>.nx ρ
theorem zSq (h:PF X e fa)(hs:swapsWith e none pos.line X.env=pure false:=by rfl):PFS X (.Expr e pos) (zXb fa):=by
 refine PS.to (zUo h hs) ?_
 rintro D σ H ⟨G0,H0,G,ρ,o,good,hf,k⟩
 unfold zXb at hf
 obtain⟨d,h1,rfl⟩:=Option.map_eq_some_iff.mp hf
 exact⟨G0,H0,G,ρ,d,good,h1,fun v H' G' s r=>k σ H' G' s.gg (good.step s)⟩
abbrev Gf:=D->List B->Option (List B)
def tFG (K:PySem.W.Frag)(g:Gf):TG:=fun v σ H Q=>∃G0 H0 G ρ d ρ',Good K G0 H0 G H σ ρ/\Rep K G d v/\g d ρ=some ρ'/\∀σ' H' G',Step G H G' H'->Good K G0 H0 G' H' σ' ρ'->Q σ' H'
def PFG (X:Cx)(tg:Expr)(g:Gf):Prop:=PG X tg (tFG X.K g)
abbrev Gfs:=List D->List B->Option (List B)
def zN1 (K:PySem.W.Frag)(g:Gfs):TGs:=fun vs σ H Q=>∃G0 H0 G ρ ds ρ',Good K G0 H0 G H σ ρ/\Reps K G ds vs/\g ds ρ=some ρ'/\∀σ' H' G',Step G H G' H'->Good K G0 H0 G' H' σ' ρ'->Q σ' H'
def zQw (X:Cx)(tgs:List Expr)(g:Gfs):Prop:=PGs X tgs (zN1 X.K g)
def gN (i:Nat):Gf:=fun d ρ=>some (ρ.set i (.fz d))
theorem yC (i:Nat){x:Str}(hN:X.N.Nodup)(hi:X.N[i]?=some x:=by rfl)(hx:Loc X.env.scope x:=by first | exact .inl rfl | exact .inr rfl)(hf:X.fn x=true∨X.env.scope.names.lookup x=some .local:=by first | exact .inl rfl | exact .inr rfl):PFG X (.Name x pos) (gN i):=by
 have h:=zQA (pos:=pos) hN hi hx hf
 intro pins s σ H v u Q I r q
 refine h pins s σ H v u Q I r ?_
 obtain⟨G0,H0,G,ρ,d,ρ',good,rd,hf,k⟩:=q
 cases hf
 exact k _ H G (.refl good.sub) (good.setF i rd)
def yM:Gfs:=fun ds ρ=>match ds with | []=>some ρ | _=>none
def zN (g:Gf)(r:Gfs):Gfs:=fun ds ρ=>match ds with | d::dr=>(g d ρ).bind fun ρ'=>r dr ρ' | _=>none
theorem xZ:zQw X [] yM:=by
 intro pins s σ H vs us Q I r q
 refine zRk pins s σ H vs us Q I r ?_
 obtain⟨G0,H0,G,ρ,ds,ρ',good,rd,hf,k⟩:=q
 unfold yM at hf
 split at hf
 · cases hf
   rw[reps_nil] at rd
   exact⟨rd,k _ H G (.refl good.sub) good⟩
 · cases hf
theorem zG {g:Gf}{r:Gfs}(h1:PFG X e g)(h2:zQw X es r)(hs:(assignEach (e::es) X.env).map (·.2)=assign e X.env::(assignEach es X.env).map (·.2):=by rfl):zQw X (e::es) (zN g r):=by
 intro pins s σ H vs us Q I rv q
 refine zRr h1 h2 hs pins s σ H vs us Q I rv ?_
 obtain⟨G0,H0,G,ρ,ds,ρ',good,rd,hf,k⟩:=q
 unfold zN at hf
 split at hf
 · rename_i d dr
   obtain⟨ρ1,e1,e2⟩:=Option.bind_eq_some_iff.mp hf
   obtain⟨v,vr,rfl,r1,r2⟩:=reps_cons.mp rd
   exact⟨v,vr,rfl,G0,H0,G,ρ,d,ρ1,good,r1,e1,fun σ' H' G' s' g'=>⟨G0,H0,G',ρ1,dr,ρ',g',r2.mono s'.gg,e2,fun σ2 H2 G2 s2 g2=>k σ2 H2 G2 (s'.trans s2) g2⟩⟩
 · cases hf
def gT (r:Gfs):Gf:=fun d ρ=>match d with | .tup ds=>r ds ρ | _=>none
theorem oP {r:Gfs}{k:Nat}(n:Nat)(hc:X.calm=true)(h:zQw X es r)(hr:∀ds ρ ρ',r ds ρ=some ρ'->ds.length=n)(hn:(assignEach es X.env).length=n:=by rfl)(hst:(assignEach es X.env).findIdx? (·.1)=none:=by rfl):PFG X (.Tuple es k pos) (gT r):=by
 have h:=zOB (pos:=pos) (k:=k) hc h hn hst
 intro pins s σ H v u Q I rv q
 refine h pins s σ H v u Q I rv ?_
 obtain⟨G0,H0,G,ρ,d,ρ',good,rd,hf,k⟩:=q
 unfold gT at hf
 split at hf
 · obtain⟨p,vs,rfl,h1,h2⟩:=rep_tup.mp rd
   exact⟨p,vs,rfl,good.sub.tup h1,by rw[←h2.length];exact hr _ _ _ hf,G0,H0,G,ρ,_,ρ',good,h2,hf,k⟩
 · cases hf
theorem yZ {g:Gf}{r:Gfs}{n:Nat}(h:∀ds ρ ρ',r ds ρ=some ρ'->ds.length=n):∀ds ρ ρ',zN g r ds ρ=some ρ'->ds.length=n+1:=by
 intro ds ρ ρ' q
 unfold zN at q
 split at q
 · obtain⟨ρ1,e1,e2⟩:=Option.bind_eq_some_iff.mp q
   rw[List.length_cons,h _ _ _ e2]
 · cases q
theorem xN:∀ds ρ ρ',yM ds ρ=some ρ'->ds.length=0:=by
 intro ds ρ ρ' q
 unfold yM at q
 split at q
 · rfl
 · cases q
def zZo (ρ:List B):Prop:=(∀(j:Nat) (es:List D),ρ[j]?≠some (B.ow es))/\∀(j:Nat) (ks:List (D×D)),ρ[j]?≠some (B.od ks)
def zTq (g:Gf):Prop:=∀d ρ ρ',g d ρ=some ρ'->zZo ρ->zZo ρ'
def zUp (g:Gfs):Prop:=∀d ρ ρ',g d ρ=some ρ'->zZo ρ->zZo ρ'
theorem uJ (i:Nat):zTq (gN i):=fun d ρ ρ' h n=>by
 cases h
 exact⟨fun j es e=>n.1 j es (w8 e).2,fun j ks e=>n.2 j ks (dU e).2⟩
theorem qI:zUp yM:=fun d ρ ρ' h n=>by
 unfold yM at h
 split at h
 · cases h;exact n
 · cases h
theorem xL {g:Gf}{r:Gfs}(h1:zTq g)(h2:zUp r):zUp (zN g r):=fun d ρ ρ' h n=>by
 unfold zN at h
 split at h
 · obtain⟨ρ1,e1,e2⟩:=Option.bind_eq_some_iff.mp h
   exact h2 _ _ _ e2 (h1 _ _ _ e1 n)
 · cases h
theorem zXA {r:Gfs}(h:zUp r):zTq (gT r):=fun d ρ ρ' q n=>by
 unfold gT at q
 split at q
 · exact h _ _ _ q n
 · cases q
def tJ (f:Ef)(g:Gf):Sf:=fun ρ=>(f ρ).bind fun d=>(g d ρ).map .nx
theorem zSz {K:PySem.W.Frag}{t:TE}{f:Ef}{g:Gf}(imp:∀σ H Q,tF K f σ H Q->t σ H Q){D:Ends}{σ:St}{H:Hp}(h:tFS K (tJ f g) D σ H):zTP t (tFG K g) D σ H:=by
 obtain⟨G0,H0,G,ρ,o,good,hf,k⟩:=h
 unfold tJ at hf
 obtain⟨d,h1,hf⟩:=Option.bind_eq_some_iff.mp hf
 obtain⟨ρ',h2,rfl⟩:=Option.map_eq_some_iff.mp hf
 exact imp _ _ _ ⟨G0,H0,G,ρ,d,good,h1,fun v H' G' s r=>⟨G0,H0,G',ρ,d,ρ',good.step s,r,h2,fun σ2 H2 G2 s2 g2=>k σ2 H2 G2 (s.gg.trans s2.gg) g2⟩⟩
theorem sN {g:Gf}(he:PF X e fa)(hg:PFG X tg g)(hs:swapsWithSole [tg] e pos.line X.env=pure false:=by rfl)(hw:swappedStores [tg] e X.env=pure none:=by rfl)(h1:(assignEach [tg] X.env).map (·.2)=[assign tg X.env]:=by rfl) :
   PFS X (.Assign [tg] e pos) (tJ fa g):=PS.to (zUM he hg hs hw h1) fun D σ H h=>zSz (fun _ _ _ q=>q) h
def zK (i:Nat)(f:Ef):Sf:=fun ρ=>(f ρ).map fun d=>.nx (ρ.set i (.fz d))
theorem zSF {K:PySem.W.Frag}{t:TE}{f:Ef}{i:Nat}(imp:∀σ H Q,tF K f σ H Q->t σ H Q){D:Ends}{σ:St}{H:Hp}(h:tFS K (zK i f) D σ H):zTP t (zWR i) D σ H:=by
 obtain⟨G0,H0,G,ρ,o,good,hf,k⟩:=h
 unfold zK at hf
 obtain⟨d,h1,rfl⟩:=Option.map_eq_some_iff.mp hf
 exact imp _ _ _ ⟨G0,H0,G,ρ,d,good,h1,fun v H' G' s r=>k _ H' G' s.gg ((good.step s).setF i r)⟩
theorem zL (i:Nat){x:Str}{pos':Pos}(hN:X.N.Nodup)(he:PF X e fa)(hi:X.N[i]?=some x:=by rfl)(hx:Loc X.env.scope x:=by first | exact .inl rfl | exact .inr rfl)(hs:swapsWith e (some (.Name x pos')) pos.line X.env=pure false:=by rfl)
   (hf:X.fn x=true∨X.env.scope.names.lookup x=some .local:=by first | exact .inl rfl | exact .inr rfl):PFS X (.Assign [.Name x pos'] e pos) (zK i fa) :=
 PS.to (zXH hN hi hx he hs hf) fun D σ H h=>zSF (fun _ _ _ q=>q) h
def xF (i:Nat)(f:Lf):Sf:=fun ρ=>(f ρ).map fun ds=>.nx (ρ.set i (.ow ds))
theorem zWD {K:PySem.W.Frag}{t:TE}{f:Lf}{i:Nat}(imp:∀σ H Q,tFr K f σ H Q->t σ H Q){D:Ends}{σ:St}{H:Hp}(h:tFS K (xF i f) D σ H):zTP t (zWR i) D σ H:=by
 obtain⟨G0,H0,G,ρ,o,good,hf,k⟩:=h
 unfold xF at hf
 obtain⟨ds,h1,rfl⟩:=Option.map_eq_some_iff.mp hf
 refine imp _ _ _ ⟨G0,H0,G,ρ,ds,good,h1,fun p vs H' G' s hn hp gp rs=>?_⟩
 refine k _ H' G' s.gg ((good.step s).setO i hp gp (good.st.hh.free hn) rs fun j es e z=>?_)
 obtain⟨q,us,e1,e2,_⟩:=good.addr e
 rw[e1] at z;cases z
 rw[hn] at e2;cases e2
theorem tW (i:Nat){x:Str}{pos':Pos}(hN:X.N.Nodup)(he:PFr X e ga)(hi:X.N[i]?=some x:=by rfl)(hx:Loc X.env.scope x:=by first | exact .inl rfl | exact .inr rfl)(hs:swapsWith e (some (.Name x pos')) pos.line X.env=pure false:=by rfl)
   (hf:X.fn x=true∨X.env.scope.names.lookup x=some .local:=by first | exact .inl rfl | exact .inr rfl):PFS X (.Assign [.Name x pos'] e pos) (xF i ga) :=
 PS.to (zXH hN hi hx he hs hf) fun D σ H h=>zWD (fun _ _ _ q=>q) h
def zOM (i:Nat)(ρ:List B):List B:=match ρ[i]? with | some (.ow ds)=>ρ.set i (.fz (.lst ds)) | _=>ρ
def oO (i:Nat)(f:Sf):Sf:=fun ρ=>f (zOM i ρ)
theorem Good.frz {K:PySem.W.Frag}{G0 H0 G H:Hp}{σ:St}{ρ:List B}(g:Good K G0 H0 G H σ ρ)(i:Nat):∃G',Same G G'/\Good K G0 H0 G' H σ (zOM i ρ):=by
 unfold zOM
 split
 · rename_i ds e
   obtain⟨p,vs,h1,h2,h3,h4,h5⟩:=g.addr e
   have sG:Same G (upd G p (.lst vs)):=Same.new h3
   have st:Step G0 H0 (upd G p (.lst vs)) H:=by
     refine⟨g.st.hh,g.st.gg.trans sG,fun b o q=>?_,fun b hb=>?_⟩
     · by_cases z:b=p
       · subst z;rw[z0] at q;rw[h2];exact q
       · rw[yP z] at q;exact g.st.sub b o q
     · rw[yP (fun z:b=p=>hb (by rw[z];exact h4))];exact g.st.new b hb
   have vals:Paired (RB K H0 (upd G p (.lst vs)) H) σ (ρ.set i (.fz (.lst ds))):=by
     have key:∀(l:List (Option V)) (r:List B) (n:Nat),Paired (RB K H0 G H) l r->(∀j es,n+j≠i->r[j]?=some (.ow es)->l[j]?≠some (some (.ref p)))->(∀j,n+j=i->l[j]?=some (some (.ref p))) ->
         Paired (RB K H0 (upd G p (.lst vs)) H) l (if i < n then r else r.set (i - n) (.fz (.lst ds))):=by
       intro l r n q
       induction q generalizing n with
       | nil=>intro _ _;split<;>exact .nil
       | @cons o b l' r' q t ih =>
         intro hne hat
         have tl:=ih (n+1) (fun j es z e=>by have:=hne (j+1) es (by omega) (by simpa using e);simpa using this) (fun j z=>by have:=hat (j+1) (by omega);simpa using this)
         have keepq:(∀es,b = .ow es->o≠some (.ref p))->RB K H0 (upd G p (.lst vs)) H o b:=fun hb=>by
           cases q with
           | no=>exact .no
           | fz r=>exact .fz (r.mono sG)
           | @ow c vs' ds' c1 c2 c3 c4 =>
             have:c≠p:=fun z=>hb _ rfl (by rw[z])
             exact .ow c1 (by rw[yP this];exact c2) c3 (c4.mono sG)
           | @od c _ _ _ _ c1 c2 c3 c4 c5 c6 =>
             have:c≠p:=fun z=>by rw[z,h2] at c1;cases c1
             exact .od c1 (by rw[yP this];exact c2) c3 (c4.mono sG) c5 c6
         by_cases h1:i < n
         · rw[if_pos h1]
           rw[if_pos (by omega)] at tl
           exact .cons (keepq fun es e z=>hne 0 es (by omega) (by simp[e]) (by simp[z])) tl
         · rw[if_neg h1]
           by_cases h2:i=n
           · subst h2
             rw[if_pos (by omega)] at tl
             have:=hat 0 (by omega)
             simp at this
             subst this
             rw[Nat.sub_self]
             exact .cons (.fz (rep_lst.mpr ⟨p,vs,rfl,.of z0,h5.mono sG⟩)) tl
           · rw[if_neg (by omega)] at tl
             have e:i - n=(i - (n+1))+1:=by omega
             rw[e]
             exact .cons (keepq fun es e z=>hne 0 es (by omega) (by simp[e]) (by simp[z])) tl
     have v:=key σ ρ 0 g.vals (fun j es' z e' w=>by have:=g.apart j i p es' ds e' e w h1;omega) (fun j z=>by rw[show j=i by omega];exact h1)
     rw[if_neg (Nat.not_lt_zero _),Nat.sub_zero] at v
     exact v
   refine⟨_,sG,st,vals,fun j k b d1 d2 e1 e2 e3 e4=>?_⟩
   obtain⟨_,f1⟩:=w8 e1
   obtain⟨_,f2⟩:=w8 e2
   exact g.apart j k b d1 d2 f1 f2 e3 e4
 · exact⟨G,Same.refl _,g⟩
theorem sM (i:Nat)(h:PFS X st f):PFS X st (oO i f):=by
 refine PS.to h ?_
 rintro D σ H ⟨G0,H0,G,ρ,o,good,hf,k⟩
 obtain⟨G',s,g'⟩:=good.frz i
 exact⟨G0,H0,G',_,o,g',hf,k.mono s⟩
end
end L2
namespace L2
open PySem PySem.Spec PyProof.Rows
def eB (K:PySem.W.Frag)(J:It)(G:Hp)(ds:List D):Prop:=∀(i:Nat) (G2 H2:Hp),Same G G2->Same G2 H2 ->
 (∀d,ds[i]?=some d->J.go i H2/\∀x H3,J.yld i H2 x H3->∃G3,Step G2 H2 G3 H3/\Rep K G3 d x)/\(ds.length<=i->J.stop i H2)
def tFI (K:PySem.W.Frag)(f:Lf):TI:=fun σ H R=>∃G0 H0 G ρ ds,Good K G0 H0 G H σ ρ/\f ρ=some ds/\∀J H' G',Step G H G' H'->eB K J G' ds->R J H'
def PFI (X:Cx)(tg iter:Expr)(f:Lf):Prop:=PI X tg iter (tFI X.K f)
theorem PI.to {X:Cx}{tg e:Expr}{t:TI}{f:Lf}(h:PI X tg e t)(imp:∀σ H R,tFI X.K f σ H R->t σ H R):PFI X tg e f:=fun pins s σ H R I q=>h pins s σ H R I (imp σ H R q)
theorem gP {K:PySem.W.Frag}{G:Hp}{a:Addr}{vs:List V}{ds:List D}(h:SqL K G a vs)(r:Reps K G ds vs):eB K (Itl K a) G ds:=by
 intro i G2 H2 s1 s2
 have q:SqL K H2 a vs:=(s1.trans s2).seq h
 refine⟨fun d hd=>?_,fun hi=>⟨vs,q,by rw[←r.length];exact hi⟩⟩
 obtain⟨v,e,rv⟩:=r.get hd
 refine⟨⟨vs,v,q,e⟩,fun x H3 y=>?_⟩
 obtain⟨rfl,y⟩:=y
 have:=y vs q
 rw[e] at this;cases this
 exact⟨G2,.refl s2,rv.mono s1⟩
theorem zVe {K:PySem.W.Frag}{G:Hp}{a:Addr}{vs:List V}{ds:List D}(h:SqT K G a vs)(r:Reps K G ds vs):eB K (Itt K a) G ds:=by
 intro i G2 H2 s1 s2
 have q:SqT K H2 a vs:=(s1.trans s2).tup h
 refine⟨fun d hd=>?_,fun hi=>⟨vs,q,by rw[←r.length];exact hi⟩⟩
 obtain⟨v,e,rv⟩:=r.get hd
 refine⟨⟨vs,v,q,e⟩,fun x H3 y=>?_⟩
 obtain⟨rfl,y⟩:=y
 have:=y vs q
 rw[e] at this;cases this
 exact⟨G2,.refl s2,rv.mono s1⟩
def tI (lo:Int)(n:Nat):List D:=(List.range n).map fun i=>D.int (lo+(i:Nat))
theorem gO {K:PySem.W.Frag}{G:Hp}{lo:Int}{n:Nat}:eB K (Itr lo n) G (tI lo n):=by
 intro i G2 H2 s1 s2
 have hl:(tI lo n).length=n:=by simp[tI]
 refine⟨fun d hd=>?_,fun hi=>by rw[hl] at hi;exact hi⟩
 have hi:i < n:=by rw[←hl];exact(List.getElem?_eq_some_iff.mp hd).1
 refine⟨hi,fun x H3 y=>?_⟩
 obtain⟨rfl,rfl⟩:=y
 have e:d = .int (lo+i):=by
   unfold tI at hd
   rw[List.getElem?_map,List.getElem?_range hi] at hd
   exact(Option.some.inj hd).symm
 subst e
 exact⟨G2,.refl s2,rep_int.mpr rfl⟩
section
variable {X:Cx} {a b c e tg elt iter:Expr} {es ifs:List Expr} {fa fb:Ef} {ga gi:Lf} {ta tc:Tf} {pos:Pos} {st:Stmt} {sts rest:List Stmt} {f g:Sf}
def iL (f:Ef):Lf:=fun ρ=>(f ρ).bind fun d=>match d with | .lst ds=>some ds | _=>none
def iT (f:Ef):Lf:=fun ρ=>(f ρ).bind fun d=>match d with | .tup ds=>some ds | _=>none
theorem zTj (h:PF X e fa):PFI X tg e (iL fa):=by
 refine PI.to (zU0 h) ?_
 rintro σ H R ⟨G0,H0,G,ρ,ds,good,hf,k⟩
 unfold iL at hf
 obtain⟨d,h1,hf⟩:=Option.bind_eq_some_iff.mp hf
 cases d with
 | lst es =>
   cases hf
   refine⟨G0,H0,G,ρ,_,good,h1,fun x H1 G1 s1 r1=>?_⟩
   obtain⟨p,vs,rfl,q,rs⟩:=rep_lst.mp r1
   exact⟨p,rfl,⟨vs,s1.sub.seq q⟩,k _ H1 G1 s1 (gP q rs)⟩
 | _=>cases hf
theorem zPT (h:PFr X e ga):PFI X tg e ga:=by
 refine PI.to (zU0 h) ?_
 rintro σ H R ⟨G0,H0,G,ρ,ds,good,hf,k⟩
 refine⟨G0,H0,G,ρ,_,good,hf,fun p vs H1 G1 s1 hn hp gp rs=>?_⟩
 exact⟨p,rfl,⟨vs,.of hp⟩,k _ H1 (upd G1 p (.lst vs)) (s1.frz hn hp gp) (gP (.of z0) (rs.mono (Same.new gp)))⟩
theorem zYl (h:PF X e fa):PFI X tg e (iT fa):=by
 refine PI.to (zO7 h) ?_
 rintro σ H R ⟨G0,H0,G,ρ,ds,good,hf,k⟩
 unfold iT at hf
 obtain⟨d,h1,hf⟩:=Option.bind_eq_some_iff.mp hf
 cases d with
 | tup es =>
   cases hf
   refine⟨G0,H0,G,ρ,_,good,h1,fun x H1 G1 s1 r1=>?_⟩
   obtain⟨p,vs,rfl,q,rs⟩:=rep_tup.mp r1
   exact⟨p,rfl,⟨vs,s1.sub.tup q⟩,k _ H1 G1 s1 (zVe q rs)⟩
 | _=>cases hf
def iR (f:Ef):Lf:=fun ρ=>(f ρ).bind fun d=>match d with | .int n=>if decide (-1000000<=n)&&decide (n<=1000000) then some (tI 0 n.toNat) else none | _=>none
theorem fE {p:Pos}(hg:Gl X "range")(hm:X.mg "range"=none)(h:PF X a fa)(hs:starEach [a] X.env=[(false,eval a X.env)]:=by rfl):PFI X tg (.Call (.Name "range" p) [a] [] pos) (iR fa):=by
 refine PI.to (zTc hg hm (yS h yB (by rw[hs];rfl)) hs) ?_
 rintro σ H R ⟨G0,H0,G,ρ,ds,good,hf,k⟩
 unfold iR at hf
 obtain⟨d,h1,hf⟩:=Option.bind_eq_some_iff.mp hf
 cases d with
 | int n =>
   dsimp only at hf
   split at hf
   · rename_i hc
     cases hf
     simp only[Bool.and_eq_true,decide_eq_true_eq] at hc
     refine⟨G0,H0,G,ρ,_,good,h1,fun x H1 G1 s1 r1=>⟨n,by rw[rep_int.mp r1],by omega,by omega,k _ H1 G1 s1 gO⟩⟩
   · cases hf
 | _=>cases hf
def iR2 (f g:Ef):Lf:=fun ρ=>(f ρ).bind fun x=>(g ρ).bind fun y=>match x,y with | .int m,.int n=>if decide (-1000000<=m)&&decide (m<=1000000)&&decide (-1000000<=n)&&decide (n<=1000000) then some (tI m (n - m).toNat) else none | _,_=>none
theorem zOz {p:Pos}(hg:Gl X "range")(hm:X.mg "range"=none)(h:PF X a fa)(h':PF X b fb)(hs:starEach [a,b] X.env=[(false,eval a X.env),(false,eval b X.env)]:=by rfl)(hs2:starEach [b] X.env=[(false,eval b X.env)]:=by rfl):PFI X tg (.Call (.Name "range" p) [a,b] [] pos) (iR2 fa fb):=by
 refine PI.to (zTz hg hm (yS h (yS h' yB (by rw[hs2];rfl)) (by rw[hs,hs2])) hs hs2) ?_
 rintro σ H R ⟨G0,H0,G,ρ,ds,good,hf,k⟩
 unfold iR2 at hf
 obtain⟨d,h1,hf⟩:=Option.bind_eq_some_iff.mp hf
 obtain⟨d',h2,hf⟩:=Option.bind_eq_some_iff.mp hf
 cases d with
 | int m =>
   cases d' with
   | int n =>
     dsimp only at hf
     split at hf
     · rename_i hc
       cases hf
       simp only[Bool.and_eq_true,decide_eq_true_eq] at hc
       refine⟨G0,H0,G,ρ,_,good,h1,fun x H1 G1 s1 r1=>⟨G0,H0,G1,ρ,_,good.step s1,h2,fun y H2 G2 s2 r2=>⟨m,n,by rw[rep_int.mp r1,rep_int.mp r2],⟨by omega,by omega,by omega,by omega⟩,k _ H2 G2 (s1.trans s2) gO⟩⟩⟩
     · cases hf
   | _=>cases hf
 | _=>cases hf
def rB (g:Gf)(body:Sf):List D->Sf
 | [],ρ=>some (.nx ρ)
 | d::r,ρ=>(g d ρ).bind fun ρ1=>(body ρ1).bind fun o=>match o with
   | .nx ρ2=>rB g body r ρ2
   | .ct ρ2=>rB g body r ρ2
   | .bk ρ2=>some (.nx ρ2)
   | o=>some o
def wX (src:Lf)(g:Gf)(body:Sf):Sf:=fun ρ=>(src ρ).bind fun ds=>rB g body ds ρ
theorem vQ {gt:Gf}{body:List Stmt}{fb:Sf}(hp:PassesOwn (model X.prog X.w) X.A X.env X.xe)(hc:X.calm=true)(hi:PFI X tg iter gi)(hg:PFG X tg gt)(hb:aP X body fb)(hs:∀x,foldedSetIterable iter X.env x=pure x:=by intro _;rfl) :
   PFS X (.For tg iter body [] pos) (wX gi gt fb):=by
 refine PS.to (zPj hp hc hi hg hb hs) ?_
 rintro D σ H ⟨G0,H0,G,ρ,o,good,hf,k⟩
 unfold wX at hf
 obtain⟨ds,h1,hf⟩:=Option.bind_eq_some_iff.mp hf
 refine⟨G0,H0,G,ρ,ds,good,h1,fun J H1 G1 s1 y=>?_⟩
 refine⟨fun i m σ H=>m=ds.length - i/\i<=ds.length/\∃G2 ρ2,Same G1 G2/\Good X.K G0 H0 G2 H σ ρ2/\rB gt fb (ds.drop i) ρ2=some o,⟨ds.length,by simp,Nat.zero_le _,G1,ρ,Same.refl _,good.step s1,by simpa using hf⟩,?_⟩
 rintro i m σ2 H2 ⟨rfl,hi',G2,ρ2,sg,good2,hf2⟩
 obtain⟨y1,y2⟩:=y i G2 H2 sg good2.sub
 by_cases hlt:i < ds.length
 · obtain⟨go,yl⟩:=y1 ds[i] (List.getElem?_eq_getElem hlt)
   rw[List.drop_eq_getElem_cons hlt] at hf2
   unfold rB at hf2
   obtain⟨ρ3,e1,hf2⟩:=Option.bind_eq_some_iff.mp hf2
   obtain⟨o1,e2,hf2⟩:=Option.bind_eq_some_iff.mp hf2
   refine .inr ⟨go,fun σ' H'=>∃G' ρ',Same G1 G'/\Good X.K G0 H0 G' H' σ' ρ'/\rB gt fb (ds.drop (i+1)) ρ'=some o,fun σ' H' ⟨G',ρ',a1,a2,a3⟩=>⟨ds.length - (i+1),by omega,rfl,hlt,G',ρ',a1,a2,a3⟩,fun x H3 yx=>?_⟩
   obtain⟨G3,s3,r3⟩:=yl x H3 yx
   refine⟨G0,H0,G3,ρ2,_,ρ3,good2.step s3,r3,e1,fun σ4 H4 G4 s4 good4=>?_⟩
   have sg4:Same G1 G4:=(sg.trans s3.gg).trans s4.gg
   refine⟨G0,H0,G4,ρ3,o1,good4,e2,?_⟩
   cases o1 with
   | nx ρ5=>exact fun σ5 H5 G5 s5 good5=>⟨G5,ρ5,sg4.trans s5,good5,hf2⟩
   | ct ρ5=>exact fun σ5 H5 G5 s5 good5=>⟨G5,ρ5,sg4.trans s5,good5,hf2⟩
   | bk ρ5=>cases hf2;exact fun σ5 H5 G5 s5 good5=>k σ5 H5 G5 ((s1.gg.trans sg4).trans s5) good5
   | rt d=>cases hf2;exact k
   | rl d=>cases hf2;exact k
 · have e:i=ds.length:=by omega
   subst e
   rw[List.drop_length] at hf2
   cases hf2
   exact .inl ⟨y2 (Nat.le_refl _),k σ2 H2 G2 (s1.gg.trans sg) good2⟩
def oA (g:Gf)(t:Tf)(elt:Ef):List D->List B->List D->Option (List D)
 | [],_,acc=>some acc
 | d::r,ρ,acc=>(g d ρ).bind fun ρ1=>(t ρ1).bind fun c=>if c=true then(elt ρ1).bind fun y=>oA g t elt r ρ1 (acc++[y]) else oA g t elt r ρ1 acc
def upB (m:Nat)(js:List Nat)(ρ:List B):List B:=List.replicate m .no++js.map fun j=>match ρ[j]? with | some (.fz d)=>.fz d | _=>.no
def yV (src:Lf)(m:Nat)(js:List Nat)(g:Gf)(t:Tf)(elt:Ef):Lf:=fun ρ=>((src ρ).bind okL).bind fun ds=>oA g t elt ds (upB m js ρ) []
theorem Good.up {K:PySem.W.Frag}{G0 H0 G H:Hp}{σ:St}{ρ:List B}(g:Good K G0 H0 G H σ ρ)(m:Nat)(js:List Nat):Good K G H G H (upC m js σ) (upB m js ρ):=by
 refine⟨.refl g.sub,?_,fun i j a ds es h1=>?_⟩
 · unfold upC upB
   have rep:∀m:Nat,Paired (RB K H G H) (List.replicate m (none:Option V)) (List.replicate m B.no):=fun m=>by
     induction m with
     | zero=>exact .nil
     | succ n ih=>rw[List.replicate_succ,List.replicate_succ];exact .cons .no ih
   have app:∀ {l1 l2:List (Option V)} {r1 r2:List B},Paired (RB K H G H) l1 r1->Paired (RB K H G H) l2 r2->Paired (RB K H G H) (l1++l2) (r1++r2):=fun h1 h2=>by
     induction h1 with
     | nil=>exact h2
     | cons q t ih=>exact .cons q ih
   refine app (rep m) ?_
   induction js with
   | nil=>exact .nil
   | cons j r ih =>
     rw[List.map_cons,List.map_cons]
     refine .cons ?_ ih
     cases e:ρ[j]? with
     | none=>exact .no
     | some b =>
       obtain⟨o,e1,r1⟩:=Paired.get g.vals e
       cases r1 with
       | no=>exact .no
       | fz q=>rw[e1];exact .fz q
       | ow q1 q2 q3 q4=>exact .no
       | od q1 q2 q3 q4 q5 q6=>exact .no
 · unfold upB at h1
   by_cases hi:i < m
   · rw[List.getElem?_append_left (by simpa using hi),List.getElem?_replicate] at h1
     split at h1<;>cases h1
   · rw[List.getElem?_append_right (by simpa using hi),List.getElem?_map] at h1
     obtain⟨k,_,h1⟩:=Option.map_eq_some_iff.mp h1
     split at h1<;>cases h1
theorem zS0 (m:Nat)(js:List Nat)(ρ:List B):zZo (upB m js ρ):=by
 constructor
 all_goals
   intro i es h1
   unfold upB at h1
   by_cases hi:i < m
   · rw[List.getElem?_append_left (by simpa using hi),List.getElem?_replicate] at h1
     split at h1<;>cases h1
   · rw[List.getElem?_append_right (by simpa using hi),List.getElem?_map] at h1
     obtain⟨k,_,h1⟩:=Option.map_eq_some_iff.mp h1
     split at h1<;>cases h1
theorem Good.wrX {K:PySem.W.Frag}{G0 H0 G H:Hp}{σ:St}{ρ:List B}{p:Addr}{o:HO}(g:Good K G0 H0 G H σ ρ)(n:zZo ρ)(gp:G p=none)(h0:H0 p=none):Good K G0 H0 G (upd H p o) σ ρ:=by
 refine⟨⟨fun b u e=>?_,g.st.gg,fun b u e=>?_,g.st.new⟩,?_,g.apart⟩
 · rw[yP (yE e h0)];exact g.st.hh b u e
 · rw[yP (yE e gp)];exact g.st.sub b u e
 · have key:∀(l:List (Option V)) (r:List B),Paired (RB K H0 G H) l r->zZo r->Paired (RB K H0 G (upd H p o)) l r:=by
     intro l r q
     induction q with
     | nil=>intro _;exact .nil
     | @cons x b l' r' q t ih =>
       intro n
       refine .cons ?_ (ih ⟨fun j es e=>n.1 (j+1) es (by simpa using e),fun j es e=>n.2 (j+1) es (by simpa using e)⟩)
       cases q with
       | no=>exact .no
       | fz r=>exact .fz r
       | ow _ _ _ _=>exact absurd rfl (n.1 0 _)
       | od _ _ _ _ _ _=>exact absurd rfl (n.2 0 _)
   exact key σ ρ g.vals n
theorem zWl {K:PySem.W.Frag}{m:Nat}{js:List Nat}{gt:Gf}{t:Tf}{el:Ef}(hgo:zTq gt){σ:St}{H:Hp}{Q:VK}(h:tFr K (yV gi m js gt t el) σ H Q):zSa (tFI K gi) m js (tFG K gt) (tFT K t) (tF K el) σ H Q:=by
 obtain⟨G0,H0,G,ρ,out,good,hf,k⟩:=h
 unfold yV at hf
 obtain⟨ds,h1,hf⟩:=Option.bind_eq_some_iff.mp hf
 obtain⟨ds',h1,h1'⟩:=Option.bind_eq_some_iff.mp h1
 obtain⟨rfl,hlen⟩:=gQ h1'
 refine⟨G0,H0,G,ρ,_,good,h1,fun J H1 G1 s1 y D hD=>?_⟩
 have good1:=(good.step s1).up m js
 have hGD:G1 D=none:=s1.sub.free hD
 refine⟨fun i n σ2 H2=>n=ds.length - i/\i<=ds.length/\∃G2 ρ2 acc us,Same G1 G2/\G2 D=none/\H2 D=some (.lst us)/\Reps K G2 acc us/\acc.length<=i/\zZo ρ2/\Good K G1 H1 G2 H2 σ2 ρ2/\oA gt t el (ds.drop i) ρ2 acc=some out,
   ⟨ds.length,by simp,Nat.zero_le _,G1,upB m js ρ,[],[],Same.refl _,hGD,z0,reps_nil.mpr rfl,Nat.le_refl _,zS0 _ _ _,good1.step (Step.own s1.sub hD),by simpa using hf⟩,?_⟩
 rintro i n σ2 H2 ⟨rfl,hi,G2,ρ2,acc,us,sg,gD,hD2,rs,hal,now,good2,hf2⟩
 obtain⟨y1,y2⟩:=y i G2 H2 sg good2.sub
 by_cases hlt:i < ds.length
 · obtain⟨go,yl⟩:=y1 ds[i] (List.getElem?_eq_getElem hlt)
   rw[List.drop_eq_getElem_cons hlt] at hf2
   unfold oA at hf2
   obtain⟨ρ3,e1,hf2⟩:=Option.bind_eq_some_iff.mp hf2
   obtain⟨c,e2,hf2⟩:=Option.bind_eq_some_iff.mp hf2
   have now3:=hgo _ _ _ e1 now
   refine .inr ⟨go,fun x H3 yx=>?_⟩
   obtain⟨G3,s3,r3⟩:=yl x H3 yx
   refine⟨G1,H1,G3,ρ2,_,ρ3,good2.step s3,r3,e1,fun σ4 H4 G4 s4 good4=>?_⟩
   refine⟨G1,H1,G4,ρ3,c,good4,e2,fun H5 G5 s5=>?_⟩
   have s35:=(s3.trans s4).trans s5
   have hne:H2 D≠none:=by rw[hD2];exact fun z=>nomatch z
   split at hf2
   · rename_i hc
     show if c=true then _ else _
     rw[if_pos hc]
     obtain⟨yd,e3,hf2⟩:=Option.bind_eq_some_iff.mp hf2
     refine⟨G1,H1,G5,ρ3,yd,good4.step s5,e3,fun v H6 G6 s6 r6=>?_⟩
     have s36:=s35.trans s6
     have hD6:H6 D=some (.lst us):=s36.hh _ _ hD2
     have gD6:G6 D=none:=(s36.new D hne).trans gD
     refine⟨us,ds.length - (i+1),hD6,?_,by omega,rfl,hlt,G6,ρ3,acc++[yd],us++[v],sg.trans s36.gg,gD6,z0,(rs.mono s36.gg).snoc r6,by rw[List.length_append,List.length_singleton];omega,now3,((good4.step s5).step s6).wrX now3 gD6 hD,hf2⟩
     rw[←rs.length]
     exact wK (Nat.le_trans hal (Nat.le_trans hi hlen))
   · rename_i hc
     show if c=true then _ else _
     rw[if_neg hc]
     exact⟨ds.length - (i+1),by omega,rfl,hlt,G5,ρ3,acc,us,sg.trans s35.gg,(s35.new D hne).trans gD,s35.hh _ _ hD2,rs.mono s35.gg,by omega,now3,good4.step s5,hf2⟩
 · have e:i=ds.length:=by omega
   subst e
   rw[List.drop_length] at hf2
   cases hf2
   exact .inl ⟨y2 (Nat.le_refl _),k D us H2 G2 (s1.trans good2.st) (s1.hh.free hD) hD2 gD rs⟩
def tOK:Tf:=fun _=>some true
def zUk (X:Cx)(ifs:List Expr)(t:Tf):Prop:=zV9 X ifs (tFT X.K t)
theorem yJ {X:Cx}:zUk X [] tOK:=fun pins s σ H Q I h=>zTb pins s σ H Q I (by
 obtain⟨G0,H0,G,ρ,b,good,hf,k⟩:=h
 cases hf
 exact k H G (.refl good.sub))
theorem zTp {X:Cx}{c:Expr}{t:Tf}(h:PFT X c t):zUk X [c] t:=zST h
theorem xE (sc:Scope)(N tgs frees:List Str)(js:List Nat){scope:Scope}{gt:Gf}{t:Tf}{el:Ef}(hgo:zTq gt)(hp:PFI X tg iter gi)(hc:X.calm=true)(hsc:X.env.scope=sc)(hNN:X.N=N)(hok:lW sc scope N tgs frees js=true)
   (hg:∀C s₀ H₀ fp,PFG (vW X (tgs++frees) scope C s₀ H₀ fp) tg gt) (hi:∀C s₀ H₀ fp,zUk (vW X (tgs++frees) scope C s₀ H₀ fp) ifs t) (he:∀C s₀ H₀ fp,PF (vW X (tgs++frees) scope C s₀ H₀ fp) elt el)
   (hs:∀x,foldedSetIterable iter X.env x=pure x:=by intro _;rfl) :
   PFr X (.ListComp elt [⟨tg,iter,ifs,0⟩] scope pos) (yV gi tgs.length js gt t el) :=
 PE.toR (zQF (g:=tFG X.K gt) (tc:=tFT X.K t) (te:=tF X.K el) sc tgs frees js hp hc hsc (by rw[hNN];exact hok) hg hi he hs) fun σ H Q h=>zWl hgo h
theorem pN (sc:Scope)(N tgs frees:List Str)(js:List Nat){scope:Scope}{gt:Gf}{t:Tf}{el:Ef}(hgo:zTq gt)(i:Nat){x:Str}{pos' spos:Pos}(hN:X.N.Nodup)(hx:X.N[i]?=some x)(hl:X.env.scope.names.lookup x=some .local)(hp:PFI X tg iter gi)(hc:X.calm=true)(hsc:X.env.scope=sc)(hNN:X.N=N)(hok:lW sc scope N tgs frees js=true)
   (hg:∀C s₀ H₀ fp,PFG (vW X (tgs++frees) scope C s₀ H₀ fp) tg gt) (hi:∀C s₀ H₀ fp,zUk (vW X (tgs++frees) scope C s₀ H₀ fp) ifs t) (he:∀C s₀ H₀ fp,PF (vW X (tgs++frees) scope C s₀ H₀ fp) elt el)
   (hsw:swapsWith (.ListComp elt [⟨tg,iter,ifs,0⟩] scope pos) (some (.Name x pos')) spos.line X.env=pure true:=by with_unfolding_all rfl) (hs:∀x,foldedSetIterable iter X.env x=pure x:=by intro _;rfl) :
   PFS X (.Assign [.Name x pos'] (.ListComp elt [⟨tg,iter,ifs,0⟩] scope pos) spos) (xF i (yV gi tgs.length js gt t el)) :=
 PS.to (zVd (g:=tFG X.K gt) (tc:=tFT X.K t) (te:=tF X.K el) sc tgs frees js hN hx hl hp hc hsc (by rw[hNN];exact hok) hg hi he hsw hs) fun D σ H h=>zWD (fun _ _ _ q=>zWl hgo q) h
end
end L2
namespace L2
open PySem PySem.Spec PyProof.Rows
section
variable {X:Cx} {a b c e tg elt iter:Expr} {es ifs:List Expr} {fa fb fc:Ef} {ga gi:Lf} {ta tc:Tf} {pos:Pos} {st:Stmt} {sts rest:List Stmt} {f g:Sf}
def hW (i:Nat)(f:Ef):Sf:=fun ρ=>(f ρ).bind fun d=>match ρ[i]? with | some (.ow ds)=>if ds.length < lim then some (.nx (ρ.set i (.ow (ds++[d])))) else none | _=>none
theorem zZD (i:Nat)(ht:PE X c (tBM X.K "list" zU1 (zQi i) (cS (tF X.K fa) zXk)))(hs:swapsWith c none pos.line X.env=pure false:=by rfl):PFS X (.Expr c pos) (hW i fa):=by
 refine PS.to (zUo ht hs) ?_
 rintro D σ H ⟨G0,H0,G,ρ,o,good,hf,k⟩
 unfold hW at hf
 obtain⟨d,h1,hf⟩:=Option.bind_eq_some_iff.mp hf
 split at hf
 · rename_i ds hi
   split at hf
   · rename_i hl
     cases hf
     obtain⟨p,vs,e1,e2,e3,e4,e5⟩:=good.addr hi
     refine⟨.ref p,e1,.inl ⟨rfl,vs,.of e2⟩,G0,H0,G,ρ,d,good,h1,fun v H1 G1 s1 r1=>?_⟩
     have good1:=good.step s1
     obtain⟨p',vs',f1,f2,f3,f4,f5⟩:=good1.addr hi
     rw[e1] at f1;cases f1
     exact⟨p,vs',v,rfl,rfl,f2,by rw[←f5.length];exact wK (Nat.le_of_lt hl),k σ _ G1 s1.gg (good1.wr hi e1 (f5.snoc r1))⟩
   · cases hf
 · cases hf
def zVz (j i:Nat)(f:Ef):Sf:=fun ρ=>(f ρ).bind fun d=>match d,ρ[i]? with
 | .int n,some (.ow ds)=>if ds.length<=lim then(ixN ds.length n).bind fun q=>(ds[q]?).map fun x=>.nx ((ρ.set i (.ow (ds.eraseIdx q))).set j (.fz x)) else none
 | _,_=>none
theorem zQQ (j i:Nat){y:Str}{p4:Pos}(hNd:X.N.Nodup)(ht:PE X c (tBM X.K "list" zRC (zQi i) (cS (tF X.K fa) zXk)))(hj:X.N[j]?=some y:=by rfl)(hjx:Loc X.env.scope y:=by first | exact .inl rfl | exact .inr rfl)
   (hs:swapsWith c (some (.Name y p4)) pos.line X.env=pure false:=by rfl) (hfn:X.fn y=true∨X.env.scope.names.lookup y=some .local:=by first | exact .inl rfl | exact .inr rfl) :
   PFS X (.Assign [.Name y p4] c pos) (zVz j i fa):=by
 refine PS.to (zXH hNd hj hjx ht hs hfn) ?_
 rintro D σ H ⟨G0,H0,G,ρ,o,good,hf,k⟩
 unfold zVz at hf
 obtain⟨d,h1,hf⟩:=Option.bind_eq_some_iff.mp hf
 split at hf
 · rename_i n ds hi
   split at hf
   · rename_i hl
     obtain⟨q,hq,hf⟩:=Option.bind_eq_some_iff.mp hf
     obtain⟨x',hx,rfl⟩:=Option.map_eq_some_iff.mp hf
     obtain⟨p,vs,e1,e2,e3,e4,e5⟩:=good.addr hi
     refine⟨.ref p,e1,.inl ⟨rfl,vs,.of e2⟩,G0,H0,G,ρ,_,good,h1,fun v H1 G1 s1 r1=>?_⟩
     have good1:=good.step s1
     obtain⟨p',vs',f1,f2,f3,f4,f5⟩:=good1.addr hi
     rw[e1] at f1;cases f1
     obtain⟨w,hw,rw'⟩:=f5.get hx
     have hlen:=f5.length
     rw[hlen] at hq
     obtain⟨q1,q2,q3,q4⟩:=zXv hq
     have hb:vs'.length < 2^40:=by rw[←hlen];exact Nat.lt_of_le_of_lt hl (by decide)
     refine⟨p,vs',n,q,w,rfl,by rw[rep_int.mp r1],f2,by omega,by omega,q1,hw,?_⟩
     exact k _ _ G1 s1.gg ((good1.wr hi e1 (f5.erase q)).setF j rw')
   · cases hf
 · cases hf
def iK (i:Nat)(fi fv:Ef):Sf:=fun ρ=>(fv ρ).bind fun d=>(fi ρ).bind fun n=>match n,ρ[i]? with
 | .int n,some (.ow ds)=>if ds.length<=lim then(ixN ds.length n).map fun q=>.nx (ρ.set i (.ow (ds.set q d))) else none
 | _,_=>none
theorem bX (i:Nat){x:Str}{p1 p2:Pos}(he:PF X e fa)(hb:PF X b fb)(hN:X.N[i]?=some x:=by rfl)(hv:Vis X.env.scope x:=by first | exact Or.inl rfl | exact Or.inr (Or.inl rfl) | exact Or.inr (Or.inr rfl))(hd:(x==("__debug__":Str))=false:=by decide)(hcd:(x==("__classdict__":Str))=false:=by decide)
   (ha:∀v,assign (.Subscript (.Name x p1) b p2) X.env v=(do
     let ov ←holding [v] (eval (.Name x p1) X.env)
     let iv ←holding [v,ov] (eval b X.env)
     standAt p2
     holding [v,ov,iv] (setItem ov iv v)
     release [v,ov,iv] []):=by intro _;rfl)
   (hs:swapsWithSole [.Subscript (.Name x p1) b p2] e pos.line X.env=pure false:=by rfl) (hw:swappedStores [.Subscript (.Name x p1) b p2] e X.env=pure none:=by rfl)
   (h1:(assignEach [.Subscript (.Name x p1) b p2] X.env).map (·.2)=[assign (.Subscript (.Name x p1) b p2) X.env]:=by rfl):PFS X (.Assign [.Subscript (.Name x p1) b p2] e pos) (iK i fb fa):=by
 refine PS.to (zUM he (zRT (nL hN hv hd hcd) hb zSU ha) hs hw h1) ?_
 rintro D σ H ⟨G0,H0,G,ρ,o,good,hf,k⟩
 unfold iK at hf
 obtain⟨d,h1,hf⟩:=Option.bind_eq_some_iff.mp hf
 obtain⟨n,h2,hf⟩:=Option.bind_eq_some_iff.mp hf
 split at hf
 · rename_i n ds hi
   split at hf
   · rename_i hl
     obtain⟨q,hq,rfl⟩:=Option.map_eq_some_iff.mp hf
     refine⟨G0,H0,G,ρ,d,good,h1,fun v H1 G1 s1 r1=>?_⟩
     have good1:=good.step s1
     obtain⟨p,vs,e1,e2,e3,e4,e5⟩:=good1.addr hi
     refine⟨.ref p,e1,G0,H0,G1,ρ,_,good1,h2,fun u H2 G2 s2 r2=>?_⟩
     have good2:=good1.step s2
     obtain⟨p',vs',f1,f2,f3,f4,f5⟩:=good2.addr hi
     rw[e1] at f1;cases f1
     refine⟨p,vs',n,q,rfl,rep_int.mp r2,f2,by rw[←f5.length];exact hq,?_⟩
     exact k _ _ G2 (s1.gg.trans s2.gg) (good2.wr hi e1 (f5.set q (r1.mono s2.gg)))
   · cases hf
 · cases hf
def zSR:D->Option D
 | .tup ds=>some (.int ds.length)
 | .lst ds=>some (.int ds.length)
 | .str z=>if z.length<=lim then some (.int z.length) else none
 | _=>none
def xP (f:Ef):Ef:=fun ρ=>(f ρ).bind zSR
theorem wU {p:Pos}(hg:Gl X "len")(hm:X.mg "len"=none)(h:PF X a fa)(hs:starEach [a] X.env=[(false,eval a X.env)]:=by rfl):PF X (.Call (.Name "len" p) [a] [] pos) (xP fa):=by
 refine PE.to (oS (call_len_seq.or zXp) hg hm PySem.boot_len (yS h yB (by rw[hs];rfl)) (by decide) (by decide) (by rw[hs];rfl) (by rfl)) ?_
 rintro σ H Q ⟨G0,H0,G,ρ,d,good,hf,k⟩
 unfold xP at hf
 obtain⟨x,h1,hf⟩:=Option.bind_eq_some_iff.mp hf
 refine⟨G0,H0,G,ρ,_,good,h1,fun v H1 G1 s1 r1=>?_⟩
 unfold zSR at hf
 split at hf
 · cases hf
   obtain⟨p,vs,rfl,q,rs⟩:=rep_tup.mp r1
   exact .inl ⟨p,vs,rfl,.inr (s1.sub.tup q),k _ _ G1 s1 (rep_int.mpr (by rw[rs.length]))⟩
 · cases hf
   obtain⟨p,vs,rfl,q,rs⟩:=rep_lst.mp r1
   exact .inl ⟨p,vs,rfl,.inl (s1.sub.seq q),k _ _ G1 s1 (rep_int.mpr (by rw[rs.length]))⟩
 · split at hf
   · rename_i hz
     cases hf
     exact .inr ⟨_,by rw[rep_str.mp r1],Nat.le_of_lt (wK hz),k _ _ G1 s1 (rep_int.mpr rfl)⟩
   · cases hf
 · cases hf
def rK (i:Nat):Ef:=fun ρ=>match ρ[i]? with | some (.ow ds)=>some (.int ds.length) | _=>none
theorem cE (i:Nat){x:Str}{p p1:Pos}(hg:Gl X "len")(hm:X.mg "len"=none)(hN:X.N[i]?=some x:=by rfl)(hv:Vis X.env.scope x:=by first | exact Or.inl rfl | exact Or.inr (Or.inl rfl) | exact Or.inr (Or.inr rfl))(hd:(x==("__debug__":Str))=false:=by decide)(hcd:(x==("__classdict__":Str))=false:=by decide):PF X (.Call (.Name "len" p) [.Name x p1] [] pos) (rK i):=by
 refine PE.to (oS call_len_seq hg hm PySem.boot_len (yS (nL hN hv hd hcd) yB)) ?_
 rintro σ H Q ⟨G0,H0,G,ρ,d,good,hf,k⟩
 unfold rK at hf
 split at hf
 · rename_i ds hi
   cases hf
   obtain⟨q,vs,e1,e2,e3,e4,e5⟩:=good.addr hi
   exact⟨.ref q,e1,q,vs,rfl,.inl (.of e2),k _ _ G (.refl good.sub) (rep_int.mpr (by rw[e5.length]))⟩
 · cases hf
def zVH:D->Option D | .lst ds=>some (.tup ds) | .tup ds=>some (.tup ds) | _=>none
def xR (f:Ef):Ef:=fun ρ=>(f ρ).bind zVH
theorem wR {p:Pos}(hg:Gl X "tuple")(hm:X.mg "tuple"=none)(h:PF X a fa)(hs:starEach [a] X.env=[(false,eval a X.env)]:=by rfl):PF X (.Call (.Name "tuple" p) [a] [] pos) (xR fa):=by
 refine PE.to (qD zZw hg hm (by rfl) (yS h yB (by rw[hs];rfl)) (by decide) (by decide) (by rw[hs];rfl) (by rfl)) ?_
 rintro σ H Q ⟨G0,H0,G,ρ,d,good,hf,k⟩
 unfold xR at hf
 obtain⟨x,h1,hf⟩:=Option.bind_eq_some_iff.mp hf
 refine⟨G0,H0,G,ρ,_,good,h1,fun v H1 G1 s1 r1=>?_⟩
 unfold zVH at hf
 split at hf
 · cases hf
   obtain⟨p,vs,rfl,q,rs⟩:=rep_lst.mp r1
   refine⟨p,vs,rfl,.inl ⟨s1.sub.seq q,fun l hl=>?_⟩⟩
   have s2:=Step.laid (o:=.tup vs) s1.sub hl
   exact k _ _ _ (s1.trans s2) (rep_tup.mpr ⟨l,vs,rfl,.of z0,rs.mono s2.gg⟩)
 · cases hf
   obtain⟨p,vs,rfl,q,rs⟩:=rep_tup.mp r1
   exact⟨p,vs,rfl,.inr ⟨s1.sub.tup q,k _ _ G1 s1 r1⟩⟩
 · cases hf
def zR0:D->Option (List D) | .lst ds=>some ds | .tup ds=>some ds | _=>none
def gE (f:Ef):Lf:=fun ρ=>(f ρ).bind zR0
theorem zZh {p:Pos}(hg:Gl X "list")(hm:X.mg "list"=none)(h:PF X a fa)(hs:starEach [a] X.env=[(false,eval a X.env)]:=by rfl):PFr X (.Call (.Name "list" p) [a] [] pos) (gE fa):=by
 refine PE.toR (qD zXK hg hm (by rfl) (yS h yB (by rw[hs];rfl)) (by decide) (by decide) (by rw[hs];rfl) (by rfl)) ?_
 rintro σ H Q ⟨G0,H0,G,ρ,d,good,hf,k⟩
 unfold gE at hf
 obtain⟨x,h1,hf⟩:=Option.bind_eq_some_iff.mp hf
 refine⟨G0,H0,G,ρ,_,good,h1,fun v H1 G1 s1 r1=>?_⟩
 unfold zR0 at hf
 split at hf
 · cases hf
   obtain⟨p,vs,rfl,q,rs⟩:=rep_lst.mp r1
   exact⟨p,vs,rfl,.inl (s1.sub.seq q),fun l hl=>k l vs _ G1 (s1.trans (Step.own s1.sub hl)) (s1.hh.free hl) z0 (s1.sub.free hl) rs⟩
 · cases hf
   obtain⟨p,vs,rfl,q,rs⟩:=rep_tup.mp r1
   exact⟨p,vs,rfl,.inr (s1.sub.tup q),fun l hl=>k l vs _ G1 (s1.trans (Step.own s1.sub hl)) (s1.hh.free hl) z0 (s1.sub.free hl) rs⟩
 · cases hf
theorem zWy:CallR X (.type "range") (fun xs H Q=>∃j,xs=[.int j]/\∀p,H p=none->Q (.ref p) (upd H p (.rng 0 j))):=by
 intro pins s σ H xs us Q I r h
 obtain⟨j,rfl,q⟩:=h
 obtain⟨u,rfl,ru⟩:=pR r
 obtain⟨t,rfl⟩:=ru
 refine call_range_1 ⟨.ref s.heap.objs.size,_,I.laid (o:=.rng 0 j) (fun b o e=>Heap.get?_push_of_some _ e) (Nat.le_refl _) ?_,rfl,q _ I.fresh⟩
 exact⟨_,_,_,Heap.get?_push_size _ rfl⟩
theorem bT (hc:X.calm=true):CallR X (.type "list") (fun xs H Q=>∃p j,xs=[.ref p]/\H p=some (.rng 0 j) /\ -1000000<=j/\j<=100000/\∀l,H l=none->Q (.ref l) (upd H l (.lst ((List.range j.toNat).map fun(i:Nat)=>V.int (0+(i:Nat)))))):=by
 intro pins s σ H xs us Q I r h
 obtain⟨p,j,rfl,hp,h1,h2,q⟩:=h
 obtain⟨u,rfl,ru⟩:=pR r
 cases ru
 obtain⟨t,u',v,e⟩:=(show ObjOk X.prog X.w H s.heap p (.rng 0 j) from I.hok p _ hp)
 have hsz:Builtin.Range.rangeSize 0 j 1=(j.toNat:Nat):=by rw[rangeSize_one];split<;>omega
 refine call_list_range (n:=j.toNat) (I.ok.hd hc) (show IsRange s.heap p 0 j 1 t u' v from e) (small_one (by omega) (by omega) (by omega) (by omega)) hsz (by omega) fun h' tk acc' c' hk hS hit=>?_
 have hvals:Vals ((List.range j.toNat).map fun(i:Nat)=>V.int (0+(i:Nat))) acc'.toList:=by
   have hl:acc'.toList.length=j.toNat:=by simpa using hit.1
   have gen:∀(l:List Value) (k:Nat),(∀i v,l[i]?=some v->∃t,v=Value.int (0+((k+i:Nat):Int)) t)->Vals ((List.range' k l.length).map fun(i:Nat)=>V.int (0+(i:Nat))) l:=by
     intro l
     induction l with
     | nil=>intro k _;exact .nil
     | cons y r ih =>
       intro k hh
       rw[List.length_cons,List.range'_succ,List.map_cons]
       refine .cons ?_ (ih (k+1) fun i v e=>?_)
       · obtain⟨t,e⟩:=hh 0 y rfl
         exact⟨t,by simpa using e⟩
       · obtain⟨t,e'⟩:=hh (i+1) v (by simpa using e)
         exact⟨t,by rw[e',show k+(i+1)=k+1+i by omega]⟩
   have:=gen acc'.toList 0 fun i v e=>by
     obtain⟨t,e'⟩:=hit.2 i v (by simpa using e)
     exact⟨t,by rw[e'];simp⟩
   rw[hl,←List.range_eq_range'] at this
   exact this
 refine⟨.ref s.heap.objs.size,_,I.laid (t':=tk) (o:=.lst _) hk (Nat.le_refl _) ?_,rfl,q _ I.fresh⟩
 exact⟨by rw[List.length_map,List.length_range];exact Nat.le_of_lt (wK (by show j.toNat<=100000;omega)),acc'.toList,c',hvals,by simpa using hS⟩
def zYm (f:Ef):Lf:=fun ρ=>(f ρ).bind fun d=>match d with | .int n=>if decide (-1000000<=n)&&decide (n<=100000) then some (tI 0 n.toNat) else none | _=>none
theorem zUd {K:PySem.W.Frag}{G:Hp}(n:Nat):Reps K G (tI 0 n) ((List.range n).map fun(i:Nat)=>V.int (0+(i:Nat))):=by
 unfold tI
 induction (List.range n) with
 | nil=>exact reps_nil.mpr rfl
 | cons x r ih=>exact reps_cons.mpr ⟨_,_,rfl,rep_int.mpr rfl,ih⟩
theorem zRz {p p1 p2:Pos}(hc:X.calm=true)(hg:Gl X "list")(hm:X.mg "list"=none)(hg':Gl X "range")(hm':X.mg "range"=none)(h:PF X a fa)(hs:starEach [a] X.env=[(false,eval a X.env)]:=by rfl)
   (hs2:starEach [.Call (.Name "range" p1) [a] [] p2] X.env=[(false,eval (.Call (.Name "range" p1) [a] [] p2) X.env)]:=by rfl) :
   PFr X (.Call (.Name "list" p) [.Call (.Name "range" p1) [a] [] p2] [] pos) (zYm fa):=by
 refine PE.toR (qD (bT hc) hg hm (by rfl) (yS (qD zWy hg' hm' (by rfl) (yS h yB (by rw[hs];rfl)) (by decide) (by decide) (by rw[hs];rfl) (by rfl)) yB (by rw[hs2];rfl)) (by decide) (by decide) (by rw[hs2];rfl) (by rfl)) ?_
 rintro σ H Q ⟨G0,H0,G,ρ,ds,good,hf,k⟩
 unfold zYm at hf
 obtain⟨d,h1,hf⟩:=Option.bind_eq_some_iff.mp hf
 cases d with
 | int n =>
   dsimp only at hf
   split at hf
   · rename_i hc
     cases hf
     simp only[Bool.and_eq_true,decide_eq_true_eq] at hc
     refine⟨G0,H0,G,ρ,_,good,h1,fun x H1 G1 s1 r1=>⟨n,by rw[rep_int.mp r1],fun p hp=>⟨p,n,rfl,z0,hc.1,hc.2,fun l hl=>?_⟩⟩⟩
     have s2:Step G1 H1 G1 (upd H1 p (.rng 0 n)):=Step.own s1.sub hp
     have s3:=Step.own (o:=.lst ((List.range n.toNat).map fun(i:Nat)=>V.int (0+(i:Nat)))) s2.sub hl
     exact k l _ _ G1 ((s1.trans s2).trans s3) ((s1.trans s2).hh.free hl) z0 (s2.sub.free hl) (zUd _)
   · cases hf
 | _=>cases hf
end
end L2
namespace L2
open PySem PySem.Spec PyProof.Rows
def spF (K:PySem.W.Frag)(n:Nat)(f:List D->Option D):Sp:=fun vs H Q _=>∃G ds d,Same G H/\Reps K G ds vs/\ds.length=n/\f ds=some d/\∀v H' G',Step G H G' H'->Rep K G' d v->Q v H'
def spL (K:PySem.W.Frag)(n:Nat)(f:List D->Option (List D)):Sp:=fun vs H Q _=>∃G ds es,Same G H/\Reps K G ds vs/\ds.length=n/\f ds=some es/\∀a us H' G',Step G H G' H'->H a=none->H' a=some (.lst us)->G' a=none->Reps K G' es us->Q (.ref a) H'
def sF (N:Nat)(ds:List D):List B:=ds.map .fz++List.replicate (N - ds.length) .no
def xC:Out->Option D
 | .nx _=>some .non
 | .rt d=>some d
 | .rl ds=>some (.lst ds)
 | _=>none
def zXF:Out->Option (List D)
 | .rl ds=>some ds
 | _=>none
def fnF (N:Nat)(body:Sf)(ds:List D):Option D:=(body (sF N ds)).bind xC
def fnL (N:Nat)(body:Sf)(ds:List D):Option (List D):=(body (sF N ds)).bind zXF
theorem bF {K:PySem.W.Frag}{G H:Hp}{N:List Str}{ds:List D}{vs:List V}(s:Same G H)(r:Reps K G ds vs):Good K G H G H (kU N vs) (sF N.length ds):=by
 refine⟨.refl s,?_,fun i j a es es' h1=>?_⟩
 · unfold kU sF
   rw[r.length]
   have rep:∀m:Nat,Paired (RB K H G H) (List.replicate m (none:Option V)) (List.replicate m B.no):=fun m=>by
     induction m with
     | zero=>exact .nil
     | succ n ih=>rw[List.replicate_succ,List.replicate_succ];exact .cons .no ih
   have key:∀(ds:List D) (vs:List V) (l:List (Option V)) (q:List B),Reps K G ds vs->Paired (RB K H G H) l q->Paired (RB K H G H) (vs.map some++l) (ds.map .fz++q):=by
     intro ds
     induction ds with
     | nil=>intro vs l q h p;rw[reps_nil] at h;subst h;exact p
     | cons d r ih =>
       intro vs l q h p
       obtain⟨v,vr,rfl,h1,h2⟩:=reps_cons.mp h
       exact .cons (.fz h1) (ih vr l q h2 p)
   exact key ds vs _ _ r (rep _)
 · unfold sF at h1
   by_cases hi:i < ds.length
   · rw[List.getElem?_append_left (by simpa using hi),List.getElem?_map] at h1
     obtain⟨k,_,h1⟩:=Option.map_eq_some_iff.mp h1
     cases h1
   · rw[List.getElem?_append_right (by simpa using hi),List.getElem?_replicate] at h1
     split at h1<;>cases h1
section
variable {P:Program} {w:World} {K:PySem.W.Frag} {mg:Str->Option Value} {base:Heap} {x qual:Str} {st:Stmt} {f:Addr} {fd:FuncData} {N ps:List Str} {k:Nat}
theorem xU {body:Sf}(F:Fun K x qual st f fd)(S:FnScope N ps (zX st))
   (hb:∀(cdv:Value) (A:Around) (outer:List Env) (s:Shared) (H:Hp) (E:XK),Room k (A.deeper (envOfC qual (zX st) s.heap.objs.size f cdv))->aP (zXn CX0 P w K mg base N qual (zX st) f cdv A outer s H E).nox (zQ st) body) :
   FnOk P w K mg base CX0 (k+1) f fd ps (spF K ps.length (fnF N.length body)):=by
 refine F.ok S (fun vs H Q E h=>?_) (fun cdv A outer s H vs Q E hr h=>⟨_,hb cdv A outer s H E hr,?_⟩)
 · obtain⟨G,ds,d,sub,rs,hl,_⟩:=h
   rw[←rs.length];exact hl
 · obtain⟨G,ds,d,sub,rs,hl,hf,k⟩:=h
   unfold fnF at hf
   obtain⟨o,h1,h2⟩:=Option.bind_eq_some_iff.mp hf
   refine⟨G,H,G,_,o,bF sub rs,h1,?_⟩
   cases o with
   | nx ρ=>cases h2;exact fun σ' H' G' s' g'=>k .non H' G' g'.st (rep_non.mpr rfl)
   | rt e=>cases h2;exact fun v H' G' s' r=>k v H' G' s' r
   | rl es=>cases h2;exact fun p us H' G' s' hn hp gp r=>k _ H' (upd G' p (.lst us)) (s'.frz hn hp gp) (rep_lst.mpr ⟨p,us,rfl,.of z0,r.mono (Same.new gp)⟩)
   | bk ρ=>cases h2
   | ct ρ=>cases h2
theorem jR {body:Sf}(F:Fun K x qual st f fd)(S:FnScope N ps (zX st))
   (hb:∀(cdv:Value) (A:Around) (outer:List Env) (s:Shared) (H:Hp) (E:XK),Room k (A.deeper (envOfC qual (zX st) s.heap.objs.size f cdv))->aP (zXn CX0 P w K mg base N qual (zX st) f cdv A outer s H E).nox (zQ st) body) :
   FnOk P w K mg base CX0 (k+1) f fd ps (spL K ps.length (fnL N.length body)):=by
 refine F.ok S (fun vs H Q E h=>?_) (fun cdv A outer s H vs Q E hr h=>⟨_,hb cdv A outer s H E hr,?_⟩)
 · obtain⟨G,ds,d,sub,rs,hl,_⟩:=h
   rw[←rs.length];exact hl
 · obtain⟨G,ds,d,sub,rs,hl,hf,k⟩:=h
   unfold fnL at hf
   obtain⟨o,h1,h2⟩:=Option.bind_eq_some_iff.mp hf
   refine⟨G,H,G,_,o,bF sub rs,h1,?_⟩
   cases o with
   | rl es=>cases h2;exact fun p us H' G' s' hn hp gp r=>k p us H' G' s' hn hp gp r
   | _=>cases h2
theorem zRv {CX:CXT}{n:Nat}:FnOk P w K mg base CX k f fd ps (spF K n fun _=>none) :=
 ⟨fun vs H Q E h=>(by obtain⟨_,_,_,_,_,_,z,_⟩:=h;exact nomatch z),fun A outer s H args us vs Q E _ _ _ _ h=>(by obtain⟨_,_,_,_,_,_,z,_⟩:=h;exact nomatch z)⟩
end
section
variable {X:Cx} {a b c e tg elt iter:Expr} {es ifs:List Expr} {fa fb fc:Ef} {ga gi:Lf} {ta tc:Tf} {pos p:Pos} {st:Stmt} {sts rest:List Stmt} {f g:Sf}
def zO (n:Nat)(f:List D->Option D)(g:Lf):Ef:=fun ρ=>(g ρ).bind fun ds=>if ds.length=n then f ds else none
theorem zJ {k n:Nat}{fad:Addr}{fd:FuncData}{ps:List Str}{x:Str}{fD:List D->Option D}(F:FnOk X.prog X.w X.K X.mg X.base CX0 k fad fd ps (spF X.K n fD))(hr:Room k X.A)(hm:X.mg x=some (.ref fad))(hk:PySem.W.keepIn X.K (.ref fad)=true)(hb:Binds X.K fd ps [])(hg:Gl X x)
   (ha:PFA X (e::es) ga) (hdb:(x==("__debug__":Str))=false:=by decide) (he:starEach (e::es) X.env=(false,eval e X.env)::starEach es X.env:=by rfl) (hpl:(backTo pos (starEach es X.env)).any (·.1)=false:=by rfl) :
   PF X (.Call (.Name x p) (e::es) [] pos) (zO n fD ga):=by
 refine PE.to (zUv (E:=E0) F hr hg hm hk hb .nil zSy ha hdb he hpl) ?_
 rintro σ H Q ⟨G0,H0,G,ρ,d,good,hf,k⟩
 unfold zO at hf
 obtain⟨ds,h1,hf⟩:=Option.bind_eq_some_iff.mp hf
 split at hf
 · rename_i hl
   refine⟨G0,H0,G,ρ,_,good,h1,fun vs H1 G1 s1 r1=>?_⟩
   show spF X.K n fD (vs++[]) H1 Q E0
   rw[List.append_nil]
   exact⟨G1,ds,d,s1.sub,r1,hl,hf,fun v H' G' s r=>k v H' G' (s1.trans s) r⟩
 · cases hf
def wZ (n:Nat)(f:List D->Option (List D))(g:Lf):Lf:=fun ρ=>(g ρ).bind fun ds=>if ds.length=n then f ds else none
theorem rO {k n:Nat}{fad:Addr}{fd:FuncData}{ps:List Str}{x:Str}{fD:List D->Option (List D)}(F:FnOk X.prog X.w X.K X.mg X.base CX0 k fad fd ps (spL X.K n fD))(hr:Room k X.A)(hm:X.mg x=some (.ref fad))(hk:PySem.W.keepIn X.K (.ref fad)=true)(hb:Binds X.K fd ps [])(hg:Gl X x)
   (ha:PFA X (e::es) ga) (hdb:(x==("__debug__":Str))=false:=by decide) (he:starEach (e::es) X.env=(false,eval e X.env)::starEach es X.env:=by rfl) (hpl:(backTo pos (starEach es X.env)).any (·.1)=false:=by rfl) :
   PFr X (.Call (.Name x p) (e::es) [] pos) (wZ n fD ga):=by
 refine PE.toR (zUv (E:=E0) F hr hg hm hk hb .nil zSy ha hdb he hpl) ?_
 rintro σ H Q ⟨G0,H0,G,ρ,d,good,hf,k⟩
 unfold wZ at hf
 obtain⟨ds,h1,hf⟩:=Option.bind_eq_some_iff.mp hf
 split at hf
 · rename_i hl
   refine⟨G0,H0,G,ρ,_,good,h1,fun vs H1 G1 s1 r1=>?_⟩
   show spL X.K n fD (vs++[]) H1 Q E0
   rw[List.append_nil]
   exact⟨G1,ds,d,s1.sub,r1,hl,hf,fun p us H' G' s hn hp gp r=>k p us H' G' (s1.trans s) (s1.hh.free hn) hp gp r⟩
 · cases hf
def vN (t:Tf)(body:Sf):Nat->Sf
 | 0,_=>none
 | n+1,ρ=>(t ρ).bind fun c=>if c=true then(body ρ).bind fun o=>match o with
     | .nx ρ2=>vN t body n ρ2
     | .ct ρ2=>vN t body n ρ2
     | .bk ρ2=>some (.nx ρ2)
     | o=>some o
   else some (.nx ρ)
theorem eG (n:Nat){body:List Stmt}{fb:Sf}(hp:PassesOwn (model X.prog X.w) X.A X.env X.xe)(hc:PFT X c tc)(hb:aP X body fb):PFS X (.While c body [] pos) (vN tc fb n):=by
 refine PS.to (zSe hp hc hb) ?_
 rintro D σ H ⟨G0,H0,G,ρ,o,good,hf,k⟩
 refine⟨fun m σ H=>∃G2 ρ2,Same G G2/\Good X.K G0 H0 G2 H σ ρ2/\vN tc fb m ρ2=some o,⟨n,G,ρ,Same.refl _,good,hf⟩,?_⟩
 rintro m σ2 H2 ⟨G2,ρ2,sg,good2,hf2⟩
 cases m with
 | zero=>cases hf2
 | succ m =>
   unfold vN at hf2
   obtain⟨c',h1,hf2⟩:=Option.bind_eq_some_iff.mp hf2
   refine⟨G0,H0,G2,ρ2,c',good2,h1,fun H3 G3 s3=>?_⟩
   cases c' with
   | true =>
     rw[if_pos rfl] at hf2
     obtain⟨o1,e2,hf2⟩:=Option.bind_eq_some_iff.mp hf2
     refine⟨fun σ' H'=>∃G2 ρ2,Same G G2/\Good X.K G0 H0 G2 H' σ' ρ2/\vN tc fb m ρ2=some o,fun σ' H' h=>⟨m,Nat.lt_succ_self _,h⟩,?_⟩
     refine⟨G0,H0,G3,ρ2,o1,good2.step s3,e2,?_⟩
     have sg3:Same G G3:=sg.trans s3.gg
     cases o1 with
     | nx ρ5=>exact fun σ5 H5 G5 s5 good5=>⟨G5,ρ5,sg3.trans s5,good5,hf2⟩
     | ct ρ5=>exact fun σ5 H5 G5 s5 good5=>⟨G5,ρ5,sg3.trans s5,good5,hf2⟩
     | bk ρ5=>cases hf2;exact fun σ5 H5 G5 s5 good5=>k σ5 H5 G5 (sg3.trans s5) good5
     | rt d=>cases hf2;exact k
     | rl d=>cases hf2;exact k
   | false =>
     rw[if_neg (by decide)] at hf2
     cases hf2
     exact k σ2 H3 G3 (sg.trans s3.gg) (good2.step s3)
def tyD:D->Option String
 | .non=>some "NoneType"
 | .bl _=>some "bool"
 | .int _=>some "int"
 | .str _=>some "str"
 | .tup _=>some "tuple"
 | .lst _=>some "list"
 | _=>none
theorem zOd {pins:List (Addr×Obj)}{σ:St}{H G:Hp}{s:Shared}{A:Around}{E:Value->Shared->Prop}{Q:Value->Shared->Prop}{d:D}{v:V}{u cl:Value}{t:String}{k:Bool}(I:Inv X pins σ H s)(rv:RelV v u)(sub:Same G H)(r:Rep X.K G d v)(ht:tyD d=some t)
   (e:PySem.W.kitOne X.K (.type t) cl=some k) (h:∀tk,Q (.bool k) { s with toks:=tk }):wpAny (model X.prog X.w) A (call (.builtin "isinstance") [u,cl]) Q E s:=by
 cases d with
 | non=>cases ht;rw[rep_non] at r;subst r;cases rv;exact PySem.W.kia_one PySem.W.kitx_none I.kIn True.intro e (fun z=>nomatch z) h
 | bl y=>cases ht;rw[rep_bl] at r;subst r;cases rv;exact PySem.W.kia_one PySem.W.kitx_bool I.kIn True.intro e (fun z=>nomatch z) h
 | int i=>cases ht;rw[rep_int] at r;subst r;obtain⟨t,rfl⟩:=rv;exact PySem.W.kia_one PySem.W.kitx_int I.kIn True.intro e (fun z=>nomatch z) h
 | str i=>cases ht;rw[rep_str] at r;subst r;obtain⟨t,rfl⟩:=rv;exact PySem.W.kia_one PySem.W.kitx_str I.kIn True.intro e (fun z=>nomatch z) h
 | tup ds =>
   cases ht
   obtain⟨p,vs,rfl,q,_⟩:=rep_tup.mp r
   cases rv
   obtain⟨its,_,⟨o,h1,h2,_⟩,_⟩:=I.tuple (sub.tup q)
   exact PySem.W.kia_one PySem.W.kitx_tuple I.kIn ⟨o,h1,h2⟩ e (fun z=>nomatch z) h
 | lst ds =>
   cases ht
   obtain⟨p,vs,rfl,q,_⟩:=rep_lst.mp r
   cases rv
   obtain⟨its,_,⟨o,n,h1,h2,_⟩,_⟩:=I.list (sub.seq q)
   exact PySem.W.kia_one PySem.W.kitx_list I.kIn ⟨o,h1,h2⟩ e (fun z=>nomatch z) h
 | obj C ns ds=>cases ht
 | exc C ns ds=>cases ht
theorem zQV (K:PySem.W.Frag):∀t:String,t∈["NoneType","bool","int","str","tuple","list"]->PySem.W.kitOne K (.type t) (.type "int")=some (decide (t="bool"∨t="int")):=by
 intro t ht
 simp only[List.mem_cons,List.not_mem_nil,or_false] at ht
 rcases ht with rfl | rfl | rfl | rfl | rfl | rfl<;>kernel_rfl
theorem zRQ (K:PySem.W.Frag):∀t:String,t∈["NoneType","bool","int","str","tuple","list"]->PySem.W.kitOne K (.type t) (.type "bool")=some (decide (t="bool")):=by
 intro t ht
 simp only[List.mem_cons,List.not_mem_nil,or_false] at ht
 rcases ht with rfl | rfl | rfl | rfl | rfl | rfl<;>kernel_rfl
theorem zQy (K:PySem.W.Frag):∀t:String,t∈["NoneType","bool","int","str","tuple","list"]->PySem.W.kitOne K (.type t) (.type "str")=some (decide (t="str")):=by
 intro t ht
 simp only[List.mem_cons,List.not_mem_nil,or_false] at ht
 rcases ht with rfl | rfl | rfl | rfl | rfl | rfl<;>kernel_rfl
theorem zT7 (K:PySem.W.Frag):∀t:String,t∈["NoneType","bool","int","str","tuple","list"]->PySem.W.kitOne K (.type t) (.type "tuple")=some (decide (t="tuple")):=by
 intro t ht
 simp only[List.mem_cons,List.not_mem_nil,or_false] at ht
 rcases ht with rfl | rfl | rfl | rfl | rfl | rfl<;>kernel_rfl
theorem zSQ (K:PySem.W.Frag):∀t:String,t∈["NoneType","bool","int","str","tuple","list"]->PySem.W.kitOne K (.type t) (.type "list")=some (decide (t="list")):=by
 intro t ht
 simp only[List.mem_cons,List.not_mem_nil,or_false] at ht
 rcases ht with rfl | rfl | rfl | rfl | rfl | rfl<;>kernel_rfl
theorem fU {d:D}{t:String}(h:tyD d=some t):t∈["NoneType","bool","int","str","tuple","list"]:=by
 cases d<;>cases h<;>simp
def uA (p:D->Bool)(f:Ef):Ef:=fun ρ=>(f ρ).bind fun d=>match d with | .obj _ _ _=>none | .exc _ _ _=>none | d=>some (.bl (p d))
def isInt:D->Bool | .int _=>true | .bl _=>true | _=>false
def qN:D->Bool | .bl _=>true | _=>false
def mP:D->Bool | .str _=>true | _=>false
def oG:D->Bool | .tup _=>true | _=>false
def lC:D->Bool | .lst _=>true | _=>false
theorem tD {T:Str}{TT:String}{q:D->Bool}{p1:Pos}(hT:bootBuiltins T=some (.type TT))(hq:∀(K:PySem.W.Frag) d t,tyD d=some t->PySem.W.kitOne K (.type t) (.type TT)=some (q d))(hg:Gl X "isinstance")(hm:X.mg "isinstance"=none)(hgT:Gl X T)(hmT:X.mg T=none)(h:PF X a fa)
   (hn:T≠"__name__":=by decide) (hd:(T==("__debug__":Str))=false:=by decide) (hs:starEach [a,.Name T p1] X.env=[(false,eval a X.env),(false,eval (.Name T p1) X.env)]:=by rfl):PF X (.Call (.Name "isinstance" p) [a,.Name T p1] [] pos) (uA q fa):=by
 have hcall:CallR X (.builtin "isinstance") (fun xs H Q=>∃x G d,xs=[x,.ty TT]/\Same G H/\Rep X.K G d x/\(tyD d).isSome=true/\Q (.bl (q d)) H):=by
   intro pins s σ H xs us Q I r hh
   obtain⟨x,G,d,rfl,sub,rx,ht,qq⟩:=hh
   obtain⟨u,u',rfl,ru,ru'⟩:=zRH r
   cases ru'
   obtain⟨t,ht⟩:=Option.isSome_iff_exists.mp ht
   exact zOd I ru sub rx ht (hq _ d t ht) fun tk=>⟨.bl (q d),H,I.tok tk,rfl,qq⟩
 refine PE.to (oS hcall hg hm (by rfl) (yS h (yS (zQx (v:=.ty TT) hgT hmT hT rfl hn hd) yB) (by rw[hs];rfl)) (by decide) (by decide) (by rw[hs];rfl) (by rfl)) ?_
 rintro σ H Q ⟨G0,H0,G,ρ,d,good,hf,k⟩
 unfold uA at hf
 obtain⟨x,h1,hf⟩:=Option.bind_eq_some_iff.mp hf
 refine⟨G0,H0,G,ρ,_,good,h1,fun v H1 G1 s1 r1=>?_⟩
 have hx:(tyD x).isSome=true/\d = .bl (q x):=by
   cases x<;>first
     | (cases hf;exact⟨rfl,rfl⟩)
     | cases hf
 obtain⟨hx,rfl⟩:=hx
 exact⟨v,G1,x,rfl,s1.sub,r1,hx,k _ _ G1 s1 (rep_bl.mpr rfl)⟩
theorem zX3 (K:PySem.W.Frag)(d:D)(t:String)(h:tyD d=some t):PySem.W.kitOne K (.type t) (.type "int")=some (isInt d):=by
 rw[zQV K t (fU h)];cases d<;>cases h<;>simp[isInt,qN,mP,oG,lC]
theorem zXz (K:PySem.W.Frag)(d:D)(t:String)(h:tyD d=some t):PySem.W.kitOne K (.type t) (.type "bool")=some (qN d):=by
 rw[zRQ K t (fU h)];cases d<;>cases h<;>simp[isInt,qN,mP,oG,lC]
theorem zSD (K:PySem.W.Frag)(d:D)(t:String)(h:tyD d=some t):PySem.W.kitOne K (.type t) (.type "str")=some (mP d):=by
 rw[zQy K t (fU h)];cases d<;>cases h<;>simp[isInt,qN,mP,oG,lC]
theorem zVC (K:PySem.W.Frag)(d:D)(t:String)(h:tyD d=some t):PySem.W.kitOne K (.type t) (.type "tuple")=some (oG d):=by
 rw[zT7 K t (fU h)];cases d<;>cases h<;>simp[isInt,qN,mP,oG,lC]
theorem zSn (K:PySem.W.Frag)(d:D)(t:String)(h:tyD d=some t):PySem.W.kitOne K (.type t) (.type "list")=some (lC d):=by
 rw[zSQ K t (fU h)];cases d<;>cases h<;>simp[isInt,qN,mP,oG,lC]
def zVQ:List D->Option (List Bool)
 | []=>some []
 | .bl k::r=>(zVQ r).map fun ks=>k::ks
 | _=>none
def zTZ (f:Ef):Ef:=fun ρ=>(f ρ).bind fun d=>match d with | .lst ds=>(zVQ ds).map fun ks=>.bl (ks.all id) | _=>none
theorem zTe (hc:X.calm=true):CallR X (.builtin "all") (fun xs H Q=>∃(p:Addr) (ks:List Bool),xs=[V.ref p]/\SqL X.K H p (ks.map V.bl)/\Q (.bl (ks.all id)) H):=by
 intro pins s σ H xs us Q I r h
 obtain⟨p,ks,rfl,hq,q⟩:=h
 obtain⟨u,rfl,ru⟩:=pR r
 cases ru
 obtain⟨its,rv,pl,hz⟩:=I.list hq
 have hks:∀(i:Nat) (v:Value),its[i]?=some v->∃k,ks[i]?=some k/\v=Value.bool k:=fun i v e=>by
   have hi:i < ks.length:=by have:=rv.length;rw[List.length_map] at this;rw[this];exact(List.getElem?_eq_some_iff.mp e).1
   obtain⟨u,e1,r1⟩:=rv.get (i:=i) (x:=.bl ks[i]) (by rw[List.getElem?_map,List.getElem?_eq_getElem hi];rfl)
   rw[e] at e1;cases e1
   exact⟨ks[i],List.getElem?_eq_getElem hi,r1⟩
 have hlen:its.length=ks.length:=by have:=rv.length;rw[List.length_map] at this;exact this.symm
 refine call_all_walk (wpAny_pyIter_list pl.isList ?_)
 have hne:p≠s.heap.objs.size:=by obtain⟨o,_,e,_⟩:=pl;exact Nat.ne_of_lt (Heap.lt_size e)
 refine⟨s.heap.objs.size,_,_,_,_,_,fun i=>(ks[i]?).getD true,rfl,Walks.list (A:=X.A.in1) (I.ok.hd hc) s.heap.objs.size p hne its.toArray,⟨⟨_,Heap.get?_push_size _ rfl,rfl,rfl⟩,pl.isList.push _⟩,?_,fun h' tk hk=>?_⟩
 · intro i v s' Q' E' hv hQ'
   obtain⟨k,e1,rfl⟩:=hks i v (by simpa using hv)
   have hQ2:Q' ((ks[i]?).getD true) s':=hQ'
   rw[e1] at hQ2
   exact wpAny_truthy_bool hQ2
 · have hI:Inv X pins σ H { s with heap:=h',toks:=tk }:=I.kept fun b o e=>hk b o (by simp;exact Nat.ne_of_lt (Heap.lt_size e)) (Heap.get?_push_of_some _ e)
   have e:((List.range its.toArray.size).all fun i=>(ks[i]?).getD true)=ks.all id:=by
     rw[List.size_toArray,hlen]
     rw[Bool.eq_iff_iff]
     simp only[List.all_eq_true,List.mem_range,id]
     constructor
     · intro h x hx
       obtain⟨i,hi,rfl⟩:=List.getElem_of_mem hx
       have:=h i hi
       rw[List.getElem?_eq_getElem hi] at this
       exact this
     · intro h i hi
       rw[List.getElem?_eq_getElem hi]
       exact h _ (List.getElem_mem hi)
   rw[e]
   exact⟨.bl (ks.all id),H,hI,rfl,q⟩
theorem zWX {K:PySem.W.Frag}{G:Hp}:∀ {ds:List D} {vs:List V} {ks:List Bool},zVQ ds=some ks->Reps K G ds vs->vs=ks.map V.bl
 | [],_,_,h,r=>by cases h;rw[reps_nil] at r;rw[r];rfl
 | d::t,_,_,h,r=>by
   unfold zVQ at h
   split at h
   · rename_i h';cases h'
   · rename_i k t' h'
     cases h'
     obtain⟨v,vr,rfl,r1,r2⟩:=reps_cons.mp r
     obtain⟨ks,h1,rfl⟩:=Option.map_eq_some_iff.mp h
     rw[zWX h1 r2,rep_bl.mp r1];rfl
   · cases h
theorem zSm (hc:X.calm=true)(hg:Gl X "all")(hm:X.mg "all"=none)(h:PF X a fa)(hs:starEach [a] X.env=[(false,eval a X.env)]:=by rfl):PF X (.Call (.Name "all" p) [a] [] pos) (zTZ fa):=by
 refine PE.to (oS (zTe hc) hg hm (by rfl) (yS h yB (by rw[hs];rfl)) (by decide) (by decide) (by rw[hs];rfl) (by rfl)) ?_
 rintro σ H Q ⟨G0,H0,G,ρ,d,good,hf,k⟩
 unfold zTZ at hf
 obtain⟨x,h1,hf⟩:=Option.bind_eq_some_iff.mp hf
 cases x with
 | lst ds =>
   dsimp only at hf
   obtain⟨ks,h2,rfl⟩:=Option.map_eq_some_iff.mp hf
   refine⟨G0,H0,G,ρ,_,good,h1,fun v H1 G1 s1 r1=>?_⟩
   obtain⟨p,vs,rfl,q,rs⟩:=rep_lst.mp r1
   have e:=zWX h2 rs
   subst e
   exact⟨p,ks,rfl,s1.sub.seq q,k _ _ G1 s1 (rep_bl.mpr rfl)⟩
 | _=>cases hf
end
end L2
namespace L2
open PySem PySem.Spec PyProof.Rows
theorem Inv.turnedNew {X:Cx}{pins:List (Addr×Obj)}{σ:St}{H:Hp}{s:Shared}{h':Heap}{t':Nat}{fp:List Addr}{T:Addr}{o:HO}(I:Inv X pins σ H s)(k:∀b u,b∉fp->s.heap.get? b=some u->h'.get? b=some u)
   (hf:∀b∈fp,mN X pins H b) (hT:s.heap.objs.size<=T) (new:ObjOk X.prog X.w (upd H T o) h' T o):Inv X pins σ (upd H T o) { s with heap:=h',toks:=t' }:=by
 have fr:H T=none:=I.hok.fresh hT
 have neT:∀b u,s.heap.get? b=some u->b≠T:=fun b u e=>Nat.ne_of_lt (Nat.lt_of_lt_of_le (Heap.lt_size e) hT)
 have nfp:∀b u,H b=some u->b∉fp:=fun b u e z=>by have:=(hf b z).1;rw[e] at this;cases this
 refine I.step (g':=s.gens) (d':=s.drawn) (ch:=fp) (fun b hb=>⟨(hf b hb).2.2.2.1,(hf b hb).2.1,(hf b hb).2.2.2.2.1,(hf b hb).2.2.2.2.2⟩) (fun b u _ _ hc e _=>k b u hc e)
   (fun b u _ _ hc e _=>⟨u.slots,k b u hc e⟩) (fun b u _ e n=>by rw[yP (neT b u e)];exact n) (fun b u hc e=>⟨u,k b u hc e⟩)
   (fun b xs e=>by rw[yP (yE e fr)];exact e) (fun b u x e=>by rw[yP (yE e fr)];exact e) (fun b ps e=>⟨#[],by rw[yP (yE e fr),e];simp⟩) (fun m hm=>?_) (fun b u e=>?_) I.bare
 · obtain⟨ob,es,ep,ho,r⟩:=hm
   exact⟨ob,es,ep,k _ ob (fun z=>(hf _ z).2.1 rfl) ho,r⟩
 · by_cases hb:b=T
   · subst hb;rw[z0] at e;cases e;exact new
   · rw[yP hb] at e
     refine(I.hok b u e).stay (fun c v hc q=>k c v ?_ q) (fun c q=>by rw[yP (yE q fr)];exact q) fun c xs q=>by rw[yP (yE q fr)];exact q
     rcases hc with z | z
     · rw[z];exact nfp b u e
     · exact nfp c _ z
theorem Inv.turnedL {X:Cx}{pins:List (Addr×Obj)}{σ:St}{H:Hp}{s:Shared}{h':Heap}{t':Nat}{fp:List Addr}(I:Inv X pins σ H s)(k:∀b u,b∉fp->s.heap.get? b=some u->h'.get? b=some u)
   (hf:∀b∈fp,mN X pins H b):Inv X pins σ H { s with heap:=h',toks:=t' }:=by
 have nfp:∀b u,H b=some u->b∉fp:=fun b u e z=>by have:=(hf b z).1;rw[e] at this;cases this
 refine I.step (g':=s.gens) (d':=s.drawn) (ch:=fp) (fun b hb=>⟨(hf b hb).2.2.2.1,(hf b hb).2.1,(hf b hb).2.2.2.2.1,(hf b hb).2.2.2.2.2⟩) (fun b u _ _ hc e _=>k b u hc e)
   (fun b u _ _ hc e _=>⟨u.slots,k b u hc e⟩) (fun b u _ e n=>n) (fun b u hc e=>⟨u,k b u hc e⟩) (fun b xs e=>e) (fun b u x e=>e) (fun b ps e=>⟨#[],by rw[e];simp⟩) (fun m hm=>?_) (fun b u e=>?_) I.bare
 · obtain⟨ob,es,ep,ho,r⟩:=hm
   exact⟨ob,es,ep,k _ ob (fun z=>(hf _ z).2.1 rfl) ho,r⟩
 · refine(I.hok b u e).stay (fun c v hc q=>k c v ?_ q) (fun c q=>q) fun c xs q=>q
   rcases hc with z | z
   · rw[z];exact nfp b u e
   · exact nfp c _ z
section
variable {X:Cx} {a b c e tg elt iter:Expr} {es ifs:List Expr} {fa fb fc:Ef} {ga gb gi:Lf} {ta tc:Tf} {pos p:Pos} {st:Stmt}
def numbered (ds:List D):List D:=ds.zipIdx.map fun q=>D.tup [.int (q.2:Nat),q.1]
def zSx (K:PySem.W.Frag)(f:Lf):TE:=fun σ H Q=>∃G0 H0 G ρ ds,Good K G0 H0 G H σ ρ/\f ρ=some ds/\∀a vs H' G',Step G H G' H'->SqL K G' a vs->Reps K G' ds vs->Q (.ref a) H'
def zYi (X:Cx)(e:Expr)(f:Lf):Prop:=PE X e (zSx X.K f)
theorem bE (h:PFr X e ga):zYi X e ga:=fun pins s σ H Q I q=>h pins s σ H Q I (by
 obtain⟨G0,H0,G,ρ,ds,good,hf,k⟩:=q
 exact⟨G0,H0,G,ρ,ds,good,hf,fun p vs H' G' s hn hp gp rs=>k p vs H' (upd G' p (.lst vs)) (s.frz hn hp gp) (.of z0) (rs.mono (Same.new gp))⟩)
theorem fV (h:PF X e fa):zYi X e (iL fa):=fun pins s σ H Q I q=>h pins s σ H Q I (by
 obtain⟨G0,H0,G,ρ,ds,good,hf,k⟩:=q
 unfold iL at hf
 obtain⟨d,h1,hf⟩:=Option.bind_eq_some_iff.mp hf
 cases d with
 | lst es =>
   cases hf
   refine⟨G0,H0,G,ρ,_,good,h1,fun x H1 G1 s1 r1=>?_⟩
   obtain⟨p,vs,rfl,q,rs⟩:=rep_lst.mp r1
   exact k p vs H1 G1 s1 q rs
 | _=>cases hf)
def hG (f g:Lf):Lf:=fun ρ=>(f ρ).bind fun xs=>(g ρ).bind fun ys=>okL (xs++ys)
theorem zRK (ha:PFr X a ga)(hb:PFr X b gb):PFr X (.BinOp a .Add b pos) (hG ga gb):=by
 refine PE.toR (aZ zPl ha hb) ?_
 rintro σ H Q ⟨G0,H0,G,ρ,d,good,hf,k⟩
 unfold hG at hf
 obtain⟨xs,h1,hf⟩:=Option.bind_eq_some_iff.mp hf
 obtain⟨ys,h2,hf⟩:=Option.bind_eq_some_iff.mp hf
 obtain⟨rfl,h3⟩:=gQ hf
 refine⟨G0,H0,G,ρ,_,good,h1,fun p vs H1 G1 s1 hn hp gp rs=>⟨G0,H0,G1,ρ,_,good.step s1,h2,fun q us H2 G2 s2 hn2 hq gq rs2=>?_⟩⟩
 refine⟨p,q,vs,us,rfl,rfl,s2.hh _ _ hp,hq,?_,fun l hl=>?_⟩
 · rw[←rs.length,←rs2.length,←List.length_append];exact Nat.le_of_lt (wK h3)
 · have s3:=Step.own (o:=.lst (vs++us)) s2.sub hl
   exact k l _ _ G2 ((s1.trans s2).trans s3) ((s1.trans s2).hh.free hl) z0 (s2.sub.free hl) ((rs.mono s2.gg).append rs2)
abbrev Of:=List B->Option (Option Int)
def tFO (K:PySem.W.Frag)(f:Of):TO:=fun σ H Q=>∃G0 H0 G ρ o,Good K G0 H0 G H σ ρ/\f ρ=some o/\∀H' G',Step G H G' H'->Q o H'
def PFO (X:Cx)(e:Option Expr)(f:Of):Prop:=PO X e (tFO X.K f)
def oNo:Of:=fun _=>some none
def qM (f:Ef):Of:=fun ρ=>(f ρ).bind fun d=>match d with | .int i=>some (some i) | _=>none
theorem zNT:PFO X none oNo:=fun pins s σ H Q I h=>zRl pins s σ H Q I (by
 obtain⟨G0,H0,G,ρ,o,good,hf,k⟩:=h
 cases hf
 exact k H G (.refl good.sub))
theorem zYM (h:PF X e fa):PFO X (some e) (qM fa):=fun pins s σ H Q I q=>zQ1 h pins s σ H Q I (by
 obtain⟨G0,H0,G,ρ,o,good,hf,k⟩:=q
 unfold qM at hf
 obtain⟨d,h1,hf⟩:=Option.bind_eq_some_iff.mp hf
 cases d with
 | int i=>cases hf;exact⟨G0,H0,G,ρ,_,good,h1,fun v H' G' s r=>⟨i,rep_int.mp r,k H' G' s⟩⟩
 | _=>cases hf)
def zQ7 (xs:List D)(lo hi:Option Int):List D:=(xs.drop (HT.sIx xs.length 0 lo)).take (HT.sIx xs.length xs.length hi - HT.sIx xs.length 0 lo)
def lJ (f:Ef)(lo hi:Of):Lf:=fun ρ=>(f ρ).bind fun d=>(lo ρ).bind fun l=>(hi ρ).bind fun u=>match d with | .lst ds=>some (zQ7 ds l u) | _=>none
theorem zXj {lo hi:Option Expr}{fl fh:Of}{p2:Pos}(ha:PF X a fa)(hl:PFO X lo fl)(hh:PFO X hi fh):PFr X (.Subscript a (.Slice lo hi none p2) pos) (lJ fa fl fh):=by
 refine PE.toR (zSf zQq ha hl hh) ?_
 rintro σ H Q ⟨G0,H0,G,ρ,d,good,hf,k⟩
 unfold lJ at hf
 obtain⟨x,h1,hf⟩:=Option.bind_eq_some_iff.mp hf
 obtain⟨l,h2,hf⟩:=Option.bind_eq_some_iff.mp hf
 obtain⟨u,h3,hf⟩:=Option.bind_eq_some_iff.mp hf
 cases x with
 | lst ds =>
   cases hf
   refine⟨G0,H0,G,ρ,_,good,h1,fun v H1 G1 s1 r1=>⟨G0,H0,G1,ρ,_,good.step s1,h2,fun H2 G2 s2=>⟨G0,H0,G2,ρ,_,(good.step s1).step s2,h3,fun H3 G3 s3=>?_⟩⟩⟩
   obtain⟨q,vs,rfl,hq,rs⟩:=rep_lst.mp r1
   have s23:=s2.trans s3
   refine⟨q,vs,rfl,s23.hh |> fun z=>(s1.sub.trans z).seq hq,fun p hp=>?_⟩
   have s4:=Step.own (o:=.lst (zTJ vs l u)) s23.sub hp
   refine k p _ _ G3 ((s1.trans s23).trans s4) ((s1.trans s23).hh.free hp) z0 (s23.sub.free hp) ?_
   unfold zTJ zQ7
   rw[←rs.length]
   exact((rs.mono s23.gg).drop _).take _
 | _=>cases hf
end
end L2
namespace L2
open PySem PySem.Spec PyProof.Rows
section
variable {prog:Program} {w:World} {A:Around} {E:Value->Shared->Prop} {s:Shared}
theorem iC {it t:Addr}{i:Nat}{items:Array Value}{x:Value}{Q:Value->Shared->Prop}(hit:s.heap.IsTupleIter it t i)(ht:s.heap.IsTuple t items)(hx:items[i]?=some x)
   (hQ:∀h',h'.IsTupleIter it t (i+1)->Heap.SameBut it s.heap h'->Q x { s with heap:=h' }):wpAny (model prog w) A (Builtin.SmallTypes.nextOf (.ref it)) Q E s:=by
 obtain⟨o,h1,h2,h3⟩:=id hit
 obtain⟨ot,t1,_,n,t2⟩:=ht
 unfold Builtin.SmallTypes.nextOf
 refine wpAny_bind (wpAny_callSpecial?_slot (name:=Str.ofString "__next__") hit.typeIs F.slot_tuple_iterator_next (wpAny_call_entry F.slot_tuple_iterator_next hit.typeIs F.entry_tuple_iterator_next ?_ (F.args_tuple_iterator_next_1 _)))
 change wpAny _ _ (field (.ref it) 0 >>= _) _ _ s
 refine wpAny_bind (wpAny_field h1 h3 (x:=.ref t) rfl ?_)
 change wpAny _ _ (if (Value.ref t==Value.none)=true then _ else _) _ _ s
 rw[if_neg (by exact Bool.false_ne_true)]
 change wpAny _ _ (field (.ref it) 1 >>= _) _ _ s
 refine wpAny_bind (wpAny_field h1 h3 (x:=.int i 0) rfl ?_)
 change wpAny _ _ (seqItems? (.ref t) >>= _) _ _ s
 refine wpAny_bind (wpAny_seqItems t1 t2 ?_)
 simp only[Int.toNat_natCast,hx]
 refine wpAny_bind (wpAny_setField h1 h3 (by simp) (wpAny_pure ⟨x,rfl,wpAny_pure (hQ _ ⟨_,Heap.get?_update_self _ h1 (Obj.isFreed_of_fields (Obj.data_mapFields h3 _)),(Obj.cls_mapFields ..).trans h2,?_⟩ (Heap.SameBut.update ..))⟩))
 rw[Obj.data_mapFields h3]
 simp[rawInt]
theorem zYB {it t:Addr}{i:Nat}{items:Array Value}{Q:Value->Shared->Prop}(hh:A.handled=none)(hit:s.heap.IsTupleIter it t i)(ht:s.heap.IsTuple t items)(hx:items[i]?=none)
   (hE:∀h' e,Heap.ExtBut it s.heap h'->(∃o,h'.get? e=some o/\o.cls = .type "StopIteration")->E (.ref e) { s with heap:=h' }):wpAny (model prog w) A (Builtin.SmallTypes.nextOf (.ref it)) Q E s:=by
 obtain⟨o,h1,h2,h3⟩:=id hit
 obtain⟨ot,t1,_,n,t2⟩:=ht
 unfold Builtin.SmallTypes.nextOf
 refine wpAny_bind (wpAny_callSpecial?_slot (name:=Str.ofString "__next__") hit.typeIs F.slot_tuple_iterator_next (wpAny_call_entry F.slot_tuple_iterator_next hit.typeIs F.entry_tuple_iterator_next ?_ (F.args_tuple_iterator_next_1 _)))
 change wpAny _ _ (field (.ref it) 0 >>= _) _ _ s
 refine wpAny_bind (wpAny_field h1 h3 (x:=.ref t) rfl ?_)
 change wpAny _ _ (if (Value.ref t==Value.none)=true then _ else _) _ _ s
 rw[if_neg (by exact Bool.false_ne_true)]
 change wpAny _ _ (field (.ref it) 1 >>= _) _ _ s
 refine wpAny_bind (wpAny_field h1 h3 (x:=.int i 0) rfl ?_)
 change wpAny _ _ (seqItems? (.ref t) >>= _) _ _ s
 refine wpAny_bind (wpAny_seqItems t1 t2 ?_)
 simp only[Int.toNat_natCast,hx]
 refine wpAny_bind (wpAny_rule (wpAny_bind (wpAny_setField h1 h3 (by simp) ?_)))
 change wpAny _ _ (newExc (.type "StopIteration") [] >>= _) _ _ _
 refine wpAny_bind ?_
 simp only[newExc,newTuple]
 refine wpAny_bind (wpAny_newObj_type ?_ (by size_fits))
 refine wpAny_bind (m:=firstArgMember _ _) (wpAny_of_eq (a:=Value.none) (by first | rfl | (simp only[firstArgMember];rfl)) ?_)
 refine wpAny_newObj_type ?_ (by size_fits)
 simp only[raiseNew]
 refine wpAny_bind (wpAny_handled ?_)
 first | rw[show A.in1.handled=none from hh] | rw[hh]
 refine wpAny_bind (wpAny_pure (wpAny_throw ?_))
 exact hE _ _ (((Heap.SameBut.update ..).extBut.push _).push _) ⟨_,Heap.get?_push_size _ rfl,rfl⟩
structure ZApart (z TI TO i1 i2 l1 l2:Addr):Prop where
 a1:TI≠z
 a2:TO≠z
 a3:i1≠z
 a4:i2≠z
 a5:TI≠TO
 a6:TI≠i1
 a7:TI≠i2
 a8:TO≠i1
 a9:TO≠i2
 b1:i1≠i2
 b2:l1≠z
 b3:l1≠TO
 b4:l1≠i1
 b5:l1≠i2
 b6:l2≠z
 b7:l2≠TO
 b8:l2≠i1
 b9:l2≠i2
theorem zT0 {z TI TO i1 i2 l1 l2:Addr}{k:Nat}{xs ys:Array Value}{x y a b:Value}{Q:Value->Shared->Prop}(D:ZApart z TI TO i1 i2 l1 l2)(hz:IsZip s.heap z TI TO .none)(hTI:IsPair s.heap TI (.ref i1) (.ref i2))(hTO:IsPair s.heap TO a b)
   (h1:s.heap.IsTupleIter i1 l1 k) (h2:s.heap.IsTupleIter i2 l2 k) (hl1:s.heap.IsTuple l1 xs) (hl2:s.heap.IsTuple l2 ys) (hx:xs[k]?=some x) (hy:ys[k]?=some y)
   (hQ:∀h',IsZip h' z TI TO (rawInt s.heap.objs.size)->IsPair h' TO x y->h'.IsTupleIter i1 l1 (k+1)->h'.IsTupleIter i2 l2 (k+1)->IsPair h' s.heap.objs.size x y ->
     (∀c o,c≠z->c≠TO->c≠i1->c≠i2->s.heap.get? c=some o->h'.get? c=some o)->Q (.ref s.heap.objs.size) { s with heap:=h' }) :
   wpAny (model prog w) A (Builtin.«zip.__next__» ⟨[.ref z],[]⟩) (fun fin s'=>∃v,fin = .done (.ret v)/\Q v s') E s:=by
 change wpAny _ _ (field (.ref z) 2 >>= _) _ _ _
 refine wpAny_bind (wpAny_field hz rfl (x:=.bool false) rfl ?_)
 change wpAny _ _ (field (.ref z) 3 >>= _) _ _ _
 refine wpAny_bind (wpAny_field hz rfl (x:=.ref TI) rfl (wpAny_bind (wpAny_seqItems hTI rfl ?_)))
 change wpAny _ _ (Builtin.SmallTypes.ownedTupleIsFree (.ref z) >>= _) _ _ _
 refine wpAny_bind ?_
 unfold Builtin.SmallTypes.ownedTupleIsFree
 refine wpAny_bind (wpAny_field hz rfl (x:=.none) rfl (wpAny_pure ?_))
 simp only[if_true]
 refine wpAny_bind (wpAny_rule (wpAny_bind (wpAny_field hz rfl (x:=.ref TO) rfl (wpAny_bind (wpAny_setField_rec hz (by simp) fun g1 z1 t1=>?_)))))
 have z1:IsZip g1 z TI TO .ellipsis:=z1
 refine wpAny_bind ?_
 simp only[List.zipIdx_cons,List.zipIdx_nil,List.forIn_cons,List.forIn_nil]
 refine wpAny_bind (wpAny_bind (wpAny_onRaise ?_))
 change wpAny _ _ (Builtin.SmallTypes.nextOf (.ref i1) >>= _) _ _ _
 refine wpAny_bind (iC (h1.extBut t1.extBut D.a3) (hl1.extBut t1.extBut D.b2) hx fun g2 u1 t2=>wpAny_pure ?_)
 have o2:IsPair g2 TO a b:=t2.extBut _ _ D.a8 (t1.extBut _ _ D.a2 hTO)
 refine wpAny_bind (wpAny_seqItems o2 rfl (wpAny_bind (wpAny_updateSeq_pair o2 fun g3 o3 t3=>?_)))
 have o3:IsPair g3 TO x b:=o3
 refine wpAny_bind (wpAny_letGo (wpAny_pure (wpAny_bind (wpAny_bind (wpAny_onRaise ?_)))))
 change wpAny _ _ (Builtin.SmallTypes.nextOf (.ref i2) >>= _) _ _ _
 refine wpAny_bind (iC (((h2.extBut t1.extBut D.a4).extBut t2.extBut D.b1.symm).extBut t3.extBut D.a9.symm) (((hl2.extBut t1.extBut D.b6).extBut t2.extBut D.b8).extBut t3.extBut D.b7) hy fun g4 u2 t4=>wpAny_pure ?_)
 have o4:IsPair g4 TO x b:=t4.extBut _ _ D.a9 o3
 refine wpAny_bind (wpAny_seqItems o4 rfl (wpAny_bind (wpAny_updateSeq_pair o4 fun g5 o5 t5=>?_)))
 have o5:IsPair g5 TO x y:=o5
 refine wpAny_bind (wpAny_letGo (wpAny_pure (wpAny_pure (wpAny_bind (wpAny_seqItems o5 rfl (wpAny_bind (wpAny_newTuple ?_)))))))
 have esz:g5.objs.size=s.heap.objs.size:=by rw[t5.1,t4.1,t3.1,t2.1,t1.1]
 have z5:IsZip g5 z TI TO .ellipsis:=t5.extBut _ _ D.a2.symm (t4.extBut _ _ D.a4.symm (t3.extBut _ _ D.a2.symm (t2.extBut _ _ D.a3.symm z1)))
 have k5:∀c o,c≠z->c≠TO->c≠i1->c≠i2->s.heap.get? c=some o->g5.get? c=some o:=fun c o c1 c2 c3 c4 e=>t5.extBut _ _ c2 (t4.extBut _ _ c4 (t3.extBut _ _ c2 (t2.extBut _ _ c3 (t1.extBut _ _ c1 e))))
 have p1:g5.IsTupleIter i1 l1 (k+1):=((u1.extBut t3.extBut D.a8.symm).extBut t4.extBut D.b1).extBut t5.extBut D.a8.symm
 have p2:g5.IsTupleIter i2 l2 (k+1):=u2.extBut t5.extBut D.a9.symm
 have lz:z < g5.objs.size:=Heap.lt_size z5
 change wpAny _ _ (Builtin.SmallTypes.ownedTupleHandOut (.ref z) (.ref g5.objs.size) >>= _) _ _ _
 refine wpAny_bind ?_
 unfold Builtin.SmallTypes.ownedTupleHandOut
 have z6:IsZip (g5.push { cls:=.type "tuple",data:=.seq #[x,y] }) z TI TO .ellipsis:=Heap.get?_push_of_some _ z5
 refine wpAny_bind (wpAny_setField_rec z6 (by simp) fun g7 z7 t7=>?_)
 have z7:IsZip g7 z TI TO (rawInt g5.objs.size):=z7
 refine wpAny_setField_rec z7 (by simp) fun g8 z8 t8=>?_
 have z8:IsZip g8 z TI TO (rawInt g5.objs.size):=z8
 have up:∀c o,c≠z->g5.get? c=some o->g8.get? c=some o:=fun c o c1 e=>t8.extBut _ _ c1 (t7.extBut _ _ c1 (Heap.get?_push_of_some _ e))
 have n8:IsPair g8 g5.objs.size x y:=t8.extBut _ _ (Nat.ne_of_gt lz) (t7.extBut _ _ (Nat.ne_of_gt lz) (Heap.get?_push_size _ rfl))
 rw[esz] at z8 n8
 refine wpAny_pure ⟨_,rfl,?_⟩
 change Q (.ref g5.objs.size) _
 rw[esz]
 obtain⟨q1,r1,w1⟩:=p1
 obtain⟨q2,r2,w2⟩:=p2
 exact hQ g8 z8 (up _ _ D.a2 o5) ⟨q1,up _ _ D.a3 r1,w1⟩ ⟨q2,up _ _ D.a4 r2,w2⟩ n8 fun c o c1 c2 c3 c4 e=>up c o c1 (k5 c o c1 c2 c3 c4 e)
theorem zRo {z TI TO i1 i2 l1 l2:Addr}{k:Nat}{xs ys:Array Value}{a b:Value}{Q:Fin->Shared->Prop}(hh:A.handled=none)(D:ZApart z TI TO i1 i2 l1 l2)(hz:IsZip s.heap z TI TO .none)(hTI:IsPair s.heap TI (.ref i1) (.ref i2))(hTO:IsPair s.heap TO a b)
   (h1:s.heap.IsTupleIter i1 l1 k) (h2:s.heap.IsTupleIter i2 l2 k) (hl1:s.heap.IsTuple l1 xs) (hl2:s.heap.IsTuple l2 ys) (hend:xs[k]?=none∨ys[k]?=none)
   (hE:∀h' e,(∀c o,c≠z->c≠TO->c≠i1->c≠i2->s.heap.get? c=some o->h'.get? c=some o)->(∃o,h'.get? e=some o/\o.cls = .type "StopIteration")->E (.ref e) { s with heap:=h' }) :
   wpAny (model prog w) A (Builtin.«zip.__next__» ⟨[.ref z],[]⟩) Q E s:=by
 change wpAny _ _ (field (.ref z) 2 >>= _) _ _ _
 refine wpAny_bind (wpAny_field hz rfl (x:=.bool false) rfl ?_)
 change wpAny _ _ (field (.ref z) 3 >>= _) _ _ _
 refine wpAny_bind (wpAny_field hz rfl (x:=.ref TI) rfl (wpAny_bind (wpAny_seqItems hTI rfl ?_)))
 change wpAny _ _ (Builtin.SmallTypes.ownedTupleIsFree (.ref z) >>= _) _ _ _
 refine wpAny_bind ?_
 unfold Builtin.SmallTypes.ownedTupleIsFree
 refine wpAny_bind (wpAny_field hz rfl (x:=.none) rfl (wpAny_pure ?_))
 simp only[if_true]
 refine wpAny_bind (wpAny_rule (wpAny_bind (wpAny_field hz rfl (x:=.ref TO) rfl (wpAny_bind (wpAny_setField_rec hz (by simp) fun g1 z1 t1=>?_)))))
 have z1:IsZip g1 z TI TO .ellipsis:=z1
 refine wpAny_bind ?_
 simp only[List.zipIdx_cons,List.zipIdx_nil,List.forIn_cons,List.forIn_nil]
 refine wpAny_bind (wpAny_bind (wpAny_onRaise ?_))
 change wpAny _ _ (Builtin.SmallTypes.nextOf (.ref i1) >>= _) _ _ _
 cases hx:xs[k]? with
 | none =>
   refine wpAny_bind (zYB hh (h1.extBut t1.extBut D.a3) (hl1.extBut t1.extBut D.b2) hx fun g2 e t2 he=>?_)
   obtain⟨oe,he1,he2⟩:=he
   have z2:IsZip g2 z TI TO .ellipsis:=t2 _ _ D.a3.symm z1
   have ne:e≠z:=fun q=>by subst q;rw[z2] at he1;cases he1;simp at he2
   exact wpAny_setField_rec z2 (by simp) fun g3 _ t3=>hE g3 e (fun c o c1 _ c3 _ q=>t3.extBut _ _ c1 (t2 _ _ c3 (t1.extBut _ _ c1 q))) ⟨oe,t3.extBut _ _ ne he1,he2⟩
 | some x =>
   have hy:ys[k]?=none:=by
     rcases hend with q | q
     · rw[hx] at q;cases q
     · exact q
   refine wpAny_bind (iC (h1.extBut t1.extBut D.a3) (hl1.extBut t1.extBut D.b2) hx fun g2 u1 t2=>wpAny_pure ?_)
   have o2:IsPair g2 TO a b:=t2.extBut _ _ D.a8 (t1.extBut _ _ D.a2 hTO)
   refine wpAny_bind (wpAny_seqItems o2 rfl (wpAny_bind (wpAny_updateSeq_pair o2 fun g3 o3 t3=>?_)))
   refine wpAny_bind (wpAny_letGo (wpAny_pure (wpAny_bind (wpAny_bind (wpAny_onRaise ?_)))))
   change wpAny _ _ (Builtin.SmallTypes.nextOf (.ref i2) >>= _) _ _ _
   refine wpAny_bind (zYB hh (((h2.extBut t1.extBut D.a4).extBut t2.extBut D.b1.symm).extBut t3.extBut D.a9.symm) (((hl2.extBut t1.extBut D.b6).extBut t2.extBut D.b8).extBut t3.extBut D.b7) hy fun g4 e t4 he=>?_)
   obtain⟨oe,he1,he2⟩:=he
   have z4:IsZip g4 z TI TO .ellipsis:=t4 _ _ D.a4.symm (t3.extBut _ _ D.a2.symm (t2.extBut _ _ D.a3.symm z1))
   have ne:e≠z:=fun q=>by subst q;rw[z4] at he1;cases he1;simp at he2
   exact wpAny_setField_rec z4 (by simp) fun g5 _ t5=>hE g5 e (fun c o c1 c2 c3 c4 q=>t5.extBut _ _ c1 (t4 _ _ c4 (t3.extBut _ _ c2 (t2.extBut _ _ c3 (t1.extBut _ _ c1 q))))) ⟨oe,t5.extBut _ _ ne he1,he2⟩
end
abbrev zT1 (h:Heap)(l1:Addr):Heap:=h.push { cls:=.type "tuple_iterator",data:=.fields #[.ref l1,.int 0 0] }
abbrev zT2 (h:Heap)(l1 l2:Addr):Heap:=(zT1 h l1).push { cls:=.type "tuple_iterator",data:=.fields #[.ref l2,.int 0 0] }
abbrev zT3 (h:Heap)(l1 l2:Addr):Heap:=(zT2 h l1 l2).push { cls:=.type "tuple",data:=.seq #[.ref h.objs.size,.ref (zT1 h l1).objs.size] }
abbrev zT4 (h:Heap)(l1 l2:Addr):Heap:=(zT3 h l1 l2).push { cls:=.type "tuple",data:=.seq #[.none,.none] }
abbrev zT5 (h:Heap)(l1 l2:Addr):Heap:=(zT4 h l1 l2).push { cls:=.type "zip",data:=.fields #[.none,.bool false,.bool false,.ref (zT2 h l1 l2).objs.size,.ref (zT3 h l1 l2).objs.size] }
theorem zRm (l1 l2:Addr)(xs ys:Array Value) :
   Meets (Builtin.«zip.__new__» ⟨[.type "zip",.ref l1,.ref l2],[]⟩) (fun _ R s=>s.heap.IsTuple l1 xs/\s.heap.IsTuple l2 ys/\R (.ok (.ret (.ref (zT4 s.heap l1 l2).objs.size))) { s with heap:=zT5 s.heap l1 l2 }) :=
 .of_wp fun prog w A R s h=>by
   obtain⟨hp,g,d,tk,os⟩:=s;obtain⟨q1,q2,h⟩:=h
   have hsub:=sub_zip
   have L1:Heap.IsTuple (Shared.heap ⟨hp,g,d,tk,os⟩) l1 xs:=q1
   have L2:Heap.IsTuple (Shared.heap ⟨hp.push { cls:=.type "tuple_iterator",data:=.fields #[.ref l1,.int 0 0] },g,d,tk,os⟩) l2 ys:=Heap.IsTuple.push q2 _
   wp_walk using wpAny_pyIter_tuple L1,wpAny_pyIter_tuple L2
   exact⟨_,rfl,h⟩
section
variable {prog:Program} {w:World} {A:Around} {E:Value->Shared->Prop} {s:Shared}
theorem zTI {l1 l2:Addr}{xs ys:Array Value}{Q:Value->Shared->Prop}(q1:s.heap.IsTuple l1 xs)(q2:s.heap.IsTuple l2 ys)
   (h:∀h',IsZip h' (s.heap.objs.size+4) (s.heap.objs.size+2) (s.heap.objs.size+3) .none->IsPair h' (s.heap.objs.size+2) (.ref s.heap.objs.size) (.ref (s.heap.objs.size+1))->IsPair h' (s.heap.objs.size+3) .none .none ->
     h'.IsTupleIter s.heap.objs.size l1 0->h'.IsTupleIter (s.heap.objs.size+1) l2 0->(∀c o,s.heap.get? c=some o->h'.get? c=some o)->Q (.ref (s.heap.objs.size+4)) { s with heap:=h' }):wpAny (model prog w) A (call (.type "zip") [.ref l1,.ref l2]) Q E s:=by
 refine callType_new F.called_zip (by decide) (F.typeCall_zip_2 _ _) (F.newCall_zip_2 _ _) (fun obj=>F.args_object_init_3 obj _ _) F.entry_zip_new (zRm l1 l2 xs ys) ⟨q1,q2,?_⟩
 have y1:(zT1 s.heap l1).objs.size=s.heap.objs.size+1:=Heap.size_push ..
 have y2:(zT2 s.heap l1 l2).objs.size=s.heap.objs.size+2:=by rw[Heap.size_push,y1]
 have y3:(zT3 s.heap l1 l2).objs.size=s.heap.objs.size+3:=by rw[Heap.size_push,y2]
 have y4:(zT4 s.heap l1 l2).objs.size=s.heap.objs.size+4:=by rw[Heap.size_push,y3]
 have f5:(zT5 s.heap l1 l2).get? (zT4 s.heap l1 l2).objs.size=some _:=Heap.get?_push_size _ rfl
 have f4:(zT5 s.heap l1 l2).get? (zT3 s.heap l1 l2).objs.size=some _:=Heap.get?_push_of_some _ (Heap.get?_push_size _ rfl)
 have f3:(zT5 s.heap l1 l2).get? (zT2 s.heap l1 l2).objs.size=some _:=Heap.get?_push_of_some _ (Heap.get?_push_of_some _ (Heap.get?_push_size _ rfl))
 have f2:(zT5 s.heap l1 l2).get? (zT1 s.heap l1).objs.size=some _:=Heap.get?_push_of_some _ (Heap.get?_push_of_some _ (Heap.get?_push_of_some _ (Heap.get?_push_size _ rfl)))
 have f1:(zT5 s.heap l1 l2).get? s.heap.objs.size=some _:=Heap.get?_push_of_some _ (Heap.get?_push_of_some _ (Heap.get?_push_of_some _ (Heap.get?_push_of_some _ (Heap.get?_push_size _ rfl))))
 change _/\_
 rw[y2,y3,y4] at f5
 rw[y1,y2] at f3
 rw[y3] at f4
 rw[y1] at f2
 rw[y4]
 exact⟨⟨_,f5,rfl⟩,h _ f5 f3 f4 ⟨_,f1,rfl,rfl⟩ ⟨_,f2,rfl,rfl⟩ fun c o x=>Heap.get?_push_of_some _ (Heap.get?_push_of_some _ (Heap.get?_push_of_some _ (Heap.get?_push_of_some _ (Heap.get?_push_of_some _ x))))⟩
end
def Itz (K:PySem.W.Frag)(a b:Addr):It :=
 ⟨fun i H=>∃xs ys x y,SqT K H a xs/\SqT K H b ys/\xs[i]?=some x/\ys[i]?=some y,fun i H x H'=>∃p v u,H p=none/\x = .ref p/\H'=upd H p (.tup [v,u])/\(∀xs,SqT K H a xs->xs[i]?=some v)/\∀ys,SqT K H b ys->ys[i]?=some u,
   fun i H=>∃xs ys,SqT K H a xs/\SqT K H b ys/\(xs.length<=i∨ys.length<=i)⟩
theorem zZY {prog:Program}{w:World}{A:Around}{E:Value->Shared->Prop}{s:Shared}{z TI TO i1 i2 l1 l2:Addr}{k:Nat}{xs ys:Array Value}{x y a b:Value}{Q:Option Value->Shared->Prop}(D:ZApart z TI TO i1 i2 l1 l2)(hz:IsZip s.heap z TI TO .none)(hTI:IsPair s.heap TI (.ref i1) (.ref i2))(hTO:IsPair s.heap TO a b)
   (h1:s.heap.IsTupleIter i1 l1 k) (h2:s.heap.IsTupleIter i2 l2 k) (hl1:s.heap.IsTuple l1 xs) (hl2:s.heap.IsTuple l2 ys) (hx:xs[k]?=some x) (hy:ys[k]?=some y)
   (hQ:∀h',IsZip h' z TI TO (rawInt s.heap.objs.size)->IsPair h' TO x y->h'.IsTupleIter i1 l1 (k+1)->h'.IsTupleIter i2 l2 (k+1)->IsPair h' s.heap.objs.size x y ->
     (∀c o,c≠z->c≠TO->c≠i1->c≠i2->s.heap.get? c=some o->h'.get? c=some o)->Q (some (.ref s.heap.objs.size)) { s with heap:=h' }):wpAny (model prog w) A (pyNext (.ref z)) Q E s:=by
 have hT:s.TypeIs (.ref z) "zip":=⟨_,hz,rfl⟩
 unfold pyNext
 exact wpAny_bind (wpAny_attempt (wpAny_callSpecial?_slot (name:=Str.ofString "__next__") hT F.slot_zip_next (wpAny_call_entry F.slot_zip_next hT F.entry_zip_next (zT0 D hz hTI hTO h1 h2 hl1 hl2 hx hy fun h' a1 a2 a3 a4 a5 a6=>wpAny_pure (hQ h' a1 a2 a3 a4 a5 a6)) (F.args_zip_next_1 _))))
theorem zZn {prog:Program}{w:World}{A:Around}{E:Value->Shared->Prop}{s:Shared}{z TI TO i1 i2 l1 l2:Addr}{k:Nat}{xs ys:Array Value}{a b:Value}{Q:Option Value->Shared->Prop}(hh:A.handled=none)(D:ZApart z TI TO i1 i2 l1 l2)(hz:IsZip s.heap z TI TO .none)(hTI:IsPair s.heap TI (.ref i1) (.ref i2))(hTO:IsPair s.heap TO a b)
   (h1:s.heap.IsTupleIter i1 l1 k) (h2:s.heap.IsTupleIter i2 l2 k) (hl1:s.heap.IsTuple l1 xs) (hl2:s.heap.IsTuple l2 ys) (hend:xs[k]?=none∨ys[k]?=none)
   (hQ:∀h',(∀c o,c≠z->c≠TO->c≠i1->c≠i2->s.heap.get? c=some o->h'.get? c=some o)->Q none { s with heap:=h' }):wpAny (model prog w) A (pyNext (.ref z)) Q E s:=by
 have hT:s.TypeIs (.ref z) "zip":=⟨_,hz,rfl⟩
 unfold pyNext
 refine wpAny_bind (wpAny_attempt (wpAny_callSpecial?_slot (name:=Str.ofString "__next__") hT F.slot_zip_next (wpAny_call_entry F.slot_zip_next hT F.entry_zip_next (zRo hh D hz hTI hTO h1 h2 hl1 hl2 hend fun h' e hk he=>?_) (F.args_zip_next_1 _))))
 obtain⟨o,q1,q2⟩:=he
 exact wpAny_bind (wpAny_isInstance (T:="StopIteration") (b:=true) ⟨o,q1,q2⟩ isSubtype_stop (wpAny_pure (hQ _ hk)))
theorem zne {n:Nat}(i j:Nat)(h:i≠j):n+i≠n+j:=fun z=>h (Nat.add_left_cancel z)
theorem zSt {P:Program}{w:World}{K:PySem.W.Frag}{elts:List Expr}{k:Nat}{pos:Pos}(a b n:Addr):Turn P w K (.Tuple elts k pos) (Itz K a b) [n+4,n+2,n+3,n,n+1] (n+4)
   (fun i h=>IsZip h (n+4) (n+2) (n+3) .none/\IsPair h (n+2) (.ref n) (.ref (n+1))/\(∃p q,IsPair h (n+3) p q)/\h.IsTupleIter n a i/\h.IsTupleIter (n+1) b i) where
 mem:=by simp
 obj:=fun i h st c hc=>by
   obtain⟨h1,h2,⟨p,q,h3⟩,⟨o1,e1,_,d1⟩,⟨o2,e2,_,d2⟩⟩:=st
   simp only[List.mem_cons,List.not_mem_nil,or_false] at hc
   rcases hc with z | z | z | z | z
   · subst z;exact⟨_,h1,fun v q=>nomatch q⟩
   · subst z;exact⟨_,h2,fun v q=>nomatch q⟩
   · subst z;exact⟨_,h3,fun v q=>nomatch q⟩
   · subst z;exact⟨o1,e1,fun v q=>by rw[d1] at q;cases q⟩
   · subst z;exact⟨o2,e2,fun v q=>by rw[d2] at q;cases q⟩
 keep:=fun i h h' st kk=>by
   obtain⟨h1,h2,⟨p,q,h3⟩,⟨o1,e1,r1⟩,⟨o2,e2,r2⟩⟩:=st
   exact⟨kk _ (by simp) _ h1,kk _ (by simp) _ h2,⟨p,q,kk _ (by simp) _ h3⟩,⟨o1,kk _ (by simp) _ e1,r1⟩,⟨o2,kk _ (by simp) _ e2,r2⟩⟩
 item:=by
   intro X hP hw hK hc i pins s σ H E I hf st hg
   subst hP hw hK
   obtain⟨xs,ys,x,y,hq,hq',hx,hy⟩:=hg
   obtain⟨its,rv,p1,hz⟩:=I.tuple hq
   obtain⟨jts,rv',p2,hz'⟩:=I.tuple hq'
   obtain⟨u,hu,ru⟩:=rv.get hx
   obtain⟨u',hu',ru'⟩:=rv'.get hy
   obtain⟨h1,h2,⟨p,q,h3⟩,h4,h5⟩:=st
   have apart:∀c∈[n+4,n+2,n+3,n,n+1],∀v:List V,∀d:Addr,SqT X.K H d v->d≠c:=fun c hc v d hd z=>by
     have e:=(hf c hc).1
     obtain⟨its,_,⟨o,e1,e2,_⟩,_⟩:=I.tuple hd
     rcases hd with(hd | ⟨ob,hd⟩) | hd
     · rw[z,e] at hd;cases hd
     · rw[z,e] at hd;cases hd
     · obtain⟨ob,_,_,hk,_⟩:=hd
       have e3:=I.ok.mod.kin d ob hk
       obtain⟨_,q1,_,q3,_⟩:=hf c hc
       rcases q3 with q3 | q3
       · exact I.ok.noex d ob e3 (z ▸ q3)
       · exact absurd (Nat.lt_of_lt_of_le (Heap.lt_size (I.ok.bs d ob e3).1) (z ▸ q3)) (Nat.lt_irrefl _)
   have D:ZApart (n+4) (n+2) (n+3) n (n+1) a b:=⟨zne 2 4 (by decide),zne 3 4 (by decide),zne 0 4 (by decide),zne 1 4 (by decide),zne 2 3 (by decide),zne 2 0 (by decide),zne 2 1 (by decide),zne 3 0 (by decide),zne 3 1 (by decide),zne 0 1 (by decide),apart _ (by simp) xs a hq,apart _ (by simp) xs a hq,apart _ (by simp) xs a hq,apart _ (by simp) xs a hq,apart _ (by simp) ys b hq',apart _ (by simp) ys b hq',apart _ (by simp) ys b hq',apart _ (by simp) ys b hq'⟩
   refine zZY D h1 h2 h3 h4 h5 (show s.heap.IsTuple a its.toArray from p1) (show s.heap.IsTuple b jts.toArray from p2) (x:=u) (y:=u') (by simpa using hu) (by simpa using hu') fun g g1 g2 g3 g4 g5 hk=>?_
   have hk':∀c o,c∉[n+4,n+2,n+3,n,n+1]->s.heap.get? c=some o->g.get? c=some o:=fun c o hc e=>hk c o (fun z=>hc (by simp[z])) (fun z=>hc (by simp[z])) (fun z=>hc (by simp[z])) (fun z=>hc (by simp[z])) e
   have I1:Inv X pins σ (upd H s.heap.objs.size (.tup [x,y])) { s with heap:=g }:=I.turnedNew (t':=s.toks) hk' hf (Nat.le_refl _) ⟨by show 2<=sizeLine;exact Nat.le_of_lt (wK (by decide)),[u,u'],.cons ru (.cons ru' .nil),⟨_,g5,rfl,_,rfl⟩⟩
   refine⟨_,rfl,wpAny_letOwnedTupleGo_zip g1 fun g' z' t'=>?_⟩
   have t':Heap.SameBut (n+4) g g':=t'
   have neT:∀c∈[n+4,n+2,n+3,n,n+1],c≠s.heap.objs.size:=fun c hc z=>by
     have lt:c < s.heap.objs.size:=by
       obtain⟨o1,e1,_⟩:=h4
       obtain⟨o2,e2,_⟩:=h5
       simp only[List.mem_cons,List.not_mem_nil,or_false] at hc
       rcases hc with q | q | q | q | q
       · rw[q];exact Heap.lt_size h1
       · rw[q];exact Heap.lt_size h2
       · rw[q];exact Heap.lt_size h3
       · rw[q];exact Heap.lt_size e1
       · rw[q];exact Heap.lt_size e2
     rw[z] at lt
     exact Nat.lt_irrefl _ lt
   have hf1:∀c∈[n+4,n+2,n+3,n,n+1],mN X pins (upd H s.heap.objs.size (.tup [x,y])) c:=fun c hc=>⟨by rw[yP (neT c hc)];exact(hf c hc).1,(hf c hc).2⟩
   have I2:=I1.turnedL (h':=g') (t':=s.toks) (fp:=[n+4,n+2,n+3,n,n+1]) (fun c o hc e=>(t'.2 c (fun z=>hc (by simp[z]))).trans e) hf1
   have g2':IsPair g (n+2) (.ref n) (.ref (n+1)):=hk _ _ D.a1 D.a5 D.a6 D.a7 h2
   obtain⟨o3,e3,r3⟩:=g3
   obtain⟨o4,e4,r4⟩:=g4
   exact⟨.ref s.heap.objs.size,_,I2,rfl,⟨s.heap.objs.size,x,y,I.fresh,rfl,rfl,fun zs hs=>by rw[I.tuple_inj hs hq];exact hx,fun zs hs=>by rw[I.tuple_inj hs hq'];exact hy⟩,
     ⟨z',(t'.2 _ D.a1).trans g2',⟨_,_,(t'.2 _ D.a2).trans g2⟩,⟨o3,(t'.2 _ D.a3).trans e3,r3⟩,⟨o4,(t'.2 _ D.a4).trans e4,r4⟩⟩,fun c hc=>(hf1 c hc).1⟩
 done:=by
   intro X hP hw hK hc i pins s σ H E I hf st hg
   subst hP hw hK
   obtain⟨xs,ys,hq,hq',hx⟩:=hg
   obtain⟨its,rv,p1,hz⟩:=I.tuple hq
   obtain⟨jts,rv',p2,hz'⟩:=I.tuple hq'
   obtain⟨h1,h2,⟨p,q,h3⟩,h4,h5⟩:=st
   have apart:∀c∈[n+4,n+2,n+3,n,n+1],∀v:List V,∀d:Addr,SqT X.K H d v->d≠c:=fun c hc v d hd z=>by
     have e:=(hf c hc).1
     rcases hd with(hd | ⟨ob,hd⟩) | hd
     · rw[z,e] at hd;cases hd
     · rw[z,e] at hd;cases hd
     · obtain⟨ob,_,_,hk,_⟩:=hd
       have e3:=I.ok.mod.kin d ob hk
       obtain⟨_,q1,_,q3,_⟩:=hf c hc
       rcases q3 with q3 | q3
       · exact I.ok.noex d ob e3 (z ▸ q3)
       · exact absurd (Nat.lt_of_lt_of_le (Heap.lt_size (I.ok.bs d ob e3).1) (z ▸ q3)) (Nat.lt_irrefl _)
   have D:ZApart (n+4) (n+2) (n+3) n (n+1) a b:=⟨zne 2 4 (by decide),zne 3 4 (by decide),zne 0 4 (by decide),zne 1 4 (by decide),zne 2 3 (by decide),zne 2 0 (by decide),zne 2 1 (by decide),zne 3 0 (by decide),zne 3 1 (by decide),zne 0 1 (by decide),apart _ (by simp) xs a hq,apart _ (by simp) xs a hq,apart _ (by simp) xs a hq,apart _ (by simp) xs a hq,apart _ (by simp) ys b hq',apart _ (by simp) ys b hq',apart _ (by simp) ys b hq',apart _ (by simp) ys b hq'⟩
   have l1:=rv.length
   have l2:=rv'.length
   refine zZn (I.ok.hd hc) D h1 h2 h3 h4 h5 (show s.heap.IsTuple a its.toArray from p1) (show s.heap.IsTuple b jts.toArray from p2) ?_ fun g hk=>⟨rfl,I.turnedL (t':=s.toks) (fp:=[n+4,n+2,n+3,n,n+1]) (fun c o hc e=>hk c o (fun z=>hc (by simp[z])) (fun z=>hc (by simp[z])) (fun z=>hc (by simp[z])) (fun z=>hc (by simp[z])) e) hf⟩
   rcases hx with q | q
   · exact .inl (by simp;omega)
   · exact .inr (by simp;omega)
 self:=fun _ _ _ _ _ st h=>wpAny_pyIter_zip st.1 h
def sL:List D->List D->List D
 | x::xs,y::ys=>.tup [x,y]::sL xs ys
 | _,_=>[]
theorem bV:∀ {xs ys:List D} {i:Nat} {d:D},(sL xs ys)[i]?=some d->∃x y,xs[i]?=some x/\ys[i]?=some y/\d = .tup [x,y]
 | [],_,_,_,h=>by simp[sL] at h
 | _::_,[],_,_,h=>by simp[sL] at h
 | x::xs,y::ys,0,d,h=>by simp[sL] at h;exact⟨x,y,rfl,rfl,h.symm⟩
 | x::xs,y::ys,i+1,d,h=>by
   simp only[sL,List.getElem?_cons_succ] at h
   obtain⟨a,b,h1,h2,h3⟩:=bV h
   exact⟨a,b,by simpa using h1,by simpa using h2,h3⟩
theorem aG:∀(xs ys:List D),(sL xs ys).length=min xs.length ys.length
 | [],_=>by simp[sL]
 | _::_,[]=>by simp[sL]
 | x::xs,y::ys=>by rw[sL,List.length_cons,aG xs ys,List.length_cons,List.length_cons];omega
theorem zV5 {K:PySem.W.Frag}{G:Hp}{a b:Addr}{vs us:List V}{ds es:List D}(h:SqT K G a vs)(r:Reps K G ds vs)(h':SqT K G b us)(r':Reps K G es us):eB K (Itz K a b) G (sL ds es):=by
 intro i G2 H2 s1 s2
 have q:SqT K H2 a vs:=(s1.trans s2).tup h
 have q':SqT K H2 b us:=(s1.trans s2).tup h'
 refine⟨fun d hd=>?_,fun hi=>⟨vs,us,q,q',?_⟩⟩
 · obtain⟨x,y,h1,h2,rfl⟩:=bV hd
   obtain⟨v,e1,rv⟩:=r.get h1
   obtain⟨u,e2,ru⟩:=r'.get h2
   refine⟨⟨vs,us,v,u,q,q',e1,e2⟩,fun x' H3 yy=>?_⟩
   obtain⟨p,v',u',hp,rfl,rfl,y1,y2⟩:=yy
   have f1:=y1 vs q
   rw[e1] at f1;cases f1
   have f2:=y2 us q'
   rw[e2] at f2;cases f2
   have s3:=Step.laid (o:=.tup [v,u]) s2 hp
   exact⟨_,s3,rep_tup.mpr ⟨p,_,rfl,.of z0,reps_cons.mpr ⟨_,_,rfl,(rv.mono s1).mono s3.gg,reps_cons.mpr ⟨_,_,rfl,(ru.mono s1).mono s3.gg,reps_nil.mpr rfl⟩⟩⟩⟩
 · rw[aG] at hi
   rw[←r.length,←r'.length]
   omega
section
variable {X:Cx} {a b c e tg elt iter:Expr} {fa fb:Ef} {pos p:Pos}
def zQK (f g:Ef):Lf:=fun ρ=>(f ρ).bind fun x=>(g ρ).bind fun y=>match x,y with | .tup xs,.tup ys=>some (sL xs ys) | _,_=>none
theorem zS4 {elts:List Expr}{k:Nat}{pos':Pos}(hg:Gl X "zip")(hm:X.mg "zip"=none)(ha:PF X a fa)(hb:PF X b fb)(hs:starEach [a,b] X.env=[(false,eval a X.env),(false,eval b X.env)]:=by rfl)(hs2:starEach [b] X.env=[(false,eval b X.env)]:=by rfl) :
   PFI X (.Tuple elts k pos') (.Call (.Name "zip" p) [a,b] [] pos) (zQK fa fb):=by
 intro pins s σ H R I q
 obtain⟨G0,H0,G,ρ,ds,good,hf,kk⟩:=q
 unfold zQK at hf
 obtain⟨x,h1,hf⟩:=Option.bind_eq_some_iff.mp hf
 obtain⟨y,h2,hf⟩:=Option.bind_eq_some_iff.mp hf
 cases x with
 | tup xs =>
   cases y with
   | tup ys =>
     cases hf
     have hA:=yS ha (yS hb yB (by rw[hs2];rfl)) (by rw[hs,hs2]) pos pins s σ H (fun vs H'=>∃a b us ws G',vs=[.ref a,.ref b]/\Step G H G' H'/\SqT X.K G' a us/\Reps X.K G' xs us/\SqT X.K G' b ws/\Reps X.K G' ys ws) I
       ⟨G0,H0,G,ρ,_,good,h1,fun v H1 G1 s1 r1=>⟨G0,H0,G1,ρ,_,good.step s1,h2,fun u H2 G2 s2 r2=>by
         obtain⟨a,us,rfl,q1,q2⟩:=rep_tup.mp (r1.mono s2.gg)
         obtain⟨b,ws,rfl,q3,q4⟩:=rep_tup.mp r2
         exact⟨a,b,us,ws,G2,rfl,s1.trans s2,q1,q2,q3,q4⟩⟩⟩
     refine Call_ (pE I hg hm (by rfl) (PyProof.Rows.callWith_type1 (thn hA fun us s1 ⟨vs,H1,I1,r1,l1,l2,ws,zs,G1,e1,st1,q1,q2,q3,q4⟩=>?_) (by rw[hs,hs2]) (by rw[hs2];rfl)))
     subst e1
     obtain⟨u,u',rfl,ru,ru'⟩:=zRH r1
     cases ru
     cases ru'
     obtain⟨its,rv,p1,_⟩:=I1.tuple (st1.sub.tup q1)
     obtain⟨jts,rv',p2,_⟩:=I1.tuple (st1.sub.tup q3)
     refine zTI (show s1.heap.IsTuple l1 its.toArray from p1) (show s1.heap.IsTuple l2 jts.toArray from p2) fun h' z1 z2 z3 z4 z5 hk=>?_
     have I2:Inv X pins σ H1 { s1 with heap:=h' }:=I1.kept (t':=s1.toks) hk
     refine wpAny_pyIter_zip z1 ?_
     refine⟨_,[s1.heap.objs.size+4,s1.heap.objs.size+2,s1.heap.objs.size+3,s1.heap.objs.size,s1.heap.objs.size+1],_,_,H1,rfl,I2,zSt l1 l2 s1.heap.objs.size,⟨z1,z2,⟨_,_,z3⟩,z4,z5⟩,fun b hb=>?_,kk _ H1 G1 st1 (zV5 q1 q2 q3 q4)⟩
     have hb':s1.heap.objs.size<=b:=by
       simp only[List.mem_cons,List.not_mem_nil,or_false] at hb
       rcases hb with z | z | z | z | z<;>(rw[z];first | exact Nat.le_refl _ | exact Nat.le_add_right _ _)
     exact I1.fpOk hb' (I1.hok.fresh hb')
   | _=>cases hf
 | _=>cases hf
end
end L2
set_option maxHeartbeats 4000000
namespace L2
open PySem PySem.Spec PyProof.Rows
def zZ7 (f:D->D->Option Bool):List D->List D->Option Bool
 | x::xs,y::ys=>(f x y).bind fun a=>(zZ7 f xs ys).map fun b=>a&&b
 | _,_=>some true
def eqD:Nat->D->D->Option Bool
 | _+1,.int i,.int j=>some (i==j)
 | _+1,.bl i,.bl j=>some (i==j)
 | _+1,.str i,.str j=>some (i==j)
 | _+1,.non,.non=>some true
 | n+1,.tup xs,.tup ys=>(zZ7 (eqD n) xs ys).map fun b=>b&&xs.length==ys.length
 | n+1,.lst xs,.lst ys=>if xs.length=ys.length then zZ7 (eqD n) xs ys else some false
 | _,_,_=>none
def lI (f:D->D->Option Bool)(xs ys:List D)(j:Nat):Bool:=match xs[j]?,ys[j]? with | some a,some c=>(f a c).getD true | _,_=>true
theorem aI {f:D->D->Option Bool}:∀ {xs ys:List D} {b:Bool},zZ7 f xs ys=some b->b=(List.range (min xs.length ys.length)).all (lI f xs ys)/\∀(j:Nat) (a c:D),xs[j]?=some a->ys[j]?=some c->f a c=some (lI f xs ys j)
 | [],_,_,h=>by cases h;exact⟨by simp,fun j a c e=>by simp at e⟩
 | _::_,[],_,h=>by cases h;exact⟨by simp,fun j a c _ e=>by simp at e⟩
 | x::xs,y::ys,b,h=>by
   unfold zZ7 at h
   obtain⟨a,h1,h⟩:=Option.bind_eq_some_iff.mp h
   obtain⟨b',h2,rfl⟩:=Option.map_eq_some_iff.mp h
   obtain⟨e1,e2⟩:=aI h2
   constructor
   · rw[List.length_cons,List.length_cons,Nat.succ_min_succ,List.range_succ_eq_map,List.all_cons,List.all_map,e1]
     congr 1
     simp[lI,h1]
   · intro j p q hp hq
     cases j with
     | zero =>
       simp at hp hq
       subst hp;subst hq
       simp[lI,h1]
     | succ j =>
       have:=e2 j p q (by simpa using hp) (by simpa using hq)
       simpa [lI] using this
section
variable {X:Cx} {pins:List (Addr×Obj)} {σ:St} {H G:Hp} {s:Shared}
theorem zWU (I:Inv X pins σ H s)(sub:Same G H):∀(n:Nat) (d d':D) (x:V) (k:Bool),eqD n d d'=some k->Rep X.K G d x->Rep X.K G d' x->k=true:=by
 intro n
 induction n with
 | zero=>intro d d' x k h;cases d<;>cases d'<;>cases h
 | succ n ih =>
   have many:∀(ds es:List D) (vs:List V) (b:Bool),zZ7 (eqD n) ds es=some b->Reps X.K G ds vs->Reps X.K G es vs->b=true:=by
     intro ds
     induction ds with
     | nil=>intro es vs b h _ _;cases h;rfl
     | cons d r ihr =>
       intro es vs b h r1 r2
       cases es with
       | nil=>cases h;rfl
       | cons e t =>
         unfold zZ7 at h
         obtain⟨a,h1,h⟩:=Option.bind_eq_some_iff.mp h
         obtain⟨b',h2,rfl⟩:=Option.map_eq_some_iff.mp h
         obtain⟨v,vr,rfl,q1,q2⟩:=reps_cons.mp r1
         obtain⟨v',vr',e',q3,q4⟩:=reps_cons.mp r2
         cases e'
         rw[ih d e v a h1 q1 q3,ihr t vr b' h2 q2 q4];rfl
   intro d d' x k h r1 r2
   cases d with
   | int i =>
     cases d' with
     | int j=>cases h;rw[rep_int] at r1 r2;rw[r1] at r2;cases r2;simp
     | _=>cases h
   | bl i =>
     cases d' with
     | bl j=>cases h;rw[rep_bl] at r1 r2;rw[r1] at r2;cases r2;simp
     | _=>cases h
   | str i =>
     cases d' with
     | str j=>cases h;rw[rep_str] at r1 r2;rw[r1] at r2;cases r2;simp
     | _=>cases h
   | non =>
     cases d' with
     | non=>cases h;rfl
     | _=>cases h
   | tup ds =>
     cases d' with
     | tup es =>
       unfold eqD at h
       obtain⟨b,h1,rfl⟩:=Option.map_eq_some_iff.mp h
       obtain⟨p,vs,e1,q1,q2⟩:=rep_tup.mp r1
       obtain⟨p',vs',e2,q3,q4⟩:=rep_tup.mp r2
       rw[e1] at e2;cases e2
       have ev:=I.tuple_inj (sub.tup q1) (sub.tup q3)
       subst ev
       rw[many ds es vs b h1 q2 q4,q2.length,q4.length];simp
     | _=>cases h
   | lst ds =>
     cases d' with
     | lst es =>
       unfold eqD at h
       obtain⟨p,vs,e1,q1,q2⟩:=rep_lst.mp r1
       obtain⟨p',vs',e2,q3,q4⟩:=rep_lst.mp r2
       rw[e1] at e2;cases e2
       have ev:=I.list_inj (sub.seq q1) (sub.seq q3)
       subst ev
       rw[if_pos (by rw[q2.length,q4.length])] at h
       exact many ds es vs k h q2 q4
     | _=>cases h
   | obj C ns ds=>cases d'<;>cases h
   | exc C ns ds=>cases d'<;>cases h
theorem zQu (I:Inv X pins σ H s)(sub:Same G H):∀(n:Nat) (A:Around) (d d':D) (x y:V) (u v:Value) (k:Bool),A.units+n < cLine->eqD n d d'=some k->Rep X.K G d x->Rep X.K G d' y->RelV x u->RelV y v ->
   SeqAt.RcAt A s u v k/\SeqAt.RcNeAt A s u v (!k)/\SeqAt.EqAt A s u v k:=by
 intro n
 induction n with
 | zero=>intro A d d' x y u v k _ h;cases d<;>cases d'<;>cases h
 | succ n ih =>
   intro A d d' x y u v k hu h r1 r2 ru rv
   have hu1:A.units < cLine:=by omega
   have hin:A.in1.units+n < cLine:=by show A.units+1+n < cLine;omega
   cases d with
   | int i =>
     cases d' with
     | int j=>cases h;rw[rep_int] at r1 r2;subst r1;subst r2;obtain⟨t,rfl⟩:=ru;obtain⟨t',rfl⟩:=rv;exact⟨SeqAt.RcAt.int_int _ _ _ _,SeqAt.RcNeAt.int_int _ _ _ _,SeqAt.EqAt.int_int _ _ _ _⟩
     | _=>cases h
   | bl i =>
     cases d' with
     | bl j=>cases h;rw[rep_bl] at r1 r2;subst r1;subst r2;cases ru;cases rv;exact⟨SeqAt.RcAt.bool_bool _ _,SeqAt.RcNeAt.bool_bool _ _,SeqAt.EqAt.bool_bool _ _⟩
     | _=>cases h
   | str i =>
     cases d' with
     | str j=>cases h;rw[rep_str] at r1 r2;subst r1;subst r2;obtain⟨t,rfl⟩:=ru;obtain⟨t',rfl⟩:=rv;exact⟨SeqAt.RcAt.str_str _ _ _ _,SeqAt.RcNeAt.str_str _ _ _ _,SeqAt.EqAt.str_str _ _ _ _⟩
     | _=>cases h
   | non =>
     cases d' with
     | non=>cases h;rw[rep_non] at r1 r2;subst r1;subst r2;cases ru;cases rv;exact⟨SeqAt.RcAt.none_none,SeqAt.RcNeAt.none_none,SeqAt.EqAt.same _⟩
     | _=>cases h
   | tup ds =>
     cases d' with
     | tup es =>
       have h0:=h
       unfold eqD at h
       obtain⟨b,h1,rfl⟩:=Option.map_eq_some_iff.mp h
       obtain⟨p,vs,rfl,q1,q2⟩:=rep_tup.mp r1
       obtain⟨p',vs',rfl,q3,q4⟩:=rep_tup.mp r2
       cases ru;cases rv
       obtain⟨its,w1,t1,_⟩:=I.tuple (sub.tup q1)
       obtain⟨jts,w2,t2,_⟩:=I.tuple (sub.tup q3)
       obtain⟨e1,e2⟩:=aI h1
       have l1:ds.length=its.length:=q2.length.trans w1.length
       have l2:es.length=jts.length:=q4.length.trans w2.length
       have he:∀j (a1:j < its.toArray.size) (a2:j < jts.toArray.size),SeqAt.EqAt A.in1 s its.toArray[j] jts.toArray[j] (lI (eqD n) ds es j):=fun j a1 a2=>by
         have b1:j < ds.length:=by rw[l1];simpa using a1
         have b2:j < es.length:=by rw[l2];simpa using a2
         obtain⟨v1,f1,g1⟩:=q2.get (List.getElem?_eq_getElem b1)
         obtain⟨v2,f2,g2⟩:=q4.get (List.getElem?_eq_getElem b2)
         obtain⟨u1,f3,g3⟩:=w1.get f1
         obtain⟨u2,f4,g4⟩:=w2.get f2
         have x1:its.toArray[j]=u1:=by
           have:=(List.getElem?_eq_some_iff.mp f3).2
           simpa using this
         have x2:jts.toArray[j]=u2:=by
           have:=(List.getElem?_eq_some_iff.mp f4).2
           simpa using this
         rw[x1,x2]
         exact(ih A.in1 _ _ v1 v2 u1 u2 _ hin (e2 j _ _ (List.getElem?_eq_getElem b1) (List.getElem?_eq_getElem b2)) g1 g2 g3 g4).2.2
       have ek:((List.range (min its.toArray.size jts.toArray.size)).all (lI (eqD n) ds es)&&its.toArray.size==jts.toArray.size)=(b&&ds.length==es.length):=by
         rw[List.size_toArray,List.size_toArray,←l1,←l2,e1]
       have R1:=SeqAt.RcAt.tuples t1 t2 hu1 he
       have R2:=SeqAt.RcNeAt.tuples t1 t2 hu1 he
       rw[ek] at R1 R2
       refine⟨R1,R2,?_⟩
       by_cases hp:p=p'
       · subst hp
         have hk:=zWU I sub (n+1) (.tup ds) (.tup es) (.ref p) _ h0 r1 r2
         rw[hk]
         exact SeqAt.EqAt.same _
       · exact .of_refs hp R1
     | _=>cases h
   | lst ds =>
     cases d' with
     | lst es =>
       have h0:=h
       unfold eqD at h
       obtain⟨p,vs,rfl,q1,q2⟩:=rep_lst.mp r1
       obtain⟨p',vs',rfl,q3,q4⟩:=rep_lst.mp r2
       cases ru;cases rv
       obtain⟨its,w1,t1,_⟩:=I.list (sub.seq q1)
       obtain⟨jts,w2,t2,_⟩:=I.list (sub.seq q3)
       have l1:ds.length=its.length:=q2.length.trans w1.length
       have l2:es.length=jts.length:=q4.length.trans w2.length
       have fin:SeqAt.RcAt A s (.ref p) (.ref p') k/\SeqAt.RcNeAt A s (.ref p) (.ref p') (!k):=by
         split at h
         · rename_i hl
           obtain⟨e1,e2⟩:=aI h
           have he:∀j (a1:j < its.toArray.size) (a2:j < jts.toArray.size),SeqAt.EqAt A.in1 s its.toArray[j] jts.toArray[j] (lI (eqD n) ds es j):=fun j a1 a2=>by
             have b1:j < ds.length:=by rw[l1];simpa using a1
             have b2:j < es.length:=by rw[l2];simpa using a2
             obtain⟨v1,f1,g1⟩:=q2.get (List.getElem?_eq_getElem b1)
             obtain⟨v2,f2,g2⟩:=q4.get (List.getElem?_eq_getElem b2)
             obtain⟨u1,f3,g3⟩:=w1.get f1
             obtain⟨u2,f4,g4⟩:=w2.get f2
             have x1:its.toArray[j]=u1:=by
               have:=(List.getElem?_eq_some_iff.mp f3).2
               simpa using this
             have x2:jts.toArray[j]=u2:=by
               have:=(List.getElem?_eq_some_iff.mp f4).2
               simpa using this
             rw[x1,x2]
             exact(ih A.in1 _ _ v1 v2 u1 u2 _ hin (e2 j _ _ (List.getElem?_eq_getElem b1) (List.getElem?_eq_getElem b2)) g1 g2 g3 g4).2.2
           have hsz:its.toArray.size=jts.toArray.size:=by rw[List.size_toArray,List.size_toArray,←l1,←l2,hl]
           have ek:(List.range its.toArray.size).all (lI (eqD n) ds es)=k:=by
             rw[e1,List.size_toArray,←l1,←hl,Nat.min_self]
           have R1:=SeqAt.RcAt.lists t1.isList t2.isList hsz hu1 he
           have R2:=SeqAt.RcNeAt.lists t1.isList t2.isList hsz hu1 he
           rw[ek] at R1 R2
           exact⟨R1,R2⟩
         · rename_i hl
           cases h
           have hsz:(its.toArray.size != jts.toArray.size)=true:=by
             rw[List.size_toArray,List.size_toArray,←l1,←l2]
             simpa using hl
           exact⟨SeqAt.RcAt.lists_lengths t1.isList t2.isList hsz hu1,SeqAt.RcNeAt.lists_lengths t1.isList t2.isList hsz hu1⟩
       refine⟨fin.1,fin.2,?_⟩
       by_cases hp:p=p'
       · subst hp
         have hk:=zWU I sub (n+1) (.lst ds) (.lst es) (.ref p) _ h0 r1 r2
         rw[hk]
         exact SeqAt.EqAt.same _
       · exact .of_refs hp fin.1
     | _=>cases h
   | obj C ns ds=>cases d'<;>cases h
   | exc C ns ds=>cases d'<;>cases h
end
section
variable {X:Cx} {a b c e:Expr} {fa fb:Ef} {ga gb:Lf} {pos p:Pos} {k:Nat}
def zXO:D->D->Option Bool:=eqD 8
def eR (x y:D):Option Bool:=(eqD 8 x y).map (!·)
theorem zV3 (hr:Room k X.A):CmR X .Eq zXO:=by
 refine⟨fun x y H Q=>∃G d d' b,Same G H/\Rep X.K G d x/\Rep X.K G d' y/\eqD 8 d d'=some b/\Q (.bl b) H,?_,fun d d' k G H x y Q h s rx ry q=>⟨G,d,d',k,s,rx,ry,h,q H G (.refl s)⟩⟩
 intro pins s σ H x y v u Q I rx ry ⟨G,d,d',b,sub,r1,r2,h,q⟩
 have hu:=hr.units
 exact(zQu I sub 8 X.A d d' x y v u b (by omega) h r1 r2 rx ry).1 X.prog X.w X.xe _ ⟨.bl b,H,I,rfl,q⟩
theorem bU (hr:Room k X.A):CmR X .NotEq eR:=by
 refine⟨fun x y H Q=>∃G d d' b,Same G H/\Rep X.K G d x/\Rep X.K G d' y/\eqD 8 d d'=some b/\Q (.bl (!b)) H,?_,fun d d' k G H x y Q h s rx ry q=>?_⟩
 · intro pins s σ H x y v u Q I rx ry ⟨G,d,d',b,sub,r1,r2,h,q⟩
   have hu:=hr.units
   exact(zQu I sub 8 X.A d d' x y v u b (by omega) h r1 r2 rx ry).2.1 X.prog X.w X.xe _ ⟨.bl (!b),H,I,rfl,q⟩
 · unfold eR at h
   obtain⟨b,h1,rfl⟩:=Option.map_eq_some_iff.mp h
   exact⟨G,d,d',b,s,rx,ry,h1,q H G (.refl s)⟩
def zSc:D->Option V
 | .non=>some .non
 | .bl b=>some (.bl b)
 | .int i=>some (.int i)
 | .str x=>some (.str x)
 | _=>none
def aE:List D->Option (List V)
 | []=>some []
 | d::r=>(zSc d).bind fun v=>(aE r).map fun vs=>v::vs
theorem zYY {K:PySem.W.Frag}{G:Hp}{d:D}{v x:V}(h:zSc d=some v)(r:Rep K G d x):x=v/\kX v=true:=by
 cases d with
 | non=>cases h;exact⟨rep_non.mp r,rfl⟩
 | bl b=>cases h;exact⟨rep_bl.mp r,rfl⟩
 | int i=>cases h;exact⟨rep_int.mp r,rfl⟩
 | str i=>cases h;exact⟨rep_str.mp r,rfl⟩
 | _=>cases h
theorem gX {K:PySem.W.Frag}{G:Hp}:∀ {ds:List D} {vs xs:List V},aE ds=some vs->Reps K G ds xs->xs=vs/\vs.all kX=true
 | [],_,_,h,r=>by cases h;rw[reps_nil] at r;exact⟨r,rfl⟩
 | d::t,_,_,h,r=>by
   unfold aE at h
   obtain⟨v,h1,h⟩:=Option.bind_eq_some_iff.mp h
   obtain⟨vs,h2,rfl⟩:=Option.map_eq_some_iff.mp h
   obtain⟨x,xr,rfl,r1,r2⟩:=reps_cons.mp r
   obtain⟨rfl,f1⟩:=zYY h1 r1
   obtain⟨rfl,f2⟩:=gX h2 r2
   exact⟨rfl,by rw[List.all_cons,f1,f2];rfl⟩
def zVN (x y:D):Option Bool:=(zSc x).bind fun v=>match y with
 | .lst ds=>(aE ds).map fun vs=>inV v vs
 | .tup ds=>(aE ds).map fun vs=>inV v vs
 | _=>none
theorem zQ3 {K:PySem.W.Frag}{G H:Hp}{d d':D}{x y:V}{k:Bool}(h:zVN d d'=some k)(s:Same G H)(rx:Rep K G d x)(ry:Rep K G d' y):∃p xs,y = .ref p/\(SqL K H p xs∨SqT K H p xs)/\kX x=true/\xs.all kX=true/\k=inV x xs:=by
 unfold zVN at h
 obtain⟨v,h1,h⟩:=Option.bind_eq_some_iff.mp h
 obtain⟨rfl,f1⟩:=zYY h1 rx
 cases d' with
 | lst ds =>
   obtain⟨vs,h2,rfl⟩:=Option.map_eq_some_iff.mp h
   obtain⟨p,xs,rfl,q1,q2⟩:=rep_lst.mp ry
   obtain⟨rfl,f2⟩:=gX h2 q2
   exact⟨p,_,rfl,.inl (s.seq q1),f1,f2,rfl⟩
 | tup ds =>
   obtain⟨vs,h2,rfl⟩:=Option.map_eq_some_iff.mp h
   obtain⟨p,xs,rfl,q1,q2⟩:=rep_tup.mp ry
   obtain⟨rfl,f2⟩:=gX h2 q2
   exact⟨p,_,rfl,.inr (s.tup q1),f1,f2,rfl⟩
 | _=>cases h
theorem zSj:CmR X .In zVN:=⟨_,zTx,fun d d' k G H x y Q h s rx ry q=>by
 obtain⟨p,xs,e1,e2,e3,e4,rfl⟩:=zQ3 h s rx ry
 exact⟨p,xs,e1,e2,e3,e4,q H G (.refl s)⟩⟩
def zVS (x:Int):List Int->List Int
 | []=>[x]
 | y::r=>if x<=y then x::y::r else y::zVS x r
def cZ:List Int->List Int
 | []=>[]
 | x::r=>zVS x (cZ r)
theorem eN (x:Int):∀l:List Int,(zVS x l).Perm (x::l)
 | []=>.refl _
 | y::r=>by
   unfold zVS
   split
   · exact .refl _
   · exact(List.Perm.cons y (eN x r)).trans (List.Perm.swap x y r)
theorem iE:∀l:List Int,(cZ l).Perm l
 | []=>.refl _
 | x::r=>(eN x (cZ r)).trans (.cons x (iE r))
theorem cT (x:Int):∀l:List Int,l.Pairwise (· <= ·)->(zVS x l).Pairwise (· <= ·)
 | [],_=>by unfold zVS;simp
 | y::r,h=>by
   unfold zVS
   split
   · rename_i hxy
     refine List.pairwise_cons.mpr ⟨fun z hz=>?_,h⟩
     rcases List.mem_cons.mp hz with q | q
     · rw[q];exact hxy
     · exact Int.le_trans hxy ((List.pairwise_cons.mp h).1 z q)
   · rename_i hxy
     refine List.pairwise_cons.mpr ⟨fun z hz=>?_,cT x r (List.pairwise_cons.mp h).2⟩
     rcases List.mem_cons.mp ((eN x r).mem_iff.mp hz) with q | q
     · rw[q];omega
     · exact(List.pairwise_cons.mp h).1 z q
theorem fN:∀l:List Int,(cZ l).Pairwise (· <= ·)
 | []=>.nil
 | x::r=>cT x _ (fN r)
theorem zUP {l m:List Int}(hp:l.Perm m)(hl:l.Pairwise (· <= ·))(hm:m.Pairwise (· <= ·)):l=m:=hp.eq_of_pairwise (fun a b _ _ h1 h2=>Int.le_antisymm h1 h2) hl hm
def zYA:List D->Option (List Int)
 | []=>some []
 | .int i::r=>(zYA r).map fun is=>i::is
 | _=>none
theorem jI {K:PySem.W.Frag}{G:Hp}:∀ {ds:List D} {is:List Int} {vs:List V},zYA ds=some is->Reps K G ds vs->vs=is.map V.int
 | [],_,_,h,r=>by cases h;rw[reps_nil] at r;rw[r];rfl
 | d::t,_,_,h,r=>by
   unfold zYA at h
   split at h
   · rename_i h';cases h'
   · rename_i k t' h'
     cases h'
     obtain⟨v,vr,rfl,r1,r2⟩:=reps_cons.mp r
     obtain⟨ks,h1,rfl⟩:=Option.map_eq_some_iff.mp h
     rw[jI h1 r2,rep_int.mp r1];rfl
   · cases h
theorem zXM:CallR X (.builtin "sorted") (fun xs H Q=>∃(q:Addr) (ns:List Int),xs=[V.ref q]/\SqL X.K H q (ns.map V.int)/\ns.length < 64/\∀l,H l=none->Q (.ref l) (upd H l (.lst ((cZ ns).map V.int)))):=by
 intro pins s σ H xs us Q I r h
 obtain⟨q,ns,rfl,hq,hl,k⟩:=h
 obtain⟨u,rfl,ru⟩:=pR r
 cases ru
 obtain⟨its,rv,pl,hz⟩:=I.list hq
 have hi:=zUR rv
 have hlen:its.length < 64:=by rw[←rv.length,List.length_map];exact hl
 refine sorted_ints pl.isList hi hlen fun out ns' a1 a2 a3=>?_
 obtain⟨e,he⟩:=sortedAll_at s.heap its out
 have en:ns'=cZ ns:=zUP (a2.trans (iE ns).symm) a3 (fN ns)
 subst en
 have hsz:s.heap.objs.size<=s.heap.objs.size+1:=Nat.le_succ _
 refine⟨.ref (s.heap.objs.size+1),_,I.laid (t':=s.toks) (o:=.lst ((cZ ns).map V.int)) (fun b o e=>sortedAll_old e) hsz ?_,rfl,k _ (I.hok.fresh hsz)⟩
 refine⟨?_,out.toList,e,eU a1,by simpa [seqObj] using he⟩
 rw[List.length_map,(iE ns).length_eq]
 exact Nat.le_of_lt (wK (by show ns.length<=100000;omega))
theorem zYN {K:PySem.W.Frag}{G:Hp}:∀ns:List Int,Reps K G (ns.map .int) (ns.map V.int)
 | []=>reps_nil.mpr rfl
 | n::r=>reps_cons.mpr ⟨_,_,rfl,rep_int.mpr rfl,zYN r⟩
def bZ (g:Lf):Lf:=fun ρ=>(g ρ).bind fun ds=>(zYA ds).bind fun ns=>if ns.length < 64 then some ((cZ ns).map .int) else none
theorem zTF (hg:Gl X "sorted")(hm:X.mg "sorted"=none)(h:zYi X a ga)(hs:starEach [a] X.env=[(false,eval a X.env)]:=by rfl):PFr X (.Call (.Name "sorted" p) [a] [] pos) (bZ ga):=by
 refine PE.toR (oS zXM hg hm (by rfl) (yS h yB (by rw[hs];rfl)) (by decide) (by decide) (by rw[hs];rfl) (by rfl)) ?_
 rintro σ H Q ⟨G0,H0,G,ρ,d,good,hf,k⟩
 unfold bZ at hf
 obtain⟨ds,h1,hf⟩:=Option.bind_eq_some_iff.mp hf
 obtain⟨ns,h2,hf⟩:=Option.bind_eq_some_iff.mp hf
 split at hf
 · rename_i hl
   cases hf
   refine⟨G0,H0,G,ρ,_,good,h1,fun q vs H1 G1 s1 hq rs=>?_⟩
   have e:=jI h2 rs
   subst e
   refine⟨q,ns,rfl,s1.sub.seq hq,hl,fun l hl'=>?_⟩
   exact k l _ _ G1 (s1.trans (Step.own s1.sub hl')) (s1.hh.free hl') z0 (s1.sub.free hl') (zYN _)
 · cases hf
end
end L2
namespace L2
open PySem PySem.Spec PyProof.Rows
def Its (x:Str):It:=⟨fun i _=>i < x.cps.size,fun i H y H'=>H'=H/\∃c,x.cps[i]?=some c/\y = .str ⟨#[c]⟩,fun i _=>x.cps.size<=i⟩
theorem zRt {P:Program}{w:World}{K:PySem.W.Frag}{tg:Expr}(it:Addr)(ty:String)(hty:ty="str_ascii_iterator"∨ty="str_iterator")(x:Str)(t:Tok):Turn P w K tg (Its x) [it] it (fun i h=>h.IsStrIter it ty x t i) where
 mem:=by simp
 obj:=fun i h st b hb=>by
   have e:b=it:=by simpa using hb
   subst e
   obtain⟨o,e,c,d⟩:=st
   exact⟨o,e,fun v z=>by rw[d] at z;cases z⟩
 keep:=fun i h h' st k=>by
   obtain⟨o,e,r⟩:=st
   exact⟨o,k it (by simp) o e,r⟩
 item:=by
   intro X hP hw hK hc i pins s σ H E I hf st hg
   subst hP hw hK
   obtain⟨f0,f1,f2,f3,f4,f5⟩:=hf it (by simp)
   have hg:i < x.cps.size:=hg
   have hx:x.cps[i]?=some x.cps[i]:=by simp[hg]
   rcases hty with rfl | rfl
   · refine wpAny_pyNext_ascii_item st hx fun h' st' sb=>?_
     have I1:Inv X pins σ H { s with heap:=h',toks:=s.toks+1 }:=I.turned (t':=s.toks+1) (fun b o hb e=>(sb.2 b hb).trans e) f0 f1 f3 f4 f5
     obtain⟨o,e,c,d⟩:=id st'
     exact⟨_,rfl,zWT (s:={ s with heap:=h',toks:=s.toks+1 }) e c d (by decide) ⟨.str ⟨#[x.cps[i]]⟩,H,I1,⟨_,rfl⟩,⟨rfl,_,hx,rfl⟩,st',fun b hb=>(hf b hb).1⟩⟩
   · refine wpAny_pyNext_wide_item st hx fun h' st' sb=>?_
     have I1:Inv X pins σ H { s with heap:=h',toks:=s.toks+1 }:=I.turned (t':=s.toks+1) (fun b o hb e=>(sb.2 b hb).trans e) f0 f1 f3 f4 f5
     obtain⟨o,e,c,d⟩:=id st'
     exact⟨_,rfl,zWT (s:={ s with heap:=h',toks:=s.toks+1 }) e c d (by decide) ⟨.str ⟨#[x.cps[i]]⟩,H,I1,⟨_,rfl⟩,⟨rfl,_,hx,rfl⟩,st',fun b hb=>(hf b hb).1⟩⟩
 done:=by
   intro X hP hw hK hc i pins s σ H E I hf st hg
   subst hP hw hK
   obtain⟨f0,f1,f2,f3,f4,f5⟩:=hf it (by simp)
   have hg:x.cps.size<=i:=hg
   have hx:x.cps[i]?=none:=by simp[hg]
   rcases hty with rfl | rfl
   · exact wpAny_pyNext_ascii_end (I.ok.hd hc) st hx fun h' eb=>⟨rfl,I.turned (t':=s.toks) (fun b o hb e=>eb b o hb e) f0 f1 f3 f4 f5⟩
   · exact wpAny_pyNext_wide_end (I.ok.hd hc) st hx fun h' eb=>⟨rfl,I.turned (t':=s.toks) (fun b o hb e=>eb b o hb e) f0 f1 f3 f4 f5⟩
 self:=fun _ _ _ _ _ st h=>by
   rcases hty with rfl | rfl
   · exact wpAny_pyIter_striter_ascii st h
   · exact wpAny_pyIter_striter_wide st h
def zZN (x:Str):List D:=x.cps.toList.map fun c=>.str ⟨#[c]⟩
theorem zVh {K:PySem.W.Frag}{G:Hp}{x:Str}:eB K (Its x) G (zZN x):=by
 intro i G2 H2 s1 s2
 have hl:(zZN x).length=x.cps.size:=by simp[zZN]
 refine⟨fun d hd=>?_,fun hi=>by rw[hl] at hi;exact hi⟩
 have hi:i < x.cps.size:=by rw[←hl];exact(List.getElem?_eq_some_iff.mp hd).1
 refine⟨hi,fun y H3 q=>?_⟩
 obtain⟨rfl,c,hc,rfl⟩:=q
 unfold zZN at hd
 rw[List.getElem?_map,Array.getElem?_toList,hc] at hd
 cases hd
 exact⟨G2,.refl s2,rep_str.mpr rfl⟩
section
variable {X:Cx} {a b c e tg elt iter:Expr} {es ifs:List Expr} {fa fb fc:Ef} {ga gb gi:Lf} {ta tc:Tf} {pos p:Pos} {st:Stmt}
def zN5 (tl:TE):TI:=fun σ H R=>tl σ H fun x H1=>∃z,x = .str z/\R (Its z) H1
theorem zQ6 {l:Expr}{tl:TE}(hl:PE X l tl):PI X tg l (zN5 tl):=by
 intro pins s σ H R I h
 refine thn (hl pins s σ H _ I h) fun v s1 ⟨x,H1,I1,r1,q1⟩=>?_
 obtain⟨z,e,q⟩:=q1
 subst e
 obtain⟨t,rfl⟩:=r1
 have fin:∀(o:Obj) (ty:String),(ty="str_ascii_iterator"∨ty="str_iterator")->(s1.heap.push o).IsStrIter s1.heap.objs.size ty z t 0->PIE X pins σ tg R (.ref s1.heap.objs.size) { s1 with heap:=s1.heap.push o }:=fun o ty hty st=>by
   refine⟨s1.heap.objs.size,[s1.heap.objs.size],_,_,H1,rfl,I1.kept (t':=s1.toks) fun b o e=>Heap.get?_push_of_some _ e,zRt _ ty hty z t,st,fun b hb=>?_,q⟩
   have e:b=s1.heap.objs.size:=by simpa using hb
   subst e
   exact I1.fpOk (Nat.le_refl _) (I1.hok.fresh (Nat.le_refl _))
 cases ha:z.cps.all (· < 128)
 · exact wpAny_pyIter_wide ha (fin _ _ (.inr rfl) ⟨_,Heap.get?_push_size _ rfl,rfl,rfl⟩)
 · exact wpAny_pyIter_ascii ha (fin _ _ (.inl rfl) ⟨_,Heap.get?_push_size _ rfl,rfl,rfl⟩)
def iS (f:Ef):Lf:=fun ρ=>(f ρ).bind fun d=>match d with | .str x=>some (zZN x) | _=>none
theorem zQm (h:PF X e fa):PFI X tg e (iS fa):=by
 refine PI.to (zQ6 h) ?_
 rintro σ H R ⟨G0,H0,G,ρ,ds,good,hf,k⟩
 unfold iS at hf
 obtain⟨d,h1,hf⟩:=Option.bind_eq_some_iff.mp hf
 cases d with
 | str x =>
   cases hf
   refine⟨G0,H0,G,ρ,_,good,h1,fun v H1 G1 s1 r1=>?_⟩
   exact⟨x,rep_str.mp r1,k _ H1 G1 s1 zVh⟩
 | _=>cases hf
def gIn:D->D->Option Bool | .str i,.str j=>some (!(Builtin.Str.occurrences j i 0 j.length 1).isEmpty) | _,_=>none
theorem zOm:CmR X .In gIn:=⟨_,zTu,fun d d' k G H x y Q h s rx ry q=>by
 unfold gIn at h
 split at h
 · cases h;exact⟨_,_,rep_str.mp rx,rep_str.mp ry,q H G (.refl s)⟩
 · cases h⟩
def eB3 (g g':D->D->Option Bool)(fa fb fc:Ef):Tf:=fun ρ=>(fa ρ).bind fun x=>(fb ρ).bind fun y=>(g x y).bind fun k=>if k=true then(fc ρ).bind fun z=>g' y z else some false
theorem zWW {op op':CmpOp}{g g':D->D->Option Bool}(hc1:CmR X op g)(hc2:CmR X op' g')(ha:PF X a fa)(hb:PF X b fb)(hc:PF X c fc)(hm:lastMarks [op,op'] [b,c]=false:=by with_unfolding_all rfl):PF X (.Compare a [op,op'] [b,c] pos) (xJ (eB3 g g' fa fb fc)):=by
 obtain⟨r,ho,hr⟩:=hc1
 obtain⟨r',ho',hr'⟩:=hc2
 refine PE.to (zSS ho ho' ha hb hc hm) ?_
 rintro σ H Q ⟨G0,H0,G,ρ,d,good,hf,k⟩
 obtain⟨b',hf2,rfl⟩:=aS hf
 unfold eB3 at hf2
 obtain⟨x,h1,hf2⟩:=Option.bind_eq_some_iff.mp hf2
 obtain⟨y,h2,hf2⟩:=Option.bind_eq_some_iff.mp hf2
 obtain⟨kk,h3,hf2⟩:=Option.bind_eq_some_iff.mp hf2
 refine⟨G0,H0,G,ρ,_,good,h1,fun u H1 G1 s1 r1=>⟨G0,H0,G1,ρ,_,good.step s1,h2,fun v H2 G2 s2 r2=>?_⟩⟩
 refine hr x y kk G2 H2 u v _ h3 s2.sub (r1.mono s2.gg) r2 fun H3 G3 s3=>⟨kk,rfl,?_⟩
 split at hf2
 · rename_i hk
   rw[if_pos hk]
   obtain⟨z,h4,hf3⟩:=Option.bind_eq_some_iff.mp hf2
   refine⟨G0,H0,G3,ρ,_,((good.step s1).step s2).step s3,h4,fun w' H4 G4 s4 r4=>?_⟩
   exact hr' y z b' G4 H4 v w' Q hf3 s4.sub ((r2.mono s3.gg).mono s4.gg) r4 fun H5 G5 s5=>k _ _ G5 ((((s1.trans s2).trans s3).trans s4).trans s5) (rep_bl.mpr rfl)
 · rename_i hk
   rw[if_neg hk];cases hf2
   exact k _ _ G3 ((s1.trans s2).trans s3) (rep_bl.mpr rfl)
def zOo:D->D->Option D
 | .int i,.int j=>some (.int (i+j))
 | .str i,.str j=>if i.length+j.length<=lim then some (.str (i++j)) else none
 | _,_=>none
def yD (fa fb:Ef):Ef:=fun ρ=>(fa ρ).bind fun x=>(fb ρ).bind fun y=>zOo x y
theorem oF (ha:PF X a fa)(hb:PF X b fb):PF X (.BinOp a .Add b pos) (yD fa fb):=by
 refine PE.to (aZ (op_add.or zVI) ha hb) ?_
 rintro σ H Q ⟨G0,H0,G,ρ,d,good,hf,k⟩
 unfold yD at hf
 obtain⟨x,h1,hf⟩:=Option.bind_eq_some_iff.mp hf
 obtain⟨y,h2,hf⟩:=Option.bind_eq_some_iff.mp hf
 refine⟨G0,H0,G,ρ,_,good,h1,fun u H1 G1 s1 r1=>⟨G0,H0,G1,ρ,_,good.step s1,h2,fun v H2 G2 s2 r2=>?_⟩⟩
 have r1:=r1.mono s2.gg
 unfold zOo at hf
 split at hf
 · cases hf;exact .inl ⟨_,_,rep_int.mp r1,rep_int.mp r2,k _ _ G2 (s1.trans s2) (rep_int.mpr rfl)⟩
 · split at hf
   · rename_i hz;cases hf;exact .inr ⟨_,_,rep_str.mp r1,rep_str.mp r2,Nat.le_of_lt (wK hz),k _ _ G2 (s1.trans s2) (rep_str.mpr rfl)⟩
   · cases hf
 · cases hf
def zPP:V->List V->Hp->VK->Prop:=fun x vs H Q=>∃a b,x = .str a/\vs=[.str b]/\Q (.int (Txt.find a b)) H
theorem zXR:MtR X "str.find" zPP:=by
 intro pins s σ H x xs v us Q I rx rv h
 obtain⟨a,b,rfl,rfl,q⟩:=h
 obtain⟨t,rfl⟩:=rx
 obtain⟨u,rfl,t',rfl⟩:=rv.one
 exact SC.find ⟨.int _,H,I.tok _,⟨_,rfl⟩,q⟩
def dP (fa fb:Ef):Ef:=fun ρ=>(fa ρ).bind fun x=>(fb ρ).bind fun y=>match x,y with | .str a,.str b=>some (.int (Txt.find a b)) | _,_=>none
theorem zXJ (ht:PE X c (tBM X.K "str" zPP (tF X.K fa) (cS (tF X.K fb) zXk))):PF X c (dP fa fb):=by
 refine PE.to ht ?_
 rintro σ H Q ⟨G0,H0,G,ρ,d,good,hf,k⟩
 unfold dP at hf
 obtain⟨x,h1,hf⟩:=Option.bind_eq_some_iff.mp hf
 obtain⟨y,h2,hf⟩:=Option.bind_eq_some_iff.mp hf
 split at hf
 · cases hf
   refine⟨G0,H0,G,ρ,_,good,h1,fun u H1 G1 s1 r1=>?_⟩
   have r1:=rep_str.mp r1
   subst r1
   refine⟨rfl,G0,H0,G1,ρ,_,good.step s1,h2,fun v H2 G2 s2 r2=>?_⟩
   have r2:=rep_str.mp r2
   subst r2
   exact⟨_,_,rfl,rfl,k _ _ G2 (s1.trans s2) (rep_int.mpr rfl)⟩
 · cases hf
end
end L2
namespace L2
open PySem PySem.Spec PyProof.Rows
section
variable {X:Cx} {a b c e tg elt iter:Expr} {es ifs:List Expr} {fa fb fc:Ef} {ga gb gi:Lf} {ta tc:Tf} {pos p:Pos} {st:Stmt}
def rZ (f:Ef):Ef:=fun ρ=>(f ρ).bind fun d=>match d with | .int i=>if i.natAbs.log2 < 1920 then some (.str (Str.ofString (toString i))) else none | _=>none
theorem zWh (hg:Gl X "str")(hm:X.mg "str"=none)(h:PF X a fa)(hs:starEach [a] X.env=[(false,eval a X.env)]:=by rfl):PF X (.Call (.Name "str" p) [a] [] pos) (rZ fa):=by
 refine PE.to (qD zXu hg hm (by rfl) (yS h yB (by rw[hs];rfl)) (by decide) (by decide) (by rw[hs];rfl) (by rfl)) ?_
 rintro σ H Q ⟨G0,H0,G,ρ,d,good,hf,k⟩
 unfold rZ at hf
 obtain⟨x,h1,hf⟩:=Option.bind_eq_some_iff.mp hf
 refine⟨G0,H0,G,ρ,_,good,h1,fun v H1 G1 s1 r1=>?_⟩
 cases x with
 | int i =>
   dsimp only at hf
   split at hf
   · rename_i hz
     cases hf
     exact⟨i,by rw[rep_int.mp r1],hz,k _ _ G1 s1 (rep_str.mpr rfl)⟩
   · cases hf
 | _=>cases hf
theorem zTW:CallR X (.type "int") (fun xs H Q=>∃x n,xs=[.str x]/\x.length<=640/\PySem.intText? x=some n/\Q (.int n) H):=by
 intro pins s σ H xs us Q I r h
 obtain⟨x,n,rfl,hl,hn,q⟩:=h
 obtain⟨u,rfl,t,rfl⟩:=pR r
 exact PySem.W.KIN.call_text hn hl ⟨.int n,H,I.tok _,⟨_,rfl⟩,q⟩
def zOc:D->Option D
 | .int i=>some (.int i)
 | .bl k=>some (.int (if k then 1 else 0))
 | .str x=>if x.length<=640 then(PySem.intText? x).map .int else none
 | _=>none
def hZ (f:Ef):Ef:=fun ρ=>(f ρ).bind zOc
theorem zWP (hg:Gl X "int")(hm:X.mg "int"=none)(h:PF X a fa)(hs:starEach [a] X.env=[(false,eval a X.env)]:=by rfl):PF X (.Call (.Name "int" p) [a] [] pos) (hZ fa):=by
 refine PE.to (qD (call_int1.or zTW) hg hm (by rfl) (yS h yB (by rw[hs];rfl)) (by decide) (by decide) (by rw[hs];rfl) (by rfl)) ?_
 rintro σ H Q ⟨G0,H0,G,ρ,d,good,hf,k⟩
 unfold hZ at hf
 obtain⟨x,h1,hf⟩:=Option.bind_eq_some_iff.mp hf
 refine⟨G0,H0,G,ρ,_,good,h1,fun v H1 G1 s1 r1=>?_⟩
 unfold zOc at hf
 split at hf
 · cases hf;exact .inl (.inl ⟨_,by rw[rep_int.mp r1],k _ _ G1 s1 (rep_int.mpr rfl)⟩)
 · cases hf;exact .inl (.inr ⟨_,by rw[rep_bl.mp r1],k _ _ G1 s1 (rep_int.mpr rfl)⟩)
 · split at hf
   · rename_i hz
     obtain⟨n,h2,rfl⟩:=Option.map_eq_some_iff.mp hf
     exact .inr ⟨_,n,by rw[rep_str.mp r1],hz,h2,k _ _ G1 s1 (rep_int.mpr rfl)⟩
   · cases hf
 · cases hf
theorem zQ2:OpR X (binaryOp .Mult) (rI IntMulOk fun i j=>.int (i*j)):=opI fun _ _ _ _ _ _ _ hc q=>mul_int q hc
theorem zQ0:OpR X (binaryOp .Add) (fun x y H Q=>∃l b xs zs,x = .ref l/\y = .ref b/\SqL X.K H l xs/\SqL X.K H b zs/\xs.length+zs.length<=sizeLine/\∀p,H p=none->Q (.ref p) (upd H p (.lst (xs++zs)))):=by
 intro pins s σ H x y v u Q I rx ry h
 obtain⟨l,b,xs,zs,rfl,rfl,hH,hB,hz,q⟩:=h
 cases rx
 cases ry
 obtain⟨its,r,pl,_⟩:=I.list hH
 obtain⟨its2,r2,pl2,_⟩:=I.list hB
 obtain⟨⟨cls,dd,data,sl⟩,ho,hc,n,hd⟩:=pl.isList
 obtain⟨⟨cls2,dd2,data2,sl2⟩,ho2,hc2,n2,hd2⟩:=pl2.isList
 simp only at hc hd hc2 hd2
 subst hc hd hc2 hd2
 have hl:=r.length
 have hl2:=r2.length
 have e:its.toArray++its2.toArray=(its++its2).toArray:=by simp
 refine concat_meets ⟨_,ho,rfl⟩ ⟨_,ho2,rfl⟩ noFill_list_add seq_list_add PySem.F.slot_list_add PySem.F.entry_list_add (PySem.F.args_list_add_2 _ _) (list_addW l b its.toArray its2.toArray n n2 dd dd2 sl sl2 (by rw[List.size_toArray,List.size_toArray];omega)) ⟨ho,ho2,?_⟩
 rw[e]
 exact⟨.ref _,_,I.lnew (t':=s.toks) (r.append r2) (by rw[List.length_append];omega),rfl,q _ I.fresh⟩
theorem zXq (ha:zYi X a ga)(hb:zYi X b gb):PFr X (.BinOp a .Add b pos) (hG ga gb):=by
 refine PE.toR (aZ zQ0 ha hb) ?_
 rintro σ H Q ⟨G0,H0,G,ρ,d,good,hf,k⟩
 unfold hG at hf
 obtain⟨xs,h1,hf⟩:=Option.bind_eq_some_iff.mp hf
 obtain⟨ys,h2,hf⟩:=Option.bind_eq_some_iff.mp hf
 obtain⟨rfl,h3⟩:=gQ hf
 refine⟨G0,H0,G,ρ,_,good,h1,fun p vs H1 G1 s1 hq rs=>⟨G0,H0,G1,ρ,_,good.step s1,h2,fun q us H2 G2 s2 hq2 rs2=>?_⟩⟩
 refine⟨p,q,vs,us,rfl,rfl,(s1.sub.trans s2.hh).seq hq,s2.sub.seq hq2,?_,fun l hl=>?_⟩
 · rw[←rs.length,←rs2.length,←List.length_append];exact Nat.le_of_lt (wK h3)
 · have s3:=Step.own (o:=.lst (vs++us)) s2.sub hl
   exact k l _ _ G2 ((s1.trans s2).trans s3) ((s1.trans s2).hh.free hl) z0 (s2.sub.free hl) ((rs.mono s2.gg).append rs2)
def zZe:List D->Option (List Str)
 | []=>some []
 | .str x::r=>(zZe r).map fun xs=>x::xs
 | _=>none
theorem zYR {K:PySem.W.Frag}{G:Hp}:∀ {ds:List D} {ys:List Str} {vs:List V},zZe ds=some ys->Reps K G ds vs->vs=ys.map V.str
 | [],_,_,h,r=>by cases h;rw[reps_nil] at r;rw[r];rfl
 | d::t,_,_,h,r=>by
   unfold zZe at h
   split at h
   · rename_i h';cases h'
   · rename_i k t' h'
     cases h'
     obtain⟨v,vr,rfl,r1,r2⟩:=reps_cons.mp r
     obtain⟨ks,h1,rfl⟩:=Option.map_eq_some_iff.mp h
     rw[zYR h1 r2,rep_str.mp r1];rfl
   · cases h
theorem zVB {ns:List Str}:∀ {us:List Value},Vals (ns.map V.str) us->StrsAre us ns:=by
 induction ns with
 | nil=>intro us r;rw[List.map_nil] at r;cases r;exact .nil
 | cons n ns ih =>
   intro us r
   rw[List.map_cons] at r
   cases r with
   | cons r1 r2 =>
     obtain⟨t,e⟩:=r1
     subst e
     exact .cons n t (ih r2)
def zPN (K:PySem.W.Frag):V->List V->Hp->VK->Prop:=fun x vs H Q=>∃z p ys,x = .str z/\vs=[.ref p]/\SqL K H p (ys.map V.str)/\(ys.map (·.length)).sum+ys.length*z.length<=16777216/\Q (.str (Txt.join z ys)) H
theorem zXS:MtR X "str.join" (zPN X.K):=by
 intro pins s σ H x xs v us Q I rx rv h
 obtain⟨z,p,ys,rfl,rfl,hq,hz,q⟩:=h
 obtain⟨t,rfl⟩:=rx
 obtain⟨u,rfl,ru⟩:=rv.one
 cases ru
 obtain⟨its,r,pl,_⟩:=I.list hq
 exact join_list pl.isList (by simpa using zVB r) hz fun t' k=>⟨.str _,H,I.tok k,⟨t',rfl⟩,q⟩
def sQ (fa:Ef)(ga:Lf):Ef:=fun ρ=>(fa ρ).bind fun x=>(ga ρ).bind fun ds=>match x with | .str z=>(zZe ds).bind fun ys=>if (ys.map (·.length)).sum+ys.length*z.length<=100000 then some (.str (Txt.join z ys)) else none | _=>none
theorem zXP (ht:PE X c (tBM X.K "str" (zPN X.K) (tF X.K fa) (cS (zSx X.K ga) zXk))):PF X c (sQ fa ga):=by
 refine PE.to ht ?_
 rintro σ H Q ⟨G0,H0,G,ρ,d,good,hf,k⟩
 unfold sQ at hf
 obtain⟨x,h1,hf⟩:=Option.bind_eq_some_iff.mp hf
 obtain⟨ds,h2,hf⟩:=Option.bind_eq_some_iff.mp hf
 cases x with
 | str z =>
   dsimp only at hf
   obtain⟨ys,h3,hf⟩:=Option.bind_eq_some_iff.mp hf
   split at hf
   · rename_i hz
     cases hf
     refine⟨G0,H0,G,ρ,_,good,h1,fun u H1 G1 s1 r1=>?_⟩
     have r1:=rep_str.mp r1
     subst r1
     refine⟨rfl,G0,H0,G1,ρ,_,good.step s1,h2,fun q vs H2 G2 s2 hq rs=>?_⟩
     have e:=zYR h3 rs
     subst e
     exact⟨z,q,ys,rfl,rfl,s2.sub.seq hq,Nat.le_trans hz (by decide),k _ _ G2 (s1.trans s2) (rep_str.mpr rfl)⟩
   · cases hf
 | _=>cases hf
end
structure FunD (K:PySem.W.Frag)(x qual:Str)(st:Stmt)(f:Addr)(fd:FuncData):Prop where
 ex:∃(oc:Value) (od:Option Addr) (dV kV doc pm:Value) (an:Option Addr) (cdv ct:Value) (osl:Array (Option Value)),
   fd=PySem.W.fnOf x qual (zP st) (zQ st) (zX st) dV kV doc pm an cdv ct/\K.lookup f=some ⟨oc,od,.func fd,osl⟩/\PySem.W.codeIn K cdv qual=true
 kp:PySem.W.keepIn K (.ref f)=true
section
variable {P:Program} {w:World} {K:PySem.W.Frag} {mg:Str->Option Value} {base:Heap} {x qual:Str} {st:Stmt} {f:Addr} {fd:FuncData} {N ps:List Str} {k:Nat}
end
section
variable {X:Cx} {e:Expr} {es:List Expr} {ga:Lf} {pos p:Pos}
end
end L2
namespace L2
open PySem PySem.Spec PyProof.Rows
theorem zZ9 {K:PySem.W.Frag}{G:Hp}{f:Str}{d:D}:∀ {ns:List Str} {ds:List D} {vs:List V},ns.length=ds.length->Reps K G ds vs->(ns.zip ds).lookup f=some d->∃u,(ns.zip vs).lookup f=some u/\Rep K G d u
 | [],_,_,_,_,h=>by simp at h
 | n::ns,[],_,hl,_,_=>by simp at hl
 | n::ns,e::ds,_,hl,r,h=>by
   obtain⟨v,vr,rfl,r1,r2⟩:=reps_cons.mp r
   rw[List.zip_cons_cons,List.lookup_cons] at h ⊢
   cases hq:f==n with
   | true=>rw[hq] at h;cases h;exact⟨v,rfl,r1⟩
   | false=>rw[hq] at h;exact zZ9 (by simpa using hl) r2 h
section
variable {X:Cx} {a b c e tg elt iter:Expr} {es ifs:List Expr} {fa fb fc:Ef} {ga gb gi:Lf} {ta tc:Tf} {pos p:Pos} {st:Stmt}
def xY (c f:Str)(fa:Ef):Ef:=fun ρ=>(fa ρ).bind fun d=>match d with | .obj c' ns ds=>if c'=c then(ns.zip ds).lookup f else none | _=>none
theorem wL {C:Addr}{c f:Str}(hC:ClsAt X.K c C)(hcl:Cls X.K C)(hn:NoAttr X.K C f)(ha:PF X a fa)(hb:attributeBase a f X.env (eval a X.env)=eval a X.env:=by rfl):PF X (.Attribute a f pos) (xY c f fa):=by
 refine PE.to (zPv ha hb) ?_
 rintro σ H Q ⟨G0,H0,G,ρ,d,good,hf,k⟩
 unfold xY at hf
 obtain⟨x,h1,hf2⟩:=Option.bind_eq_some_iff.mp hf
 cases x with
 | obj c' ns ds =>
   dsimp only at hf2
   by_cases hc:c'=c
   · rw[if_pos hc] at hf2
     subst hc
     refine⟨G0,H0,G,ρ,_,good,h1,fun v H1 G1 s1 r1=>?_⟩
     obtain⟨C',q,dx,vs,e0,rfl,e1,e2,e3⟩:=rep_obj.mp r1
     have ec:=hC.one e0
     subst ec
     obtain⟨u,e4,e5⟩:=zZ9 e2 e3 hf2
     exact⟨q,_,dx,ns.zip vs,u,rfl,s1.sub _ _ e1,hcl,hn,e4,k _ _ G1 s1 e5⟩
   · rw[if_neg hc] at hf2;cases hf2
 | _=>cases hf2
theorem zW1 {f:Str}{y:V}:∀ {ns:List Str} {vs:List V},ns.length=vs.length->f∉ns->kS f y (ns.zip vs)=(ns++[f]).zip (vs++[y])
 | [],[],_,_=>rfl
 | [],_::_,h,_=>by simp at h
 | _::_,[],h,_=>by simp at h
 | n::ns,v::vs,h,hf=>by
   show(if n=f then _ else(n,v)::kS f y (ns.zip vs))=_
   rw[if_neg (fun z=>hf (by rw[z];exact List.mem_cons_self)),zW1 (by simpa using h) (fun z=>hf (List.mem_cons_of_mem _ z))]
   rfl
def zPY (K:PySem.W.Frag)(C:Addr)(ns:List Str)(g:Lf):TS:=fun DD σ H=>∃(G0 H0 G:Hp) (ρ:List B) (p dx:Addr) (pre:List Str) (us:List V) (xs ds:List D),
 Good K G0 H0 G H σ ρ/\zZo ρ/\σ[0]?=some (some (.ref p))/\H p=some (.ins C dx (pre.zip us))/\G p=none/\H0 p=none/\pre.length=us.length/\(pre++ns).Nodup/\(pre++ns).length<=900/\Reps K G xs us/\g ρ=some ds /\
 ∀H' G' vs,Step G0 H0 G' H'->H' p=some (.ins C dx ((pre++ns).zip vs))->G' p=none->Reps K G' (xs++ds) vs->DD.nx σ H'
theorem zUj {C:Addr}:PSs X [] (zPY X.K C [] zS):=by
 intro pins s σ H D I h
 refine zUg pins s σ H D I ?_
 obtain⟨G0,H0,G,ρ,p,dx,pre,us,xs,ds,good,now,hs,hp,gp,h0,hl,nd,hz,rs,hg,k⟩:=h
 cases hg
 rw[List.append_nil] at k
 exact k H G us good.st (by rw[List.append_nil] at *;exact hp) gp (by rw[List.append_nil];exact rs)
theorem pB {C:Addr}{f x:Str}{ns:List Str}{g:Lf}{rest:List Stmt}{pos' p1:Pos}(hcl:Cls X.K C)(hn:NoAttr X.K C f)(hself:X.N[0]?=some x)(hvis:Vis X.env.scope x)(he:PF X e fa)(hr:PSs X rest (zPY X.K C ns g))(hd:(x==("__debug__":Str))=false:=by decide)(hcd:(x==("__classdict__":Str))=false:=by decide)
   (hs:swapsWith e (some (.Attribute (.Name x p1) f pos')) pos.line X.env=pure false:=by rfl):PSs X (.Assign [.Attribute (.Name x p1) f pos'] e pos::rest) (zPY X.K C (f::ns) (zZ fa g)):=by
 intro pins s σ H D I h
 refine zW6 (zPK (nL hself hvis hd hcd) he hs) hr pins s σ H D I ?_
 obtain⟨G0,H0,G,ρ,p,dx,pre,us,xs,ds,good,now,hself,hp,gp,h0,hl,nd,hz,rs,hg,k⟩:=h
 obtain⟨d,dr,h1,h2,rfl⟩:=zZj hg
 have hlp:pre.length < 1000:=by rw[List.length_append] at hz;omega
 have hnp:f∉pre:=fun z=>(List.nodup_append.mp nd).2.2 f z f List.mem_cons_self rfl
 have e1:pre++f::ns=(pre++[f])++ns:=by simp
 refine⟨G0,H0,G,ρ,d,good,h1,fun v H1 G1 s1 r1=>⟨.ref p,hself,p,C,dx,pre.zip us,rfl,s1.hh _ _ hp,hcl,hn,?_,?_⟩⟩
 · rw[List.length_zip];omega
 · have hne:H p≠none:=by rw[hp];exact fun z=>nomatch z
   have gp1:G1 p=none:=(s1.new p hne).trans gp
   refine⟨G0,H0,G1,ρ,p,dx,pre++[f],us++[v],xs++[d],dr,(good.step s1).wrX now gp1 h0,now,hself,?_,gp1,h0,by rw[List.length_append,List.length_append,hl];rfl,by rw[←e1];exact nd,by rw[←e1];exact hz,(rs.mono s1.gg).snoc r1,h2,fun H' G' vs st q1 q2 q3=>?_⟩
   · rw[z0,zW1 hl hnp]
   · refine k H' G' vs st (by rw[e1];exact q1) q2 ?_
     rw[show xs++d::dr=(xs++[d])++dr by simp]
     exact q3
end
def spI (K:PySem.W.Frag)(C:Addr)(ns:List Str)(n:Nat)(f:List D->Option (List D)):Sp:=fun vs H Q _=>∃(p dx:Addr) (rest:List V) (G H0:Hp) (ds xs:List D),vs = .ref p::rest/\H=upd (upd H0 dx (.own p)) p (.ins C dx [])/\H0 p=none/\H0 dx=none/\dx≠p/\Same G H0/\Reps K G ds rest/\ds.length=n/\f ds=some xs /\
 ∀H' G' us,Step G H0 G' H'->H' p=some (.ins C dx (ns.zip us))->G' p=none->Reps K G' xs us->Q .non H'
theorem zYO {K:PySem.W.Frag}{G H0 H:Hp}(m:Nat):∀ {ds:List D} {vs:List V},Reps K G ds vs->Paired (RB K H0 G H) (vs.map some++List.replicate m none) (ds.map .fz++List.replicate m .no)
 | [],_,h=>by
   rw[reps_nil] at h;subst h
   show Paired _ (List.replicate m none) (List.replicate m B.no)
   induction m with
   | zero=>exact .nil
   | succ n ih=>rw[List.replicate_succ,List.replicate_succ];exact .cons .no ih
 | d::r,_,h=>by
   obtain⟨v,vr,rfl,h1,h2⟩:=reps_cons.mp h
   exact .cons (.fz h1) (zYO m h2)
theorem zUE (m:Nat)(ds:List D):zZo (.no::(ds.map B.fz++List.replicate m B.no)):=by
 constructor
 all_goals
   intro j es h
   cases j with
   | zero=>cases h
   | succ j =>
     rw[List.getElem?_cons_succ] at h
     by_cases hi:j < ds.length
     · rw[List.getElem?_append_left (by simpa using hi),List.getElem?_map] at h
       obtain⟨k,_,h⟩:=Option.map_eq_some_iff.mp h
       cases h
     · rw[List.getElem?_append_right (by simpa using hi),List.getElem?_replicate] at h
       split at h<;>cases h
def aO (N:Nat)(ds:List D):List B:=.no::(ds.map .fz++List.replicate (N - (ds.length+1)) .no)
section
variable {P:Program} {w:World} {K:PySem.W.Frag} {mg:Str->Option Value} {base:Heap} {x qual:Str} {st:Stmt} {f C:Addr} {fd:FuncData} {N ps ns:List Str} {k:Nat} {sf:Str}
theorem zUz {g:Lf}(F:Fun K x qual st f fd)(S:FnScope N (sf::ps) (zX st))(hnd:ns.Nodup)(hlen:ns.length<=900)
   (hb:∀(cdv:Value) (A:Around) (outer:List Env) (s:Shared) (H:Hp) (E:XK),Room k (A.deeper (envOfC qual (zX st) s.heap.objs.size f cdv))->PSs (zXn CX0 P w K mg base N qual (zX st) f cdv A outer s H E).nox (zQ st) (zPY K C ns g)) :
   FnOk P w K mg base CX0 (k+1) f fd (sf::ps) (spI K C ns ps.length fun ds=>g (aO N.length ds)):=by
 refine F.ok S (fun vs H Q E h=>?_) (fun cdv A outer s H vs Q E hr h=>⟨_,hb cdv A outer s H E hr,?_⟩)
 · obtain⟨p,dx,rest,G,H0,ds,xs,rfl,_,_,_,_,_,rs,hl,_⟩:=h
   rw[List.length_cons,List.length_cons,←rs.length,hl]
 · obtain⟨p,dx,rest,G,H0,ds,xs,rfl,rfl,h1,h2,h3,sub,rs,hl,hf,k⟩:=h
   have hne:p≠dx:=h3.symm
   have hp1:(upd H0 dx (.own p)) p=none:=by rw[yP hne];exact h1
   have st1:Step G H0 G (upd H0 dx (.own p)):=Step.own sub h2
   have st2:Step G H0 G (upd (upd H0 dx (.own p)) p (.ins C dx [])):=st1.trans (Step.own st1.sub hp1)
   have good:Good K G H0 G (upd (upd H0 dx (.own p)) p (.ins C dx [])) (kU N (.ref p::rest)) (aO N.length ds):=by
     refine⟨st2,?_,fun i j a es es' q1=>absurd q1 ((zUE _ ds).1 i es)⟩
     unfold kU aO
     rw[List.map_cons,List.length_cons,List.cons_append,←rs.length]
     exact .cons .no (zYO _ rs)
   refine⟨G,H0,G,_,p,dx,[],[],[],xs,good,zUE _ ds,rfl,z0,sub.free h1,h1,rfl,hnd,hlen,reps_nil.mpr rfl,hf,fun H' G' us s' q1 q2 q3=>k H' G' us s' q1 q2 q3⟩
end
section
variable {X:Cx} {a b c e tg elt iter:Expr} {es ifs:List Expr} {fa fb fc:Ef} {ga gb gi:Lf} {ta tc:Tf} {pos p:Pos} {st:Stmt}
def bR (c:Str)(ns:List Str)(n:Nat)(f:List D->Option (List D))(g:Lf):Ef:=fun ρ=>(g ρ).bind fun ds=>if ds.length=n then(f ds).bind fun xs=>if ns.length=xs.length then some (.obj c ns xs) else none else none
theorem zUs {k n:Nat}{C fI:Addr}{fd:FuncData}{ps ns:List Str}{c:Str}{f:List D->Option (List D)}(hC:ClsAt X.K c C)(M:Mk X.K C fI)(F:FnOk X.prog X.w X.K X.mg X.base CX0 k fI fd ps (spI X.K C ns n f))(hr:Room (k+1) X.A)(hm:X.mg c=some (.ref C))(hb:Binds X.K fd ps [])(hg:Gl X c)
   (ha:PFA X (e::es) ga) (hdb:(c==("__debug__":Str))=false:=by decide) (he:starEach (e::es) X.env=(false,eval e X.env)::starEach es X.env:=by rfl) (hpl:(backTo pos (starEach es X.env)).any (·.1)=false:=by rfl) :
   PF X (.Call (.Name c p) (e::es) [] pos) (bR c ns n f ga):=by
 refine PE.to (zQL (E:=E0) M F hr hg hm hb .nil zSy ha hdb he hpl) ?_
 rintro σ H Q ⟨G0,H0,G,ρ,d,good,hf,k⟩
 unfold bR at hf
 obtain⟨ds,h1,hf⟩:=Option.bind_eq_some_iff.mp hf
 split at hf
 · rename_i hl
   obtain⟨xs,h2,hf⟩:=Option.bind_eq_some_iff.mp hf
   split at hf
   · rename_i hn
     cases hf
     refine⟨G0,H0,G,ρ,_,good,h1,fun vs H1 G1 s1 r1 x dx hx hdx hne=>?_⟩
     refine⟨x,dx,vs++[],G1,H1,ds,xs,rfl,rfl,hx,hdx,hne,s1.sub,by rw[List.append_nil];exact r1,hl,h2,fun H' G' us s' q1 q2 q3=>⟨rfl,?_⟩⟩
     exact k _ _ _ (s1.trans (s'.frz hx q1 q2)) (rep_obj.mpr ⟨C,x,dx,us,hC,rfl,z0,hn,q3.mono (Same.new q2)⟩)
   · cases hf
 · cases hf
def pQ:D->D->Option Bool
 | d,.non=>some (pC d)
 | .bl x,.bl y=>some (x==y)
 | .non,.bl _=>some false
 | .int _,.bl _=>some false
 | .str _,.bl _=>some false
 | .tup _,.bl _=>some false
 | .lst _,.bl _=>some false
 | .obj _ _ _,.bl _=>some false
 | .exc _ _ _,.bl _=>some false
 | _,_=>none
theorem zP3:OpR X (compareOp .Is) (fun x y H Q=>∃k,y = .bl k/\Q (.bl (decide (x = .bl k))) H):=by
 intro pins s σ H x y v u Q I rx ry h
 obtain⟨k,rfl,q⟩:=h
 cases ry
 cases x with
 | bl z=>cases rx;refine is_bool (yI I q ?_);rw[zXN]
 | non=>cases rx;refine wpAny_is_other (by rfl) (by intro z;cases z) (yI I q (by simp))
 | int i=>obtain⟨t,rfl⟩:=rx;refine wpAny_is_other (by rfl) (by intro z;cases z) (yI I q (by simp))
 | str i=>obtain⟨t,rfl⟩:=rx;refine wpAny_is_other (by rfl) (by intro z;cases z) (yI I q (by simp))
 | byt i=>obtain⟨t,rfl⟩:=rx;refine wpAny_is_other (by rfl) (by intro z;cases z) (yI I q (by simp))
 | flt i=>obtain⟨t,rfl⟩:=rx;refine wpAny_is_other (by rfl) (by intro z;cases z) (yI I q (by simp))
 | ref i=>cases rx;refine wpAny_is_other (by rfl) (by intro z;cases z) (yI I q (by simp))
 | ty i=>cases rx;refine wpAny_is_other (by rfl) (by intro z;cases z) (yI I q (by simp))
theorem lV:CmR X .Is pQ:=⟨_,op_isN.or zP3,fun d d' k G H x y Q h s rx ry q=>by
 have fin:∀(z:Bool) (v:V),d' = .bl z->x=v->k=decide (v = .bl z)->(fun x y H Q=>y=V.non/\Q (.bl (decide (x = .non))) H) x y H Q∨(∃k,y = .bl k/\Q (.bl (decide (x = .bl k))) H):=fun z v e1 e2 e3=>by
   subst e1;subst e2
   exact .inr ⟨z,rep_bl.mp ry,by rw[←e3];exact q H G (.refl s)⟩
 cases d' with
 | non =>
   have hk:pC d=k:=by cases d<;>(cases h;rfl)
   refine .inl ⟨rep_non.mp ry,?_⟩
   rw[zYJ rx,hk];exact q H G (.refl s)
 | bl z =>
   cases d with
   | bl w=>cases h;exact fin z _ rfl (rep_bl.mp rx) (by rw[zXN])
   | non=>cases h;exact fin z _ rfl (rep_non.mp rx) (by simp)
   | int i=>cases h;exact fin z _ rfl (rep_int.mp rx) (by simp)
   | str i=>cases h;exact fin z _ rfl (rep_str.mp rx) (by simp)
   | tup ds=>cases h;obtain⟨p,_,e,_⟩:=rep_tup.mp rx;exact fin z _ rfl e (by simp)
   | lst ds=>cases h;obtain⟨p,_,e,_⟩:=rep_lst.mp rx;exact fin z _ rfl e (by simp)
   | obj _ _ ds=>cases h;obtain⟨_,p,_,_,_,e,_⟩:=rep_obj.mp rx;exact fin z _ rfl e (by simp)
   | exc _ _ ds=>cases h;obtain⟨_,p,_,_,_,e,_⟩:=rep_exc.mp rx;exact fin z _ rfl e (by simp)
 | _=>cases d<;>cases h⟩
def zQR (g:Lf)(f:Ef):Lf:=fun ρ=>(g ρ).bind fun ds=>(f ρ).bind fun n=>match n with | .int k=>if decide (0<=k)&&decide (k<=1000)&&decide (ds.length<=90) then some (List.replicate k.toNat ds).flatten else none | _=>none
theorem bA {K:PySem.W.Frag}{G:Hp}{ds:List D}{vs:List V}(h:Reps K G ds vs):∀k:Nat,Reps K G (List.replicate k ds).flatten (List.replicate k vs).flatten
 | 0=>reps_nil.mpr rfl
 | k+1=>by
   rw[List.replicate_succ,List.replicate_succ,List.flatten_cons,List.flatten_cons]
   exact h.append (bA h k)
theorem zPB (ha:PFr X a ga)(hb:PF X b fb):PFr X (.BinOp a .Mult b pos) (zQR ga fb):=by
 refine PE.toR (aZ zO4 ha hb) ?_
 rintro σ H Q ⟨G0,H0,G,ρ,d,good,hf,k⟩
 unfold zQR at hf
 obtain⟨xs,h1,hf⟩:=Option.bind_eq_some_iff.mp hf
 obtain⟨n,h2,hf⟩:=Option.bind_eq_some_iff.mp hf
 cases n with
 | int m =>
   dsimp only at hf
   split at hf
   · rename_i hc
     cases hf
     simp only[Bool.and_eq_true,decide_eq_true_eq] at hc
     refine⟨G0,H0,G,ρ,_,good,h1,fun p vs H1 G1 s1 hn hp gp rs=>⟨G0,H0,G1,ρ,_,good.step s1,h2,fun q H2 G2 s2 r2=>?_⟩⟩
     have hne:H1 p≠none:=by rw[hp];exact fun z=>nomatch z
     refine⟨p,m,vs,rfl,rep_int.mp r2,s2.hh _ _ hp,by omega,by omega,?_,fun l hl=>?_⟩
     · rw[←rs.length]
       have:xs.length*m.toNat<=90*1000:=Nat.mul_le_mul hc.2 (by omega)
       exact Nat.le_trans this (by decide)
     · have s3:=Step.own (o:=.lst (List.replicate m.toNat vs).flatten) s2.sub hl
       exact k l _ _ G2 ((s1.trans s2).trans s3) ((s1.trans s2).hh.free hl) z0 (s2.sub.free hl) (bA (rs.mono s2.gg) _)
   · cases hf
 | _=>cases hf
def iH (i:Nat):Tf:=fun ρ=>match ρ[i]? with | some (.ow ds)=>some (!ds.isEmpty) | _=>none
theorem zSO (hu:X.A.units < cLine):OpR X (compareOp .NotEq) (fun x y H Q=>∃l m xs,x = .ref l/\y = .ref m/\SqL X.K H l xs/\SqL X.K H m []/\Q (.bl (!xs.isEmpty)) H):=by
 intro pins s σ H x y v u Q I rx ry h
 obtain⟨l,m,xs,rfl,rfl,hl,hm,q⟩:=h
 cases rx
 cases ry
 obtain⟨its,w1,t1,_⟩:=I.list hl
 obtain⟨jts,w2,t2,_⟩:=I.list hm
 cases w2
 cases xs with
 | nil =>
   cases w1
   have R:=SeqAt.RcNeAt.lists (A:=X.A) (s:=s) (e:=fun _=>true) t1.isList t2.isList rfl hu (fun j h1=>absurd h1 (by simp))
   exact R X.prog X.w X.xe _ ⟨.bl false,H,I,rfl,q⟩
 | cons x r =>
   cases w1 with
   | cons r1 r2 =>
     have R:=SeqAt.RcNeAt.lists_lengths (A:=X.A) (s:=s) t1.isList t2.isList (by simp) hu
     exact R X.prog X.w X.xe _ ⟨.bl true,H,I,rfl,q⟩
theorem zRX {k:Nat}(i:Nat)(hr:Room k X.A){x:Str}{p1 p2:Pos}(hN:X.N[i]?=some x:=by rfl)(hv:Vis X.env.scope x:=by first | exact Or.inl rfl | exact Or.inr (Or.inl rfl) | exact Or.inr (Or.inr rfl))(hd:(x==("__debug__":Str))=false:=by decide)(hcd:(x==("__classdict__":Str))=false:=by decide) :
   PFT X (.Compare (.Name x p1) [.NotEq] [.List [] p2] pos) (iH i):=by
 refine PT.to (cH (zSO hr.units0) (nL hN hv hd hcd) (zSi yB) (aL _)) ?_
 rintro σ H Q ⟨G0,H0,G,ρ,b,good,hf,k⟩
 unfold iH at hf
 split at hf
 · rename_i ds hi
   cases hf
   obtain⟨q,vs,e1,e2,e3,e4,e5⟩:=good.addr hi
   refine⟨.ref q,e1,Nat.zero_le _,fun z hz=>⟨q,z,vs,rfl,rfl,.of (by rw[yP (yE e2 hz)];exact e2),.of z0,_,rfl,?_⟩⟩
   have e:(!vs.isEmpty) = !ds.isEmpty:=by
     have hl:=e5.length
     cases vs with
     | nil=>cases ds with
       | nil=>rfl
       | cons _ _=>simp at hl
     | cons _ _=>cases ds with
       | nil=>simp at hl
       | cons _ _=>rfl
   rw[e]
   exact k _ G (Step.own good.sub hz)
 · cases hf
end
section
variable {l:Addr} {its:Array Value} {n:Nat} {dd:Option Addr} {sl:Array (Option Value)} {y:Value} {q:Nat->Bool} {top:Int} {j:Nat}
theorem zUA (hj:j < its.size)(ht:(j:Int) < top)(hq:q j=true):∀(k i:Nat),j - i=k->i<=j->(∀m,i<=m->m < j->q m=false)->Meets (Builtin.«list.index.loop» ⟨[.ref l,y,rawInt i,rawInt top],[]⟩)
   (fun A R s=>s.heap.get? l=some { cls:=.type "list",dict:=dd,data:=.seq its n,slots:=sl }/\(∀m (h:m < its.size),SeqAt.EqAt A.in1 s its[m] y (q m))/\R (.ok (.ret (.int j s.toks))) { s with toks:=s.toks+1 })
 | 0,i,hk,hi,_=>by
   have e:i=j:=by omega
   subst e
   intro P w A R s hyp
   obtain⟨hp,g,d,tk,os⟩:=s
   obtain⟨at_,eqs,fin⟩:=hyp
   wp_walk using wpAny_loadPart' at_
   rw[show(if (i:Int) < top then its[((i:Nat):Int).toNat]? else none)=some its[i] by simp[ht,hj]]
   refine wpAny_bind (eqs i hj P w _ _ ?_)
   rw[hq]
   wp_walk
   exact fin
 | k+1,i,hk,hi,hno=>by
   intro P w A R s hyp
   obtain⟨hp,g,d,tk,os⟩:=s
   obtain⟨at_,eqs,fin⟩:=hyp
   have lt:i < its.size:=by omega
   have lt2:(i:Int) < top:=by omega
   wp_walk using wpAny_loadPart' at_
   rw[show(if (i:Int) < top then its[((i:Nat):Int).toNat]? else none)=some its[i] by simp[lt2,lt]]
   refine wpAny_bind (eqs i lt P w _ _ ?_)
   rw[hno i (Nat.le_refl _) (by omega)]
   wp_walk
   rw[show((i:Int)+1)=((i+1:Nat):Int) by push_cast;rfl]
   exact⟨plainId_quiet MeetsSeq.plain_index_loop _,codeAny_builtin MeetsSeq.entry_index_loop (by
     rw[Around.under_plainId MeetsSeq.plain_index_loop _]
     exact zUA hj ht hq k (i+1) (by omega) (by omega) (fun m h1 h2=>hno m (by omega) h2) P w A R _ ⟨at_,eqs,fin⟩)⟩
theorem zVX (hj:j < its.size)(hs:(j:Int) < 2^63 - 1)(hq:q j=true)(hno:∀m,m < j->q m=false):Meets (Builtin.«list.index» ⟨[.ref l,y],[]⟩)
   (fun A R s=>s.heap.get? l=some { cls:=.type "list",dict:=dd,data:=.seq its n,slots:=sl }/\(∀m (h:m < its.size),SeqAt.EqAt A.in1 s its[m] y (q m))/\R (.ok (.ret (.int j s.toks))) { s with toks:=s.toks+1 }):=by
 intro P w A R s hyp
 obtain⟨hp,g,d,tk,os⟩:=s
 obtain⟨at_,eqs,fin⟩:=hyp
 wp_walk using wpAny_loadPart' at_
 rw[show((fun i:Int=>if i < 0 then max 0 (i+(its.size:Int)) else i) ((none:Option Int).getD 0))=((0:Nat):Int) by simp,
   show((fun i:Int=>if i < 0 then max 0 (i+(its.size:Int)) else i) ((none:Option Int).getD (2^63 - 1)))=2^63 - 1 by simp]
 exact⟨plainId_quiet MeetsSeq.plain_index_loop _,codeAny_builtin MeetsSeq.entry_index_loop (by
   rw[Around.under_plainId MeetsSeq.plain_index_loop _]
   exact zUA hj hs hq _ 0 rfl (Nat.zero_le _) (fun m _ h2=>hno m h2) P w A R _ ⟨at_,eqs,fin⟩)⟩
end
def ixD (d:D):List D->Option Nat
 | []=>none
 | x::r=>(eqD 8 x d).bind fun b=>if b=true then(if (r.all fun z=>(eqD 8 z d).isSome) then some 0 else none) else(ixD d r).map (· + 1)
theorem zWe {d:D}:∀ {ds:List D} {j:Nat},ixD d ds=some j->j < ds.length/\(∀(m:Nat) (x:D),ds[m]?=some x->∃b,eqD 8 x d=some b/\(m < j->b=false)/\(m=j->b=true))
 | [],_,h=>by cases h
 | x::r,j,h=>by
   unfold ixD at h
   obtain⟨b,h1,h⟩:=Option.bind_eq_some_iff.mp h
   split at h
   · rename_i hb
     split at h
     · rename_i ha
       cases h
       refine⟨by simp,fun m z hz=>?_⟩
       cases m with
       | zero=>cases hz;exact⟨b,h1,fun q=>absurd q (Nat.lt_irrefl _),fun _=>hb⟩
       | succ m =>
         rw[List.getElem?_cons_succ] at hz
         have:=List.all_eq_true.mp ha z (List.mem_of_getElem? hz)
         obtain⟨b',hb'⟩:=Option.isSome_iff_exists.mp this
         exact⟨b',hb',fun q=>by omega,fun q=>by omega⟩
     · cases h
   · rename_i hb
     obtain⟨i,h2,rfl⟩:=Option.map_eq_some_iff.mp h
     obtain⟨h3,h4⟩:=zWe h2
     refine⟨by rw[List.length_cons];omega,fun m z hz=>?_⟩
     cases m with
     | zero=>cases hz;exact⟨b,h1,fun _=>by simpa using hb,fun q=>by omega⟩
     | succ m =>
       rw[List.getElem?_cons_succ] at hz
       obtain⟨b',q1,q2,q3⟩:=h4 m z hz
       exact⟨b',q1,fun q=>q2 (by omega),fun q=>q3 (by omega)⟩
section
variable {X:Cx} {a b c e tg elt iter:Expr} {es ifs:List Expr} {fa fb fc:Ef} {ga gb gi:Lf} {ta tc:Tf} {pos p:Pos} {st:Stmt}
def zR7 (X:Cx):V->List V->Hp->VK->Prop:=fun x vs H Q=>∃l y G ds ws d j,x = .ref l/\vs=[y]/\Same G H/\SqL X.K H l ws/\Reps X.K G ds ws/\Rep X.K G d y/\ixD d ds=some j/\ds.length<=100000/\Q (.int (j:Nat)) H
theorem zRS {k:Nat}(hr:Room k X.A):MtR X "list.index" (zR7 X):=by
 intro pins s σ H x xs v us Q I rx rv h
 obtain⟨l,y,G,ds,ws,d,j,rfl,rfl,sub,hq,rs,rd,hj,hl,q⟩:=h
 cases rx
 obtain⟨u,rfl,ru⟩:=rv.one
 obtain⟨its,r,pl,_⟩:=I.list hq
 obtain⟨⟨cls,dd,data,sl⟩,ho,hc,n,hd⟩:=pl.isList
 simp only at hc hd
 subst hc hd
 obtain⟨h1,h2⟩:=zWe hj
 have l1:=rs.length
 have l2:=r.length
 have hun:=hr.units
 have bs:∀m,∃b:Bool,(m < j->b=false)/\(m=j->b=true)/\∀(h:m < its.toArray.size),SeqAt.EqAt X.A.in1 s its.toArray[m] u b:=fun m=>by
   by_cases hm:m < ds.length
   · obtain⟨b,q1,q2,q3⟩:=h2 m _ (List.getElem?_eq_getElem hm)
     refine⟨b,q2,q3,fun h=>?_⟩
     obtain⟨v1,f1,g1⟩:=rs.get (List.getElem?_eq_getElem hm)
     obtain⟨u1,f3,g3⟩:=r.get f1
     have x1:its.toArray[m]=u1:=by
       have:=(List.getElem?_eq_some_iff.mp f3).2
       simpa using this
     rw[x1]
     exact(zQu I sub 8 X.A.in1 _ _ v1 y u1 u _ (by show X.A.units+1+8 < cLine;omega) q1 g1 rd g3 ru).2.2
   · exact⟨decide (m=j),fun z=>decide_eq_false (by omega),fun z=>decide_eq_true z,fun h=>absurd h (by rw[List.size_toArray,←l2,←l1];exact hm)⟩
 have hjs:j < its.toArray.size:=by rw[List.size_toArray,←l2,←l1];exact h1
 refine call_meets F.slot_list_index ⟨_,ho,rfl⟩ F.entry_list_index (F.args_list_index_2 _ _) (zVX (l:=l) (its:=its.toArray) (n:=n) (dd:=dd) (sl:=sl) (y:=u) (q:=fun m=>(bs m).choose) (j:=j) hjs (by omega) ((bs j).choose_spec.2.1 rfl) (fun m hm=>(bs m).choose_spec.1 hm)) ⟨ho,fun m h=>(bs m).choose_spec.2.2 h,?_⟩
 exact⟨.int (j:Nat),H,I.tok _,⟨_,rfl⟩,q⟩
def aB (g:Lf)(f:Ef):Ef:=fun ρ=>(g ρ).bind fun ds=>(f ρ).bind fun d=>if ds.length<=100000 then(ixD d ds).map fun j=>.int (j:Nat) else none
theorem zS9 {k:Nat}(hr:Room k X.A)(ht:PE X c (tBM X.K "list" (zR7 X) (zSx X.K ga) (cS (tF X.K fb) zXk))):PF X c (aB ga fb):=by
 refine PE.to ht ?_
 rintro σ H Q ⟨G0,H0,G,ρ,d,good,hf,k⟩
 unfold aB at hf
 obtain⟨ds,h1,hf⟩:=Option.bind_eq_some_iff.mp hf
 obtain⟨y,h2,hf⟩:=Option.bind_eq_some_iff.mp hf
 split at hf
 · rename_i hl
   obtain⟨j,h3,rfl⟩:=Option.map_eq_some_iff.mp hf
   refine⟨G0,H0,G,ρ,_,good,h1,fun q vs H1 G1 s1 hq rs=>⟨.inl ⟨rfl,vs,s1.sub.seq hq⟩,G0,H0,G1,ρ,_,good.step s1,h2,fun v H2 G2 s2 r2=>?_⟩⟩
   exact⟨q,v,G2,ds,vs,y,j,rfl,rfl,s2.sub,(s1.sub.trans s2.hh).seq hq,rs.mono s2.gg,r2,h3,hl,k _ _ G2 (s1.trans s2) (rep_int.mpr rfl)⟩
 · cases hf
end
end L2
namespace L2
open PySem PySem.Spec PyProof.Rows
section
variable {prog:Program} {w:World} {A:Around} {E:Value->Shared->Prop} {s:Shared}
theorem zTt {M:Model}{a:Addr}{Q:Option Obj->Shared->Prop}(h:Q (s.heap.get? a) s):wpAny M A (loadIfAlive a) Q E s :=
 fun Γ p _=>by show Sem.wp M Γ (.loadIfAlive a .pure) _ _ p s;rw[Sem.wp_loadIfAlive];exact h
abbrev zZ1 (h:Heap)(z TI TO T:Addr)(b:Bool):Prop:=h.get? z=some { cls:=.type "zip",dict:=none,data:=.fields #[rawInt T,.bool b,.bool false,.ref TI,.ref TO],slots:=#[] }
theorem zYH {z TI TO T:Addr}{b:Bool}{o:Obj}{Q:Bool->Shared->Prop}(hz:zZ1 s.heap z TI TO T b)(hT:s.heap.get? T=some o)(hQ:∀h',zZ1 h' z TI TO T true->(∀c u,c≠z->s.heap.get? c=some u->h'.get? c=some u)->h'.objs.size=s.heap.objs.size->Q false { s with heap:=h' }) :
   wpAny (model prog w) A (Builtin.SmallTypes.ownedTupleIsFree (.ref z)) Q E s:=by
 unfold Builtin.SmallTypes.ownedTupleIsFree
 refine wpAny_bind (wpAny_field hz rfl (x:=rawInt T) rfl ?_)
 change wpAny _ _ (loadIfAlive (Int.toNat (T:Int)) >>= _) _ _ _
 refine wpAny_bind (zTt ?_)
 rw[Int.toNat_natCast,hT]
 change wpAny _ _ (field (.ref z) 1 >>= _) _ _ _
 refine wpAny_bind (wpAny_field hz rfl (x:=.bool b) rfl ?_)
 cases b with
 | false =>
   change wpAny _ _ (setField (.ref z) 1 (.bool true) >>= fun _=>pure false) _ _ _
   refine wpAny_bind (wpAny_setField_rec hz (by simp) fun h' q1 q2=>wpAny_pure (hQ h' q1 (fun c u hc e=>q2.extBut _ _ hc e) q2.1))
 | true =>
   change wpAny _ _ (pure false) _ _ _
   exact wpAny_pure (hQ s.heap hz (fun _ _ _ e=>e) rfl)
theorem zTY {z TI TO i1 i2 l1 l2 T:Addr}{b:Bool}{o:Obj}{k:Nat}{xs ys:Array Value}{x y:Value}{Q:Value->Shared->Prop}(D:ZipApart z TI TO i1 i2 l1 l2)
   (hz:zZ1 s.heap z TI TO T b) (hT:s.heap.get? T=some o) (hTI:IsPair s.heap TI (.ref i1) (.ref i2))
   (h1:s.heap.IsListIter i1 l1 k) (h2:s.heap.IsListIter i2 l2 k) (hl1:s.heap.IsList l1 xs) (hl2:s.heap.IsList l2 ys) (hx:xs[k]?=some x) (hy:ys[k]?=some y)
   (hQ:∀h',zZ1 h' z TI TO T true->h'.IsListIter i1 l1 (k+1)->h'.IsListIter i2 l2 (k+1)->IsPair h' s.heap.objs.size x y ->
     (∀c o,c≠z->c≠i1->c≠i2->s.heap.get? c=some o->h'.get? c=some o)->Q (.ref s.heap.objs.size) { s with heap:=h' }) :
   wpAny (model prog w) A (Builtin.«zip.__next__» ⟨[.ref z],[]⟩) (fun fin s'=>∃v,fin = .done (.ret v)/\Q v s') E s:=by
 change wpAny _ _ (field (.ref z) 2 >>= _) _ _ _
 refine wpAny_bind (wpAny_field hz rfl (x:=.bool false) rfl ?_)
 change wpAny _ _ (field (.ref z) 3 >>= _) _ _ _
 refine wpAny_bind (wpAny_field hz rfl (x:=.ref TI) rfl (wpAny_bind (wpAny_seqItems hTI rfl ?_)))
 change wpAny _ _ (Builtin.SmallTypes.ownedTupleIsFree (.ref z) >>= _) _ _ _
 refine wpAny_bind (zYH hz hT fun g1 z1 k1 e1=>?_)
 simp only[Bool.false_eq_true,if_false]
 refine wpAny_bind ?_
 simp only[←Array.forIn_toList,List.forIn_cons,List.forIn_nil]
 refine wpAny_bind (wpAny_bind (wpAny_holding ?_))
 change wpAny _ _ (Builtin.SmallTypes.nextOf (.ref i1) >>= _) _ _ _
 refine wpAny_bind (wpAny_nextOf_list_item (h1.at fun o e=>k1 _ o D.i1z e) (hl1.at fun o e=>k1 _ o D.l1z e) hx fun g2 u1 t2=>wpAny_pure (wpAny_pure (wpAny_bind (wpAny_bind (wpAny_holding ?_)))))
 change wpAny _ _ (Builtin.SmallTypes.nextOf (.ref i2) >>= _) _ _ _
 refine wpAny_bind (wpAny_nextOf_list_item ((h2.at fun o e=>k1 _ o D.i2z e).extBut t2.extBut D.i12.symm) ((hl2.at fun o e=>k1 _ o D.l2z e).extBut t2.extBut D.l2i1) hy fun g3 u2 t3=>wpAny_pure (wpAny_pure (wpAny_pure ?_)))
 have esz:g3.objs.size=s.heap.objs.size:=by rw[t3.1,t2.1,e1]
 refine wpAny_bind (wpAny_newTuple ?_ (by show 2<=sizeLine;exact Nat.le_of_lt (wK (by decide))))
 refine wpAny_pure ⟨_,rfl,?_⟩
 have z3:zZ1 g3 z TI TO T true:=t3.extBut _ _ D.i2z.symm (t2.extBut _ _ D.i1z.symm z1)
 have w1:=u1.extBut t3.extBut D.i12
 change Q (.ref g3.objs.size) { s with heap:=g3.push { cls:=.type "tuple",data:=.seq #[x,y] } }
 have n3:IsPair (g3.push { cls:=.type "tuple",data:=.seq #[x,y] }) g3.objs.size x y:=Heap.get?_push_size _ rfl
 rw[esz] at n3 ⊢
 exact hQ _ (Heap.get?_push_of_some _ z3) (w1.at fun o e=>Heap.get?_push_of_some _ e) (u2.at fun o e=>Heap.get?_push_of_some _ e) n3
   fun c o c1 c2 c3 e=>Heap.get?_push_of_some _ (t3.extBut _ _ c3 (t2.extBut _ _ c2 (k1 _ _ c1 e)))
theorem zRu {z TI TO i1 i2 l1 l2 T:Addr}{b:Bool}{o:Obj}{k:Nat}{xs ys:Array Value}{Q:Fin->Shared->Prop}(hh:A.handled=none)(D:ZipApart z TI TO i1 i2 l1 l2)
   (hz:zZ1 s.heap z TI TO T b) (hT:s.heap.get? T=some o) (hTI:IsPair s.heap TI (.ref i1) (.ref i2))
   (h1:s.heap.IsListIter i1 l1 k) (h2:s.heap.IsListIter i2 l2 k) (hl1:s.heap.IsList l1 xs) (hl2:s.heap.IsList l2 ys) (hend:xs[k]?=none∨ys[k]?=none)
   (hE:∀h' e,(∀c o,c≠z->c≠i1->c≠i2->s.heap.get? c=some o->h'.get? c=some o)->(∃o,h'.get? e=some o/\o.cls = .type "StopIteration")->E (.ref e) { s with heap:=h' }) :
   wpAny (model prog w) A (Builtin.«zip.__next__» ⟨[.ref z],[]⟩) Q E s:=by
 change wpAny _ _ (field (.ref z) 2 >>= _) _ _ _
 refine wpAny_bind (wpAny_field hz rfl (x:=.bool false) rfl ?_)
 change wpAny _ _ (field (.ref z) 3 >>= _) _ _ _
 refine wpAny_bind (wpAny_field hz rfl (x:=.ref TI) rfl (wpAny_bind (wpAny_seqItems hTI rfl ?_)))
 change wpAny _ _ (Builtin.SmallTypes.ownedTupleIsFree (.ref z) >>= _) _ _ _
 refine wpAny_bind (zYH hz hT fun g1 z1 k1 e1=>?_)
 simp only[Bool.false_eq_true,if_false]
 refine wpAny_bind ?_
 simp only[←Array.forIn_toList,List.forIn_cons,List.forIn_nil]
 refine wpAny_bind (wpAny_bind (wpAny_holding ?_))
 change wpAny _ _ (Builtin.SmallTypes.nextOf (.ref i1) >>= _) _ _ _
 cases hx:xs[k]? with
 | none=>exact wpAny_bind (wpAny_nextOf_list_end hh (h1.at fun o e=>k1 _ o D.i1z e) (hl1.at fun o e=>k1 _ o D.l1z e) hx fun g2 e t2 he=>hE g2 e (fun c o c1 c2 _ q=>t2 _ _ c2 (k1 _ _ c1 q)) he)
 | some x =>
   have hy:ys[k]?=none:=by rcases hend with q | q;rw[hx] at q;cases q;exact q
   refine wpAny_bind (wpAny_nextOf_list_item (h1.at fun o e=>k1 _ o D.i1z e) (hl1.at fun o e=>k1 _ o D.l1z e) hx fun g2 u1 t2=>wpAny_pure (wpAny_pure (wpAny_bind (wpAny_bind (wpAny_holding ?_)))))
   change wpAny _ _ (Builtin.SmallTypes.nextOf (.ref i2) >>= _) _ _ _
   exact wpAny_bind (wpAny_nextOf_list_end hh ((h2.at fun o e=>k1 _ o D.i2z e).extBut t2.extBut D.i12.symm) ((hl2.at fun o e=>k1 _ o D.l2z e).extBut t2.extBut D.l2i1) hy fun g3 e t3 he=>hE g3 e (fun c o c1 c2 c3 q=>t3 _ _ c3 (t2.extBut _ _ c2 (k1 _ _ c1 q))) he)
theorem aW {z TI TO i1 i2 l1 l2 T:Addr}{b:Bool}{o:Obj}{k:Nat}{xs ys:Array Value}{x y:Value}{Q:Option Value->Shared->Prop}(D:ZipApart z TI TO i1 i2 l1 l2)
   (hz:zZ1 s.heap z TI TO T b) (hT:s.heap.get? T=some o) (hTI:IsPair s.heap TI (.ref i1) (.ref i2))
   (h1:s.heap.IsListIter i1 l1 k) (h2:s.heap.IsListIter i2 l2 k) (hl1:s.heap.IsList l1 xs) (hl2:s.heap.IsList l2 ys) (hx:xs[k]?=some x) (hy:ys[k]?=some y)
   (hQ:∀h',zZ1 h' z TI TO T true->h'.IsListIter i1 l1 (k+1)->h'.IsListIter i2 l2 (k+1)->IsPair h' s.heap.objs.size x y ->
     (∀c o,c≠z->c≠i1->c≠i2->s.heap.get? c=some o->h'.get? c=some o)->Q (some (.ref s.heap.objs.size)) { s with heap:=h' }):wpAny (model prog w) A (pyNext (.ref z)) Q E s:=by
 have hT':s.TypeIs (.ref z) "zip":=⟨_,hz,rfl⟩
 unfold pyNext
 exact wpAny_bind (wpAny_attempt (wpAny_callSpecial?_slot (name:=Str.ofString "__next__") hT' F.slot_zip_next (wpAny_call_entry F.slot_zip_next hT' F.entry_zip_next (zTY D hz hT hTI h1 h2 hl1 hl2 hx hy fun h' a1 a2 a3 a4 a5=>wpAny_pure (hQ h' a1 a2 a3 a4 a5)) (F.args_zip_next_1 _))))
theorem zZy {z TI TO i1 i2 l1 l2 T:Addr}{b:Bool}{o:Obj}{k:Nat}{xs ys:Array Value}{Q:Option Value->Shared->Prop}(hh:A.handled=none)(D:ZipApart z TI TO i1 i2 l1 l2)
   (hz:zZ1 s.heap z TI TO T b) (hT:s.heap.get? T=some o) (hTI:IsPair s.heap TI (.ref i1) (.ref i2))
   (h1:s.heap.IsListIter i1 l1 k) (h2:s.heap.IsListIter i2 l2 k) (hl1:s.heap.IsList l1 xs) (hl2:s.heap.IsList l2 ys) (hend:xs[k]?=none∨ys[k]?=none)
   (hQ:∀h',(∀c o,c≠z->c≠i1->c≠i2->s.heap.get? c=some o->h'.get? c=some o)->Q none { s with heap:=h' }):wpAny (model prog w) A (pyNext (.ref z)) Q E s:=by
 have hT':s.TypeIs (.ref z) "zip":=⟨_,hz,rfl⟩
 unfold pyNext
 refine wpAny_bind (wpAny_attempt (wpAny_callSpecial?_slot (name:=Str.ofString "__next__") hT' F.slot_zip_next (wpAny_call_entry F.slot_zip_next hT' F.entry_zip_next (zRu hh D hz hT hTI h1 h2 hl1 hl2 hend fun h' e hk he=>?_) (F.args_zip_next_1 _))))
 obtain⟨o,q1,q2⟩:=he
 exact wpAny_bind (wpAny_isInstance (T:="StopIteration") (b:=true) ⟨o,q1,q2⟩ isSubtype_stop (wpAny_pure (hQ _ hk)))
end
def ZSt (h:Heap)(n a b S:Addr)(i:Nat):Prop :=
 ((IsZip h (n+4) (n+2) (n+3) .none/\∃p q,IsPair h (n+3) p q)∨∃T f o,zZ1 h (n+4) (n+2) (n+3) T f/\T∉[n+4,n+2,n+3,n,n+1]/\T≠S/\h.get? T=some o)/\IsPair h (n+2) (.ref n) (.ref (n+1))/\h.IsListIter n a i/\h.IsListIter (n+1) b i
theorem ZSt.keep {h h':Heap}{n a b S:Addr}{i:Nat}(z:ZSt h n a b S i)(k:∀c u,c≠S->h.get? c=some u->h'.get? c=some u)(hS:S∉[n+4,n+2,n+3,n,n+1])(hS3:(n+3)≠S):ZSt h' n a b S i:=by
 have ne:∀c∈[n+4,n+2,n+3,n,n+1],c≠S:=fun c hc z=>hS (z ▸ hc)
 obtain⟨z1,z2,z3,z4⟩:=z
 refine⟨?_,k _ _ (ne _ (by simp)) z2,z3.at fun o e=>k _ o (ne _ (by simp)) e,z4.at fun o e=>k _ o (ne _ (by simp)) e⟩
 rcases z1 with⟨q1,p,q,q2⟩ | ⟨T,f,o,q1,q2,q3,q4⟩
 · exact .inl ⟨k _ _ (ne _ (by simp)) q1,p,q,k _ _ hS3 q2⟩
 · exact .inr ⟨T,f,o,k _ _ (ne _ (by simp)) q1,q2,q3,k _ _ q3 q4⟩
theorem zSG {X:Cx}{pins:List (Addr×Obj)}{σ:St}{H:Hp}{s:Shared}(I:Inv X pins σ H s){c d:Addr}{v:List V}(hf:mN X pins H c)(hd:SqL X.K H d v):d≠c:=fun z=>by
 have e:=hf.1
 rcases hd with(hd | ⟨ob,hd⟩) | hd
 · rw[z,e] at hd;cases hd
 · rw[z,e] at hd;cases hd
 · obtain⟨ob,_,_,hk,_⟩:=hd
   have e3:=I.ok.mod.kin d ob hk
   obtain⟨_,q1,_,q3,_⟩:=hf
   rcases q3 with q3 | q3
   · exact I.ok.noex d ob e3 (z ▸ q3)
   · exact absurd (Nat.lt_of_lt_of_le (Heap.lt_size (I.ok.bs d ob e3).1) (z ▸ q3)) (Nat.lt_irrefl _)
theorem zSd {X:Cx}{pins:List (Addr×Obj)}{σ:St}{A:Around}(hh:A.handled=none){n a b S:Addr}{G0 H0:Hp}{ds es:List D}{us ws:List V}{res:Value}{R:Result->Shared->Prop}
   (ha:SqL X.K G0 a us) (ra:Reps X.K G0 ds us) (hb:SqL X.K G0 b ws) (rb:Reps X.K G0 es ws) (hS:S∉[n+4,n+2,n+3,n,n+1]) (hlen:(sL ds es).length<=1000) :
   ∀(k i:Nat) (s:Shared) (H G:Hp) (acc:Array Value) (c:Nat) (vs:List V),Inv X pins σ H s->(∀d∈S::[n+4,n+2,n+3,n,n+1],mN X pins H d)->Step G0 H0 G H->Reps X.K G ((sL ds es).take i) vs->ZSt s.heap n a b S i ->
     s.heap.get? S=some { cls:=.type "list",dict:=none,data:=.seq acc c,slots:=#[] }->Vals vs acc.toList->i+k=(sL ds es).length ->
     (∀s' H' G' acc' c' vs',Inv X pins σ H' s'->Step G0 H0 G' H'->Reps X.K G' (sL ds es) vs'->Vals vs' acc'.toList->s'.heap.get? S=some { cls:=.type "list",dict:=none,data:=.seq acc' c',slots:=#[] }->R (.ok (.ret res)) s') ->
     codeAny (model X.prog X.w) A (.builtin "list.extend.loop" ⟨[.ref S,.ref (n+4),res],[]⟩) R s:=by
 intro k
 have neS:∀c∈[n+4,n+2,n+3,n,n+1],c≠S:=fun c hc z=>hS (z ▸ hc)
 induction k with
 | zero =>
   intro i s H G acc c vs I hf st rv z hs hv hi hR
   refine codeAny_builtin F.entry_extend_loop ?_
   rw[Around.under_plainId F.plain_extend_loop _]
   show wpAny _ A.in1 (pyNext (.ref (n+4)) >>= _) _ _ s
   have hqa:=st.sub.seq (st.gg.seq ha)
   have hqb:=st.sub.seq (st.gg.seq hb)
   obtain⟨its,rva,pa,_⟩:=I.list hqa
   obtain⟨jts,rvb,pb,_⟩:=I.list hqb
   have hl:=aG ds es
   have la:=ra.length
   have lb:=rb.length
   have lva:=rva.length
   have lvb:=rvb.length
   have hend:its.toArray[i]?=none∨jts.toArray[i]?=none:=by
     rcases Nat.lt_or_ge i its.length with q | q
     · exact .inr (by simp;omega)
     · exact .inl (by simp;omega)
   have ap:∀c∈[n+4,n+2,n+3,n,n+1],∀v d,SqL X.K H d v->d≠c:=fun c hc v d q=>zSG I (hf c (List.mem_cons_of_mem _ hc)) q
   have D:ZipApart (n+4) (n+2) (n+3) n (n+1) a b:=⟨zne 2 4 (by decide),zne 3 4 (by decide),zne 0 4 (by decide),zne 1 4 (by decide),zne 2 3 (by decide),zne 2 0 (by decide),zne 2 1 (by decide),zne 3 0 (by decide),zne 3 1 (by decide),zne 0 1 (by decide),ap _ (by simp) us a hqa,ap _ (by simp) us a hqa,ap _ (by simp) us a hqa,ap _ (by simp) us a hqa,ap _ (by simp) ws b hqb,ap _ (by simp) ws b hqb,ap _ (by simp) ws b hqb,ap _ (by simp) ws b hqb⟩
   have fin:∀h':Heap,(∀c o,c∉[n+4,n+2,n+3,n,n+1]->s.heap.get? c=some o->h'.get? c=some o)->R (.ok (.ret res)) { s with heap:=h' }:=fun h' kk=>by
     have I2:Inv X pins σ H { s with heap:=h' }:=I.turnedL (t':=s.toks) kk fun d hd=>hf d (List.mem_cons_of_mem _ hd)
     rw[show(sL ds es).take i=sL ds es from List.take_of_length_le (by omega)] at rv
     exact hR _ H G acc c vs I2 st rv hv (kk _ _ hS hs)
   obtain⟨z1,z2,z3,z4⟩:=z
   refine wpAny_bind ?_
   rcases z1 with⟨q1,p,q,q2⟩ | ⟨T,f,o,q1,q2,q3,q4⟩
   · exact wpAny_pyNext_zip_end hh D q1 z2 q2 z3 z4 pa.isList pb.isList hend fun h' hk=>wpAny_pure (fin h' fun c o hc e=>hk c o (fun z=>hc (by simp[z])) (fun z=>hc (by simp[z])) (fun z=>hc (by simp[z])) (fun z=>hc (by simp[z])) e)
   · exact zZy hh D q1 q4 z2 z3 z4 pa.isList pb.isList hend fun h' hk=>wpAny_pure (fin h' fun c o hc e=>hk c o (fun z=>hc (by simp[z])) (fun z=>hc (by simp[z])) (fun z=>hc (by simp[z])) e)
 | succ k ih =>
   intro i s H G acc c vs I hf st rv z hs hv hi hR
   refine codeAny_builtin F.entry_extend_loop ?_
   rw[Around.under_plainId F.plain_extend_loop _]
   show wpAny _ A.in1 (pyNext (.ref (n+4)) >>= _) _ _ s
   have hqa:=st.sub.seq (st.gg.seq ha)
   have hqb:=st.sub.seq (st.gg.seq hb)
   obtain⟨its,rva,pa,_⟩:=I.list hqa
   obtain⟨jts,rvb,pb,_⟩:=I.list hqb
   have ap:∀c∈[n+4,n+2,n+3,n,n+1],∀v d,SqL X.K H d v->d≠c:=fun c hc v d q=>zSG I (hf c (List.mem_cons_of_mem _ hc)) q
   have D:ZipApart (n+4) (n+2) (n+3) n (n+1) a b:=⟨zne 2 4 (by decide),zne 3 4 (by decide),zne 0 4 (by decide),zne 1 4 (by decide),zne 2 3 (by decide),zne 2 0 (by decide),zne 2 1 (by decide),zne 3 0 (by decide),zne 3 1 (by decide),zne 0 1 (by decide),ap _ (by simp) us a hqa,ap _ (by simp) us a hqa,ap _ (by simp) us a hqa,ap _ (by simp) us a hqa,ap _ (by simp) ws b hqb,ap _ (by simp) ws b hqb,ap _ (by simp) ws b hqb,ap _ (by simp) ws b hqb⟩
   have hlt:i < (sL ds es).length:=by omega
   obtain⟨x,y,e1,e2,e3⟩:=bV (List.getElem?_eq_getElem hlt)
   obtain⟨v,f1,r1⟩:=ra.get e1
   obtain⟨u,f2,r2⟩:=rb.get e2
   obtain⟨v',g1,q1⟩:=rva.get f1
   obtain⟨u',g2,q2⟩:=rvb.get f2
   have lac:acc.size=i:=by
     have h1:=hv.length;have h2:=rv.length;rw[List.length_take] at h2;have h3:acc.toList.length=acc.size:=Array.length_toList;omega
   have fin:∀h':Heap,IsPair h' s.heap.objs.size v' u'->ZSt h' n a b S (i+1)->(∀c o,c∉[n+4,n+2,n+3,n,n+1]->s.heap.get? c=some o->h'.get? c=some o)->∀c',(h'.update S (Obj.mapSeq (·.push (.ref s.heap.objs.size)))).get? S=some { cls:=.type "list",dict:=none,data:=.seq (acc.push (.ref s.heap.objs.size)) c',slots:=#[] } ->
       codeAny (model X.prog X.w) A (.builtin "list.extend.loop" ⟨[.ref S,.ref (n+4),res],[]⟩) R { s with heap:=h'.update S (Obj.mapSeq (·.push (.ref s.heap.objs.size))) }:=fun h' p zz kk c' eS=>by
     have I1:Inv X pins σ (upd H s.heap.objs.size (.tup [v,u])) { s with heap:=h' }:=I.turnedNew (t':=s.toks) kk (fun d hd=>hf d (List.mem_cons_of_mem _ hd)) (Nat.le_refl _) ⟨by show 2<=sizeLine;exact Nat.le_of_lt (wK (by decide)),[v',u'],.cons q1 (.cons q2 .nil),⟨_,p,rfl,_,rfl⟩⟩
     have lt:∀d∈S::[n+4,n+2,n+3,n,n+1],d < s.heap.objs.size:=fun d hd=>by
       obtain⟨z1,z2,⟨o3,z3,_⟩,⟨o4,z4,_⟩⟩:=z
       simp only[List.mem_cons,List.not_mem_nil,or_false] at hd
       rcases hd with q | q | q | q | q | q
       · rw[q];exact Heap.lt_size hs
       · rw[q]
         rcases z1 with⟨q1,_⟩ | ⟨T,f,o,q1,_⟩
         · exact Heap.lt_size q1
         · exact Heap.lt_size q1
       · rw[q];exact Heap.lt_size z2
       · rw[q];exact Nat.lt_of_succ_lt (show n+4 < _ from by
           rcases z1 with⟨q1,_⟩ | ⟨T,f,o,q1,_⟩
           · exact Heap.lt_size q1
           · exact Heap.lt_size q1)
       · rw[q];exact Heap.lt_size z3
       · rw[q];exact Heap.lt_size z4
     have hf1:∀d∈S::[n+4,n+2,n+3,n,n+1],mN X pins (upd H s.heap.objs.size (.tup [v,u])) d:=fun d hd=>⟨by rw[yP (Nat.ne_of_lt (lt d hd))];exact(hf d hd).1,(hf d hd).2⟩
     have oth:∀c o,c≠S->h'.get? c=some o->(h'.update S (Obj.mapSeq (·.push (.ref s.heap.objs.size)))).get? c=some o:=fun c o hc e=>(Heap.get?_update_other _ _ (Ne.symm hc)).trans e
     have I2:Inv X pins σ (upd H s.heap.objs.size (.tup [v,u])) { s with heap:=h'.update S (Obj.mapSeq (·.push (.ref s.heap.objs.size))) }:=Inv.turnedL (s:={ s with heap:=h' }) (h':=h'.update S (Obj.mapSeq (·.push (.ref s.heap.objs.size)))) (t':=s.toks) (fp:=[S]) I1 (fun c o hc e=>oth c o (fun z=>hc (by simp[z])) e) fun d hd=>hf1 d (by
       rw[List.mem_singleton] at hd;rw[hd];exact List.mem_cons_self)
     have st1:=Step.laid (o:=.tup [v,u]) st.sub I.fresh
     have st2:=st.trans st1
     have r3:Rep X.K (upd G s.heap.objs.size (.tup [v,u])) (.tup [x,y]) (.ref s.heap.objs.size):=rep_tup.mpr ⟨_,_,rfl,.of z0,reps_cons.mpr ⟨_,_,rfl,r1.mono st2.gg,reps_cons.mpr ⟨_,_,rfl,r2.mono st2.gg,reps_nil.mpr rfl⟩⟩⟩
     have r4:Reps X.K (upd G s.heap.objs.size (.tup [v,u])) ((sL ds es).take (i+1)) (vs++[.ref s.heap.objs.size]):=by
       rw[List.take_succ_eq_append_getElem hlt,e3]
       exact(rv.mono st1.gg).snoc r3
     exact ih (i+1) _ _ _ _ _ _ I2 hf1 st2 r4 (zz.keep oth hS (neS _ (by simp))) eS (by rw[Array.toList_push];exact hv.snoc rfl) (by omega) hR
   have lsz:acc.size<=1000:=by omega
   have hsl:1001<=sizeLine:=Nat.le_of_lt (wK (by decide))
   obtain⟨z1,z2,z3,z4⟩:=z
   refine wpAny_bind ?_
   have nT:∀d∈S::[n+4,n+2,n+3,n,n+1],∀u,s.heap.get? d=some u->d≠s.heap.objs.size:=fun d _ u e=>Nat.ne_of_lt (Heap.lt_size e)
   rcases z1 with⟨q1,p,q,q2⟩ | ⟨T,f,o,q1,q2,q3,q4⟩
   · refine wpAny_pyNext_zip_item D q1 z2 q2 z3 z4 pa.isList pb.isList (by simpa using g1) (by simpa using g2) fun h' a1 a2 a3 a4 a5 a6 hk=>?_
     have kk:∀c o,c∉[n+4,n+2,n+3,n,n+1]->s.heap.get? c=some o->h'.get? c=some o:=fun c o hc e=>hk c o (fun z=>hc (by simp[z])) (fun z=>hc (by simp[z])) (fun z=>hc (by simp[z])) (fun z=>hc (by simp[z])) e
     have hS':=kk _ _ hS hs
     have zz:ZSt h' n a b S (i+1):=by
       refine⟨.inr ⟨s.heap.objs.size,false,_,a1,fun hm=>?_,fun z=>?_,a5⟩,hk _ _ D.TIz D.TITO D.TIi1 D.TIi2 z2,a3,a4⟩
       · obtain⟨o3,e3,_⟩:=z3
         obtain⟨o4,e4,_⟩:=z4
         simp only[List.mem_cons,List.not_mem_nil,or_false] at hm
         rcases hm with z | z | z | z | z
         · exact absurd (z ▸ Heap.lt_size q1) (Nat.lt_irrefl _)
         · exact absurd (z ▸ Heap.lt_size z2) (Nat.lt_irrefl _)
         · exact absurd (z ▸ Heap.lt_size q2) (Nat.lt_irrefl _)
         · exact absurd (z ▸ Heap.lt_size e3) (Nat.lt_irrefl _)
         · exact absurd (z ▸ Heap.lt_size e4) (Nat.lt_irrefl _)
       · exact absurd (z ▸ Heap.lt_size hs) (Nat.lt_irrefl _)
     show wpAny _ A.in1 (updateSeq S (·.push (.ref s.heap.objs.size)) >>= _) _ _ _
     refine wpAny_bind (wpAny_updateSeq hS' rfl (wpAny_pure ⟨plainId_quiet F.plain_extend_loop _,fin h' a5 zz kk _ (Heap.get?_update_self _ hS' rfl)⟩) ?_ ?_)
     · show acc.size<=sizeLine;omega
     · show(acc.push _).size<=sizeLine+1;rw[Array.size_push];omega
   · refine aW D q1 q4 z2 z3 z4 pa.isList pb.isList (by simpa using g1) (by simpa using g2) fun h' a1 a2 a3 a4 hk=>?_
     have kk:∀c o,c∉[n+4,n+2,n+3,n,n+1]->s.heap.get? c=some o->h'.get? c=some o:=fun c o hc e=>hk c o (fun z=>hc (by simp[z])) (fun z=>hc (by simp[z])) (fun z=>hc (by simp[z])) e
     have hS':=kk _ _ hS hs
     have zz:ZSt h' n a b S (i+1):=⟨.inr ⟨T,true,_,a1,q2,q3,kk _ _ q2 q4⟩,hk _ _ D.TIz D.TIi1 D.TIi2 z2,a2,a3⟩
     show wpAny _ A.in1 (updateSeq S (·.push (.ref s.heap.objs.size)) >>= _) _ _ _
     refine wpAny_bind (wpAny_updateSeq hS' rfl (wpAny_pure ⟨plainId_quiet F.plain_extend_loop _,fin h' a4 zz kk _ (Heap.get?_update_self _ hS' rfl)⟩) ?_ ?_)
     · show acc.size<=sizeLine;omega
     · show(acc.push _).size<=sizeLine+1;rw[Array.size_push];omega
theorem zVi:typeLookup (.type "zip") "__len__"=pure none:=by rw[typeLookup_type,builtinLookup_eq_fast];kernel_rfl
theorem zW7:typeLookup (.type "zip") "__length_hint__"=pure none:=by rw[typeLookup_type,builtinLookup_eq_fast];kernel_rfl
theorem zWq {X:Cx}{pins:List (Addr×Obj)}{σ:St}{A:Around}{E:Value->Shared->Prop}{s:Shared}{Q:List Value->Shared->Prop}(hh:A.handled=none){n a b:Addr}{G0 H0:Hp}{ds es:List D}{us ws:List V}
   (ha:SqL X.K G0 a us) (ra:Reps X.K G0 ds us) (hb:SqL X.K G0 b ws) (rb:Reps X.K G0 es ws) (hlen:(sL ds es).length<=1000) (I:Inv X pins σ H0 s) (hs:Same G0 H0) (hf:∀d∈[n+4,n+2,n+3,n,n+1],mN X pins H0 d)
   (z1:IsZip s.heap (n+4) (n+2) (n+3) .none) (z2:IsPair s.heap (n+2) (.ref n) (.ref (n+1))) (z3:IsPair s.heap (n+3) .none .none) (z4:s.heap.IsListIter n a 0) (z5:s.heap.IsListIter (n+1) b 0)
   (hQ:∀(s':Shared) (H' G':Hp) (acc:Array Value) (vs:List V),Inv X pins σ H' s'->Step G0 H0 G' H'->Reps X.K G' (sL ds es) vs->Vals vs acc.toList->Q acc.toList s'):wpAny (model X.prog X.w) A (collect (.ref (n+4))) Q E s:=by
 have lt:∀d∈[n+4,n+2,n+3,n,n+1],d < s.heap.objs.size:=fun d hd=>by
   obtain⟨o4,e4,_⟩:=z4
   obtain⟨o5,e5,_⟩:=z5
   simp only[List.mem_cons,List.not_mem_nil,or_false] at hd
   rcases hd with q | q | q | q | q
   · rw[q];exact Heap.lt_size z1
   · rw[q];exact Heap.lt_size z2
   · rw[q];exact Heap.lt_size z3
   · rw[q];exact Heap.lt_size e4
   · rw[q];exact Heap.lt_size e5
 have hS:s.heap.objs.size∉[n+4,n+2,n+3,n,n+1]:=fun hm=>Nat.lt_irrefl _ (lt _ hm)
 have hSI:s.heap.objs.size≠n+4:=fun e=>hS (by rw[e];simp)
 have hT:∀h':Heap,IsZip h' (n+4) (n+2) (n+3) .none->Shared.TypeIs { s with heap:=h' } (.ref (n+4)) "zip":=fun h' q=>⟨_,q,rfl⟩
 unfold collect
 refine wpAny_bind (wpAny_runValue (codeAny_builtin F.entry_proto_collect ?_))
 rw[Around.under_plainId F.plain_proto_collect _]
 show wpAny _ A.in1 (newList [] >>= fun l=>again (.builtin "list.__iadd__" ⟨[l,.ref (n+4)],[]⟩)) _ _ s
 refine wpAny_bind (wpAny_newObj_type ?_)
 refine wpAny_pure ⟨plainId_quiet F.plain_list_iadd _,codeAny_builtin F.entry_list_iadd ?_⟩
 rw[Around.under_plainId F.plain_list_iadd _]
 show wpAny _ A.in1 (Builtin.List.listExtendWith (.ref s.heap.objs.size) (.ref (n+4)) (.ref s.heap.objs.size)) _ _ _
 have y1:IsZip (s.heap.push { cls:=.type "list",data:=.seq ([]:List Value).toArray }) (n+4) (n+2) (n+3) .none:=Heap.get?_push_of_some _ z1
 unfold Builtin.List.listExtendWith
 refine wpAny_bind (wpAny_typeOf (hT _ y1) ?_)
 have h1:Builtin.List.listSameRef (.ref s.heap.objs.size) (.ref (n+4))=false:=by simp[Builtin.List.listSameRef,hSI]
 have h2:(Value.type "zip"==Value.type "list")=false:=by decide
 have h3:(Value.type "zip"==Value.type "tuple")=false:=by decide
 simp only[h1,h2,h3,Bool.or_false,Bool.false_eq_true,if_false]
 refine wpAny_bind (wpAny_pyIter_zip y1 ?_)
 refine wpAny_bind (wpAny_holding ?_)
 unfold Builtin.List.listLengthHint
 refine wpAny_bind (wpAny_specialOf (hT _ y1) zVi ?_)
 show wpAny _ A.in1 (specialOf (Value.ref (n+4)) (Str.ofString "__length_hint__") >>= _) _ _ _
 refine wpAny_bind (wpAny_specialOf (hT _ y1) zW7 ?_)
 refine wpAny_pure ?_
 show wpAny _ A.in1 (rule "list.extend.makes-room" >>= fun _=>Builtin.List.listTouch (.ref s.heap.objs.size) >>= fun _ =>
   again (.builtin "list.extend.loop" ⟨[.ref s.heap.objs.size,.ref (n+4),.ref s.heap.objs.size],[]⟩)) _ _ _
 refine wpAny_bind (wpAny_rule ?_)
 have hS₁:(s.heap.push { cls:=.type "list",data:=.seq ([]:List Value).toArray }).get? s.heap.objs.size=some { cls:=.type "list",data:=.seq ([]:List Value).toArray }:=Heap.get?_push_size _ rfl
 refine wpAny_bind ?_
 show wpAny _ A.in1 (updateSeq s.heap.objs.size (·.push .none) >>= fun _=>updateSeq s.heap.objs.size (·.pop)) _ _ _
 refine wpAny_bind (wpAny_updateSeq hS₁ rfl ?_)
 have hS₂:=Heap.get?_update_self (Obj.mapSeq (·.push Value.none)) hS₁ rfl
 refine wpAny_updateSeq hS₂ rfl ?_
 have hS₃ := Heap.get?_update_self (Obj.mapSeq (·.pop)) hS₂ rfl
 have oth:∀b o,b≠s.heap.objs.size->s.heap.get? b=some o ->
     (((s.heap.push { cls:=.type "list",data:=.seq ([]:List Value).toArray }).update s.heap.objs.size (Obj.mapSeq (·.push Value.none))).update s.heap.objs.size (Obj.mapSeq (·.pop))).get? b=some o :=
   fun b o hb e=>(Heap.get?_update_other _ _ (Ne.symm hb)).trans ((Heap.get?_update_other _ _ (Ne.symm hb)).trans (Heap.get?_push_of_some _ e))
 have oth':∀b o,s.heap.get? b=some o->_:=fun b o e=>oth b o (Nat.ne_of_lt (Heap.lt_size e)) e
 have I3:Inv X pins σ H0 { s with heap:=((s.heap.push { cls:=.type "list",data:=.seq ([]:List Value).toArray }).update s.heap.objs.size (Obj.mapSeq (·.push Value.none))).update s.heap.objs.size (Obj.mapSeq (·.pop)) }:=I.kept (t':=s.toks) oth'
 refine wpAny_pure ⟨plainId_quiet F.plain_extend_loop _,zSd (S:=s.heap.objs.size) (A:=A) hh ha ra hb rb hS hlen _ 0 _ H0 G0 _ _ [] I3 (fun d hd=>?_) (Step.refl hs) (reps_nil.mpr rfl) ⟨.inl ⟨oth' _ _ z1,_,_,oth' _ _ z3⟩,oth' _ _ z2,z4.at fun o e=>oth' _ o e,z5.at fun o e=>oth' _ o e⟩ hS₃ .nil (Nat.zero_add _) fun s' H' G' acc' c' vs' J st rv hv hg=>?_⟩
 · rcases List.mem_cons.mp hd with q | q
   · rw[q];exact I.fpOk (Nat.le_refl _) (I.hok.fresh (Nat.le_refl _))
   · exact hf d q
 · show wpAny _ A (load s.heap.objs.size >>= _) _ _ s'
   refine wpAny_bind (wpAny_load hg ?_)
   exact wpAny_pure (hQ s' H' G' acc' vs' J st rv hv)
open AutoSeq1 (wpAny_loadPart') in
theorem zWw {X:Cx}{pins:List (Addr×Obj)}{σ:St}{A:Around}{E:Value->Shared->Prop}{s:Shared}{Q:Value->Shared->Prop}(hh:A.handled=none){n a b:Addr}{G0 H0:Hp}{ds es:List D}{us ws:List V}
   (ha:SqL X.K G0 a us) (ra:Reps X.K G0 ds us) (hb:SqL X.K G0 b ws) (rb:Reps X.K G0 es ws) (hlen:(sL ds es).length<=1000) (I:Inv X pins σ H0 s) (hs:Same G0 H0) (hf:∀d∈[n+4,n+2,n+3,n,n+1],mN X pins H0 d)
   (z1:IsZip s.heap (n+4) (n+2) (n+3) .none) (z2:IsPair s.heap (n+2) (.ref n) (.ref (n+1))) (z3:IsPair s.heap (n+3) .none .none) (z4:s.heap.IsListIter n a 0) (z5:s.heap.IsListIter (n+1) b 0)
   (hQ:∀(s':Shared) (H' G':Hp) (acc:Array Value) (vs:List V),Inv X pins σ H' s'->Step G0 H0 G' H'->Reps X.K G' (sL ds es) vs->Vals vs acc.toList->Q (.ref s'.heap.objs.size) { s' with heap:=s'.heap.push { cls:=.type "tuple",data:=.seq acc } }) :
   codeAny (model X.prog X.w) A (.call (.builtin "tuple.__new__") ⟨[.type "tuple",.ref (n+4)],[]⟩) (wants Q E) s:=by
 refine codeAny_of_tree ?_
 show wpAny _ A.in1 (do checkBuiltinCall "tuple.__new__" ⟨[.type "tuple",.ref (n+4)],[]⟩;again (.builtin "tuple.__new__" ⟨[.type "tuple",.ref (n+4)],[]⟩)) _ _ s
 refine wpAny_bind (wpAny_of_eq (F.newCall_tuple_1 _) (wpAny_pure ⟨plainId_quiet F.plain_tuple_new _,codeAny_builtin F.entry_tuple_new ?_⟩))
 rw[Around.under_plainId F.plain_tuple_new _]
 have hsub:=sub_tuple_self
 have hinit:=init_tuple_lookup
 have hmh:=madeHere_tuple
 have hTI:s.TypeIs (.ref (n+4)) "zip":=⟨_,z1,rfl⟩
 have hh1:A.in1.handled=none:=by simp[hh]
 wp_walk using wpAny_typeOf hTI,zWq (A:=A.in1) hh1 ha ra hb rb hlen I hs hf z1 z2 z3 z4 z5
 intro s' H' G' acc vs J st rv hv
 show wpAny _ _ (Builtin.Tuple.tupleExact acc.toList.toArray >>= fun v=>ret v) _ _ _
 unfold Builtin.Tuple.tupleExact
 have hsl:1001<=sizeLine:=Nat.le_of_lt (wK (by decide))
 have h1:=hv.length
 have h2:=rv.length
 have h3:acc.toList.length=acc.size:=Array.length_toList
 refine wpAny_bind (wpAny_newObj_type ?_ (by show acc.toList.toArray.size<=sizeLine;simp only[Array.toArray_toList];omega))
 refine wpAny_pure ?_
 have e:acc.toList.toArray=acc:=by simp
 rw[e]
 exact hQ s' H' G' acc vs J st rv hv
theorem zWk {X:Cx}{pins:List (Addr×Obj)}{σ:St}{A:Around}{E:Value->Shared->Prop}{s:Shared}{Q:Value->Shared->Prop}(hh:A.handled=none){n a b:Addr}{G0 H0:Hp}{ds es:List D}{us ws:List V}
   (ha:SqL X.K G0 a us) (ra:Reps X.K G0 ds us) (hb:SqL X.K G0 b ws) (rb:Reps X.K G0 es ws) (hlen:(sL ds es).length<=1000) (I:Inv X pins σ H0 s) (hs:Same G0 H0) (hf:∀d∈[n+4,n+2,n+3,n,n+1],mN X pins H0 d)
   (z1:IsZip s.heap (n+4) (n+2) (n+3) .none) (z2:IsPair s.heap (n+2) (.ref n) (.ref (n+1))) (z3:IsPair s.heap (n+3) .none .none) (z4:s.heap.IsListIter n a 0) (z5:s.heap.IsListIter (n+1) b 0)
   (hQ:∀(s':Shared) (H' G':Hp) (acc:Array Value) (vs:List V),Inv X pins σ H' s'->Step G0 H0 G' H'->Reps X.K G' (sL ds es) vs->Vals vs acc.toList->Q (.ref s'.heap.objs.size) { s' with heap:=s'.heap.push { cls:=.type "tuple",data:=.seq acc } }) :
   wpAny (model X.prog X.w) A (call (.type "tuple") [.ref (n+4)]) Q E s:=by
 refine callType_codes (Q₁:=fun obj s₁=>s₁.TypeIs obj "tuple"/\Q obj s₁) F.called_tuple (F.typeCall_tuple_1 _) F.entry_object_init
   (zWw (by simp[hh]) ha ra hb rb hlen I hs hf z1 z2 z3 z4 z5 fun s' H' G' acc vs J st rv hv=>⟨⟨_,Heap.get?_push_size _ rfl,rfl⟩,hQ s' H' G' acc vs J st rv hv⟩) fun obj s₁ h₁=>?_
 exact⟨h₁.1,F.args_object_init_2 obj _,object_init_meets F.called_tuple.init.lookup F.called_tuple.made (by decide) X.prog X.w A.in1 _ s₁ ⟨h₁.1,rfl,h₁.2⟩⟩
section
variable {X:Cx} {a b c e tg elt iter:Expr} {es ifs:List Expr} {fa fb fc:Ef} {ga gb gi:Lf} {ta tc:Tf} {pos p p2:Pos} {st:Stmt}
def zXI (f g:Ef):Ef:=fun ρ=>(f ρ).bind fun x=>(g ρ).bind fun y=>match x,y with | .lst xs,.lst ys=>if (sL xs ys).length<=1000 then some (.tup (sL xs ys)) else none | _,_=>none
theorem zTA {pos':Pos}(hc:X.calm=true)(hg:Gl X "tuple")(hm:X.mg "tuple"=none)(hg':Gl X "zip")(hm':X.mg "zip"=none)(ha:PF X a fa)(hb:PF X b fb)(hs:starEach [a,b] X.env=[(false,eval a X.env),(false,eval b X.env)]:=by rfl)(hs2:starEach [b] X.env=[(false,eval b X.env)]:=by rfl)
   (hs3:starEach [Expr.Call (.Name "zip" p2) [a,b] [] pos'] X.env=[(false,eval (.Call (.Name "zip" p2) [a,b] [] pos') X.env)]:=by rfl) :
   PF X (.Call (.Name "tuple" p) [.Call (.Name "zip" p2) [a,b] [] pos'] [] pos) (zXI fa fb):=by
 intro pins s σ H Q I q
 obtain⟨G0,H0,G,ρ,d,good,hf,kk⟩:=q
 unfold zXI at hf
 obtain⟨x,h1,hf⟩:=Option.bind_eq_some_iff.mp hf
 obtain⟨y,h2,hf⟩:=Option.bind_eq_some_iff.mp hf
 cases x with
 | lst xs =>
   cases y with
   | lst ys =>
     dsimp only at hf
     split at hf
     · rename_i hz
       cases hf
       have hA:=yS ha (yS hb yB (by rw[hs2];rfl)) (by rw[hs,hs2]) pos' pins s σ H (fun vs H'=>∃a b us ws G',vs=[.ref a,.ref b]/\Step G H G' H'/\SqL X.K G' a us/\Reps X.K G' xs us/\SqL X.K G' b ws/\Reps X.K G' ys ws) I
         ⟨G0,H0,G,ρ,_,good,h1,fun v H1 G1 s1 r1=>⟨G0,H0,G1,ρ,_,good.step s1,h2,fun u H2 G2 s2 r2=>by
           obtain⟨a,us,rfl,q1,q2⟩:=rep_lst.mp (r1.mono s2.gg)
           obtain⟨b,ws,rfl,q3,q4⟩:=rep_lst.mp r2
           exact⟨a,b,us,ws,G2,rfl,s1.trans s2,q1,q2,q3,q4⟩⟩⟩
       refine Call_ (pE I hg hm (by rfl) (PyProof.Rows.callWith_type1 (rest:=[]) ?_ (by rw[hs3];rfl) (by rfl)))
       rw[hs3]
       refine Calls.spliced_cons (Call_ (pE I hg' hm' (by rfl) (PyProof.Rows.callWith_type1 (thn hA fun us s1 ⟨vs,H1,I1,r1,l1,l2,ws,zs,G1,e1,st1,q1,q2,q3,q4⟩=>?_) (by rw[hs,hs2]) (by rw[hs2];rfl))))
       subst e1
       obtain⟨u,u',rfl,ru,ru'⟩:=zRH r1
       cases ru
       cases ru'
       obtain⟨its,rv,p1,_⟩:=I1.list (st1.sub.seq q1)
       obtain⟨jts,rv',p2,_⟩:=I1.list (st1.sub.seq q3)
       refine call_zip_2 p1.isList p2.isList fun h' z1 z2 z3 z4 z5 _ hk=>?_
       have I2:Inv X pins σ H1 { s1 with heap:=h' }:=I1.kept (t':=s1.toks) hk
       refine Calls.spliced_nil ?_
       refine zWk (I.ok.hd hc) q1 q2 q3 q4 hz I2 st1.sub (fun d hd=>?_) z1 z2 z3 z4 z5 fun s' H' G' acc vs J st rv hv=>?_
       · have hb':s1.heap.objs.size<=d:=by
           simp only[List.mem_cons,List.not_mem_nil,or_false] at hd
           rcases hd with z | z | z | z | z<;>(rw[z];first | exact Nat.le_refl _ | exact Nat.le_add_right _ _)
         exact I1.fpOk hb' (I1.hok.fresh hb')
       · have hl:=rv.length
         have hsl:1001<=sizeLine:=Nat.le_of_lt (wK (by decide))
         have I3:Inv X pins σ (upd H' s'.heap.objs.size (.tup vs)) { s' with heap:=s'.heap.push { cls:=.type "tuple",data:=.seq acc } } :=
           J.laid (t':=s'.toks) (fun b o e=>Heap.get?_push_of_some _ e) (Nat.le_refl _) (show ObjOk X.prog X.w _ _ _ (.tup vs) from⟨by omega,acc.toList,hv,by have:=IsTup.new s'.heap acc;simpa using this⟩)
         have fr:H' s'.heap.objs.size=none:=J.hok.fresh (Nat.le_refl _)
         have s4:=Step.laid (o:=.tup vs) st.sub fr
         exact⟨.ref s'.heap.objs.size,_,I3,rfl,kk _ _ _ ((st1.trans st).trans s4) (rep_tup.mpr ⟨_,_,rfl,.of z0,rv.mono s4.gg⟩)⟩
     · cases hf
   | _=>cases hf
 | _=>cases hf
def zWo (x:Str)(l:Int):Str:=⟨((Builtin.Str.strSliceIndices (some l) none 2 x.length).filterMap (x.cps[·]?)).toArray⟩
def zYx (f fl fs:Ef):Ef:=fun ρ=>(f ρ).bind fun d=>(qM fl ρ).bind fun l=>(qM fs ρ).bind fun k=>match d,l,k with | .str x,some i,some j=>if j=2/\(zWo x i).length<=lim then some (.str (zWo x i)) else none | _,_,_=>none
theorem zWg {lo st:Expr}{fl fs:Ef}(ha:PF X a fa)(hl:PF X lo fl)(hst:PF X st fs):PF X (.Subscript a (.Slice (some lo) none (some st) p2) pos) (zYx fa fl fs):=by
 intro pins s σ H Q I q
 obtain⟨G0,H0,G,ρ,d,good,hf,kk⟩:=q
 unfold zYx at hf
 obtain⟨x,h1,hf⟩:=Option.bind_eq_some_iff.mp hf
 obtain⟨l,h2,hf⟩:=Option.bind_eq_some_iff.mp hf
 obtain⟨k,h3,hf⟩:=Option.bind_eq_some_iff.mp hf
 cases x with
 | str z=>cases l with
  | none=>cases hf
  | some i=>cases k with
   | none=>cases hf
   | some j =>
    dsimp only at hf
    split at hf
    · rename_i hj
      obtain⟨rfl,hz⟩:=hj
      cases hf
      refine Subscript_ (thn (ha pins s σ H (fun v H1=>∃G1,Step G H G1 H1/\v = .str z) I ⟨G0,H0,G,ρ,_,good,h1,fun v H1 G1 s1 r1=>⟨G1,s1,rep_str.mp r1⟩⟩) fun v s1 ⟨x,H1,I1,r1,G1,st1,e1⟩=>?_)
      subst e1
      obtain⟨t,rfl⟩:=r1
      refine wpAny_Slice (thn (zYM hl pins s1 σ H1 (fun o H2=>∃G2,Step G H G2 H2/\o=some i) I1 ⟨G0,H0,G1,ρ,_,good.step st1,h2,fun H2 G2 s2=>⟨G2,st1.trans s2,rfl⟩⟩) fun vl s2 ⟨l',H2,I2,pl,G2,st2,e2⟩=>?_)
      subst e2
      rw[evalPart_none]
      refine wpAny_pure (thn (zYM hst pins s2 σ H2 (fun o H3=>∃G3,Step G H G3 H3/\o=some 2) I2 ⟨G0,H0,G2,ρ,_,good.step st2,h3,fun H3 G3 s3=>⟨G3,st2.trans s3,rfl⟩⟩) fun vk s3 ⟨k',H3,I3,pk,G3,st3,e3⟩=>?_)
      subst e3
      cases pl with
      | int _ ti =>
        cases pk with
        | int _ tk =>
          have I4:Inv X pins σ H3 { s3 with heap:=s3.heap.push { cls:=.type "slice",data:=.fields #[.int i ti,.none,.int 2 tk] } }:=I3.kept (t':=s3.toks) fun b ob q=>Heap.get?_push_of_some _ q
          have fin:∀t' k,EP X pins σ Q (.str (zWo z i) t') { ({ s3 with heap:=s3.heap.push { cls:=.type "slice",data:=.fields #[.int i ti,.none,.int 2 tk] } }:Shared) with toks:=k }:=fun t' k=>⟨.str (zWo z i),H3,I4.tok k,⟨t',rfl⟩,kk _ _ _ st3 (rep_str.mpr rfl)⟩
          show wpAny (model X.prog X.w) X.A (subscriptTail a (.Slice (some lo) none (some st) p2) (.str z t) (.ref s3.heap.objs.size)) (EP X pins σ Q) X.xe _
          refine tail_any (ops:=[.ref s3.heap.objs.size,.str z t]) (T:="str") (typeIs_str _ z t) F.slot_str_getitem.lookup ?_ (by with_unfolding_all rfl)
          exact wpAny_getItem_str_slice (l:=some (i,ti)) (u:=none) (st:=some (2,tk)) ⟨_,Heap.get?_push_size _ rfl,rfl,rfl⟩ rfl (show((Made.str (zWo z i)).post _ _) from⟨Nat.le_of_lt (wK hz),fin _ _⟩)
    · cases hf
 | _=>cases hf
end
end L2
namespace L2
open PySem PySem.Spec PyProof.Rows
section
variable {X:Cx}
end
open PySem.W
section
variable {prog:Program} {w:World} {A:Around} {E:Value->Shared->Prop} {h:Heap} {g:Array GenState} {d:Drawn} {t:Nat} {os:OsState} {a C:Addr} {o:Obj} {K:Frag}
end
end L2
namespace L2
open PySem PySem.Spec PySem.W
section
variable {prog:Program} {w:World} {A:Around} {E:Value->Shared->Prop} {h:Heap} {g:Array GenState} {d:Drawn} {t:Nat} {os:OsState} {K:Frag}
variable {nm q:Str} {C N:Addr} {bs bm:List Value} {hdct:Bool} {sn:List Str} {sub:List Value} {ab:Bool} {col:Option Bool} {dd:Option Addr} {k0 k1 k2 k3 k5:Option Value}
end
end L2
namespace L2
open PySem PySem.Spec PySem.W
open Builtin Builtin.ObjectAttr
def zWc:List Value->Bool
 | []=>false
 | v::r=>(v::r)==[.type "ValueError",.type "Exception",.type "BaseException",.type "object"]||match v with | .ref _=>zWc r | _=>false
section
variable {prog:Program} {w:World} {A:Around} {E:Value->Shared->Prop} {h:Heap} {g:Array GenState} {d:Drawn} {t:Nat} {os:OsState} {K:Frag}
variable {nm q:Str} {C N x:Addr} {bs bm:List Value} {sn:List Str} {sub:List Value} {ab:Bool} {col:Option Bool} {dd:Option Addr} {k0 k1 k2 k3 k5:Option Value} {newId:String} {name:Str} {v:Value} {o:Obj}
end
section
variable {prog:Program} {w:World} {A:Around} {E:Value->Shared->Prop} {h:Heap} {g:Array GenState} {d:Drawn} {t:Nat} {os:OsState} {K:Frag} {a C dx:Addr} {o:Obj} {name:Str} {v:Value} {mA:Str->Option Value}
variable {nm q:Str} {N:Addr} {bs bm:List Value} {sn:List Str} {sub:List Value} {ab:Bool} {col:Option Bool} {dd:Option Addr} {k0 k1 k2 k3 k5:Option Value} {newId:String}
end
end L2
namespace L2
open PySem PySem.Spec PyProof.Rows
structure XKit (K:PySem.W.Frag)(C:Addr):Prop where
 cl:(PySem.W.clsIn K C).isSome=true
 ga:PySem.W.findIn K (.ref C) "__getattribute__"=some (some (.builtin "BaseException.__getattribute__"))
 gt:PySem.W.findIn K (.ref C) "__getattr__"=some none
 gc:PySem.W.findIn K (.ref C) "__class__"=some (some (.builtin "object.__class__"))
 so:PySem.W.subIn K (.ref C) (.type "object")=some true
 sb:PySem.W.subIn K (.ref C) (.type "BaseException")=some true
def zOv (K:PySem.W.Frag)(C:Addr):Prop:=∃nm q N bs bm sn sub ab col dd k0 k1 k2 k3 k5,K.lookup C=some (excClassObj nm q C N bs bm true sn sub ab col dd k0 k1 k2 k3 k5 "ValueError.__new__")/\zWc bm=true
section
variable {X:Cx} {a b c e tg elt iter:Expr} {es ifs:List Expr} {fa fb fc:Ef} {ga gb gi:Lf} {ta tc:Tf} {pos p:Pos} {st:Stmt}
structure XSt (K:PySem.W.Frag)(C:Addr):Prop where
 kit:XKit K C
 ob:zOv K C
 sa:PySem.W.findIn K (.ref C) "__setattr__"=some (some (.builtin "object.__setattr__"))
end
section
variable {P:Program} {w:World} {K:PySem.W.Frag} {mg:Str->Option Value} {base:Heap} {x qual:Str} {st:Stmt} {f C:Addr} {fd:FuncData} {N ps ns:List Str} {k:Nat} {sf:Str}
end
structure XMk (K:PySem.W.Frag)(C f:Addr):Prop where
 ob:zOv K C
 init:PySem.W.findIn K (.ref C) "__init__"=some (some (.ref f))
 fn:PySem.W.isFn K (.ref f)=true
 kp:PySem.W.keepIn K (.ref C)=true
section
variable {X:Cx} {a b c e tg elt iter:Expr} {es ifs:List Expr} {fa fb fc:Ef} {ga gb gi:Lf} {ta tc:Tf} {pos p:Pos} {st:Stmt}
end
end L2
namespace L2
open PySem PySem.Spec PyProof.Rows
section
variable {X:Cx} {pos p:Pos}
end
end L2
namespace L2
open PySem PySem.Spec PyProof.Rows
def zPF (h:Heap)(e:Addr)(v:Value):Prop:=v = .none∨∃T oT ts,v = .ref T/\T≠e/\h.get? T=some oT/\oT.data = .fields ts/\ts[3]?=some .none
structure Flew (fs:List Addr)(e:Addr)(c:Value)(od:Option Addr)(vs:Array Value)(sl:Array (Option Value))(h h':Heap):Prop where
 obj:h'.get? e=some { cls:=c,dict:=od,data:=.fields (vs.setIfInBounds 1 (.ref h.objs.size)),slots:=sl }
 ne:h.objs.size≠e
 head:∃oT ts,h'.get? h.objs.size=some oT/\oT.data = .fields ts/\ts[3]?=some .none
 keep:∀b o,h.get? b=some o->b≠e->b∉fs->some (Value.ref b)≠vs[1]?->h'.get? b=some o
 slot:∀b o,h.get? b=some o->b≠e->b∈fs->some (Value.ref b)≠vs[1]?->∃z,h'.get? b=some { o with slots:=z }
section
variable {M:Model} {A:Around} {E:Value->Shared->Prop} {s:Shared}
end
structure Fly (h:Heap)(H:Hp)(h0:Heap)(C a:Addr):Prop where
 ob:∃vs v,h.get? a=some { cls:=.ref C,dict:=none,data:=.fields vs,slots:=#[] }/\vs[1]?=some v/\zPF h a v/\∀T,v = .ref T->H T=none/\h0.get? T=none
 free:H a=none
 new:h0.get? a=none
section
variable {P:Program} {w:World} {K:PySem.W.Frag} {mg:Str->Option Value} {base:Heap} {N:List Str} {qual:Str} {scope:Scope} {f:Addr} {cd:Value} {A:Around} {outer:List Env} {s₀ s:Shared} {H₀ H:Hp} {E:XK} {pins:List (Addr×Obj)} {σ:St} {C a:Addr}
end
section
variable {X:Cx} {E:XK} {C:Addr} {c:Str} {p cpos pos:Pos} {e:Expr} {es:List Expr} {t:TA}
end
end L2
namespace L2
open PySem PySem.Spec PyProof.Rows
section
variable {M:Model} {A:Around} {E:Value->Shared->Prop} {s:Shared}
end
section
variable {X:Cx} {pins:List (Addr×Obj)} {σ:St} {H:Hp} {s:Shared}
end
section
variable {X:Cx} {pins:List (Addr×Obj)} {σ:St}
end
end L2
namespace L2
open PySem PySem.Spec PyProof.Rows
section
variable {X:Cx} {E:XK} {a b e:Expr} {es:List Expr} {ga:Lf} {tt:Tf} {f:Sf} {x xa xb:List B->Option Str} {pos p cpos:Pos} {st:Stmt} {sts rest:List Stmt}
end
section
variable {P:Program} {w:World} {K:PySem.W.Frag} {mg:Str->Option Value} {base:Heap} {x qual:Str} {st:Stmt} {f:Addr} {fd:FuncData} {N ps:List Str} {k:Nat}
end
section
variable {X:Cx} {a b e:Expr} {es:List Expr} {ga:Lf} {tt:Tf} {xa xb:List B->Option Str} {pos p cpos:Pos} {st st':Stmt}
end
end L2
namespace L2
open PySem PySem.Spec PyProof.Rows
section
variable {prog:Program} {w:World} {A:Around} {E:Value->Shared->Prop} {s:Shared}
structure Z3 (z TI TO i1 i2 i3 l1 l2 l3:Addr):Prop where
 TIz:TI≠z
 TOz:TO≠z
 i1z:i1≠z
 i2z:i2≠z
 i3z:i3≠z
 TITO:TI≠TO
 TIi1:TI≠i1
 TIi2:TI≠i2
 TIi3:TI≠i3
 TOi1:TO≠i1
 TOi2:TO≠i2
 TOi3:TO≠i3
 i12:i1≠i2
 i13:i1≠i3
 i23:i2≠i3
 a1:l1≠z
 a2:l1≠TO
 a3:l1≠i1
 a4:l1≠i2
 a5:l1≠i3
 b1:l2≠z
 b2:l2≠TO
 b3:l2≠i1
 b4:l2≠i2
 b5:l2≠i3
 c1:l3≠z
 c2:l3≠TO
 c3:l3≠i1
 c4:l3≠i2
 c5:l3≠i3
end
section
variable {prog:Program} {w:World} {A:Around} {E:Value->Shared->Prop} {s:Shared}
end
section
variable {X:Cx} {a b c e tg elt iter:Expr} {fa fb fc:Ef} {ga:Lf} {pos p:Pos}
end
end L2
namespace L2
open PySem PySem.Spec PyProof.Rows
section
variable {X:Cx} {a b c e:Expr} {es:List Expr} {fa fb fc:Ef} {ga gb:Lf} {pos p:Pos}
theorem dY:∀ {ns:List Int} {its:List Value},Vals (ns.map V.int) its->∃ps:List (Int×Tok),its=ps.map (fun p=>Value.int p.1 p.2)/\ps.map (·.1)=ns
 | [],_,h=>by cases h;exact⟨[],rfl,rfl⟩
 | n::ns,_,h=>by
   cases h with
   | cons h1 h2 =>
     obtain⟨t,rfl⟩:=h1
     obtain⟨ps,rfl,rfl⟩:=dY h2
     exact⟨(n,t)::ps,rfl,rfl⟩
end
section
variable {prog:Program} {w:World} {A:Around} {E:Value->Shared->Prop} {s:Shared}
end
section
variable {X:Cx} {a b c e:Expr} {es:List Expr} {fa fb fc:Ef} {ga gb:Lf} {pos p:Pos}
def zRM (i:Nat)(fb:Ef):Ef:=fun ρ=>match ρ[i]? with | some (.ow ds)=>(fb ρ).bind (fun y=>match y with | .int k=>atI ds k | _=>none) | _=>none
theorem zOW (i:Nat){x:Str}{p1:Pos}(hb:PF X b fb)(hN:X.N[i]?=some x:=by rfl)(hv:Vis X.env.scope x:=by first | exact Or.inl rfl | exact Or.inr (Or.inl rfl) | exact Or.inr (Or.inr rfl))(hd:(x==("__debug__":Str))=false:=by decide)(hcd:(x==("__classdict__":Str))=false:=by decide)(hs:cD b:=by exact fun _ _=>rfl) :
   PF X (.Subscript (.Name x p1) b pos) (zRM i fb):=by
 refine PE.to (zSX ix_list (nL hN hv hd hcd) hb hs) ?_
 rintro σ H Q ⟨G0,H0,G,ρ,d,good,hf,k⟩
 unfold zRM at hf
 split at hf
 · rename_i ds hi
   obtain⟨q,vs,e1,e2,e3,e4,e5⟩:=good.addr hi
   obtain⟨y,h2,hf⟩:=Option.bind_eq_some_iff.mp hf
   cases y with
   | int m =>
     refine⟨.ref q,e1,G0,H0,G,ρ,_,good,h2,fun v H2 G2 s2 r2=>?_⟩
     obtain⟨w,e,rw'⟩:=aQ (e5.mono s2.gg) hf
     exact⟨q,vs,m,w,rfl,rep_int.mp r2,.of (s2.hh _ _ e2),e,k _ _ G2 s2 rw'⟩
   | _=>cases hf
 · cases hf
end
end L2
namespace L2
open PySem PySem.Spec PyProof.Rows
section
variable {prog:Program} {w:World} {A:Around} {E:Value->Shared->Prop} {s:Shared}
theorem zVw:typeLookup (.type "list_reverseiterator") "__len__"=pure none:=by rw[typeLookup_type,builtinLookup_eq_fast];kernel_rfl
theorem zSH:typeLookup (.type "list_reverseiterator") "__length_hint__"=pure (some (.builtin "list_reverseiterator.__length_hint__")):=by rw[typeLookup_type,builtinLookup_eq_fast];kernel_rfl
theorem zRO {it l:Addr}{i:Int}{Q:Bool->Shared->Prop}(hit:s.heap.IsRevIter it l i)(h:Q false s):wpAny (model prog w) A (Builtin.List.listLengthHint (.ref it)) Q E s:=by
 unfold Builtin.List.listLengthHint
 refine wpAny_bind (wpAny_specialOf hit.typeIs zVw ?_)
 refine wpAny_ite_split (fun hab=>absurd hab (by decide)) (fun _=>?_)
 refine wpAny_ite_split (fun hab=>absurd hab (by decide)) (fun _=>?_)
 refine wpAny_bind (wpAny_specialOf hit.typeIs zSH ?_)
 generalize hid:("list_reverseiterator.__length_hint__":String)=id0
 wp_delta
 rw[show splitId id0=some ("list_reverseiterator","__length_hint__") from by subst hid;decide +kernel]
 subst hid
 refine wpAny_bind (wpAny_isInstance (T:="list_reverseiterator") (b:=true) hit.typeIs (by rw[isSubtype_type];kernel_rfl) ?_)
 refine wpAny_ite_split (fun hab=>absurd hab (by decide)) (fun _=>?_)
 refine wpAny_ite_split (fun _=>?_) (fun hab=>absurd (by decide +kernel) hab)
 refine wpAny_ite_split (fun hab=>absurd hab (by decide +kernel)) (fun _=>?_)
 exact wpAny_pure h
theorem zUX {R:Result->Shared->Prop}{it l S:Addr}{items:Array Value}{res:Value}{c₀:Nat}(hh:A.handled=none)(hit:s.heap.IsRevIter it l ((items.size:Int) - 1))(hl:s.heap.IsList l items)(hli:l≠it)(hSi:S≠it)(hSl:S≠l)(hlen:items.size<=sizeLine)
   (hS:s.heap.get? S=some { cls:=.type "list",data:=.seq #[] c₀ })
   (hR:∀h' tk acc' c',(∀b o,b≠S->b≠it->s.heap.get? b=some o->h'.get? b=some o)->h'.get? S=some { cls:=.type "list",dict:=none,data:=.seq acc' c',slots:=#[] } ->
     ItemsOf (fun i v=>items[items.size - 1 - i]?=some v) acc' items.size->R (.ok (.ret res)) { s with heap:=h',toks:=tk }) :
   wpAny (model prog w) A.in1 (Builtin.List.listExtendWith (.ref S) (.ref it) res)
     (fun fin s'=>match fin with | .done f=>R (.ok f) s' | .again c'=>c'.quiet=true/\codeAny (model prog w) A c' R s') (fun e s'=>R (.error e) s') s:=by
 have hSf:S∉[it,l]:=fun hm=>by
   rcases List.mem_cons.mp hm with e | hm
   · exact hSi e
   · exact hSl (List.mem_singleton.mp hm)
 have W:=(Walks.listRev (prog:=prog) (w:=w) (A:=A.in1) hh it l hli items).toS
 unfold Builtin.List.listExtendWith
 refine wpAny_bind (wpAny_typeOf hit.typeIs ?_)
 have h1:Builtin.List.listSameRef (.ref S) (.ref it)=false:=by simp[Builtin.List.listSameRef,hSi]
 have h2:(Value.type "list_reverseiterator"==Value.type "list")=false:=by decide
 have h3:(Value.type "list_reverseiterator"==Value.type "tuple")=false:=by decide
 simp only[h1,h2,h3,Bool.or_false,Bool.false_eq_true,if_false]
 refine wpAny_bind (wpAny_pyIter_revIter hit ?_)
 refine wpAny_bind (wpAny_holding (zRO hit ?_))
 refine wpAny_ite_split (fun hab=>absurd hab (by decide +kernel)) (fun _=>wpAny_pure ⟨plainId_quiet F.plain_extend_loop _,?_⟩)
 refine codeAny_extend_loopS W hlen S hSf res items.size 0 _ #[] c₀ rfl (Nat.zero_le _) ⟨Nat.zero_le _,by simpa using hit,hl⟩ hS (ItemsOf.nil _) fun s' acc' c' hm hS' hacc=>?_
 rw[Moved.eq_with hm]
 refine hR s'.heap s'.toks acc' c' (fun b o hb hb' e=>hm.heap b o (fun hmem=>?_) e) hS' hacc
 rcases List.mem_cons.mp hmem with e' | hmem
 · exact hb e'
 · exact hb' (List.mem_singleton.mp hmem)
theorem zZ4 {R:Result->Shared->Prop}{it l S:Addr}{items:Array Value}(hh:A.handled=none)(hit:s.heap.IsRevIter it l ((items.size:Int) - 1))(hl:s.heap.IsList l items)(hli:l≠it)(hSi:S≠it)(hSl:S≠l)(hlen:items.size<=sizeLine)
   (hS:s.heap.get? S=some { cls:=.type "list",data:=.seq #[] })
   (hR:∀h' tk acc' c',(∀b o,b≠S->b≠it->s.heap.get? b=some o->h'.get? b=some o)->h'.get? S=some { cls:=.type "list",dict:=none,data:=.seq acc' c',slots:=#[] } ->
     ItemsOf (fun i v=>items[items.size - 1 - i]?=some v) acc' items.size->R (.ok (.ret .none)) { s with heap:=h',toks:=tk }) :
   wpAny (model prog w) A.in1 (Builtin.«list.__init__» ⟨[.ref S,.ref it],[]⟩)
     (fun fin s'=>match fin with | .done f=>R (.ok f) s' | .again c'=>c'.quiet=true/\codeAny (model prog w) A c' R s') (fun e s'=>R (.error e) s') s:=by
 show wpAny _ _ (do let old ←Builtin.List.listItems (.ref S);Builtin.List.listUpdate (.ref S) (fun _=>#[]);letGo old.toList.reverse;Builtin.List.listExtendWith (.ref S) (.ref it) .none) _ _ s
 refine wpAny_bind ?_
 unfold Builtin.List.listItems
 refine wpAny_bind (wpAny_seqItems hS rfl (wpAny_pure ?_))
 show wpAny _ _ (updateSeq S (fun _=>#[]) >>= fun _=>letGo (#[]:Array Value).toList.reverse >>= fun _=>Builtin.List.listExtendWith (.ref S) (.ref it) .none) _ _ s
 refine wpAny_bind (wpAny_updateSeq hS rfl ?_)
 have hS₂:=Heap.get?_update_self (Obj.mapSeq (fun _=>(#[]:Array Value))) hS rfl
 have oth:∀b o,b≠S->s.heap.get? b=some o->(s.heap.update S (Obj.mapSeq (fun _=>(#[]:Array Value)))).get? b=some o :=
   fun b o hb e=>(Heap.get?_update_other _ _ (Ne.symm hb)).trans e
 refine wpAny_bind (wpAny_letGo ?_)
 refine zUX hh (hit.at fun o e=>oth _ _ (Ne.symm hSi) e) (hl.at fun o e=>oth _ _ (Ne.symm hSl) e) hli hSi hSl hlen hS₂ fun h' tk acc' c' hk hS' hacc=>?_
 exact hR h' tk acc' c' (fun b o hb hb' e=>hk b o hb hb' (oth b o hb e)) hS' hacc
theorem zZu {Q:Value->Shared->Prop}{it l:Addr}{items:Array Value}(hh:A.handled=none)(hit:s.heap.IsRevIter it l ((items.size:Int) - 1))(hl:s.heap.IsList l items)(hli:l≠it)(hlen:items.size<=sizeLine)
   (hQ:∀h' tk acc' c',(∀b o,b≠it->s.heap.get? b=some o->h'.get? b=some o) ->
     h'.get? s.heap.objs.size=some { cls:=.type "list",dict:=none,data:=.seq acc' c',slots:=#[] }->ItemsOf (fun i v=>items[items.size - 1 - i]?=some v) acc' items.size->Q (.ref s.heap.objs.size) { s with heap:=h',toks:=tk }) :
   wpAny (model prog w) A (call (.type "list") [.ref it]) Q E s:=by
 refine callType_codes (Q₁:=fun obj s₁=>obj = .ref s.heap.objs.size/\s₁={ s with heap:=s.heap.push { cls:=.type "list",data:=.seq #[] } }) F.called_list (F.typeCall_list_1 _) F.entry_list_init
   (code_list_new _ ⟨rfl,rfl⟩) fun obj s₁ h₁=>?_
 obtain⟨rfl,rfl⟩:=h₁
 have hS:(s.heap.push { cls:=.type "list",data:=.seq #[] }).get? s.heap.objs.size=some { cls:=.type "list",data:=.seq #[] }:=Heap.get?_push_size _ rfl
 have n1:s.heap.objs.size≠it:=fun z=>by obtain⟨o,e,_⟩:=hit;exact absurd (Heap.lt_size e) (by rw[z];exact Nat.lt_irrefl _)
 have n2:s.heap.objs.size≠l:=fun z=>by obtain⟨o,e,_⟩:=hl;exact absurd (Heap.lt_size e) (by rw[z];exact Nat.lt_irrefl _)
 refine⟨⟨_,hS,rfl⟩,F.args_list_init_2 _ _,zZ4 (A:=A.in1) hh (hit.at fun o e=>Heap.get?_push_of_some _ e) (hl.at fun o e=>Heap.get?_push_of_some _ e) hli n1 n2 hlen hS fun h' tk acc' c' hk hS' hacc=>?_⟩
 exact⟨rfl,hQ h' tk acc' c' (fun b o hb e=>hk b o (Nat.ne_of_lt (Heap.lt_size e)) hb (Heap.get?_push_of_some _ e)) hS' hacc⟩
end
theorem zTl {its acc:List Value}(h:ItemsOf (fun i v=>its.toArray[its.toArray.size - 1 - i]?=some v) acc.toArray its.toArray.size):acc=its.reverse:=by
 obtain⟨h1,h2⟩:=h
 simp only[List.size_toArray] at h1 h2
 refine List.ext_getElem (by rw[h1,List.length_reverse]) fun i hi hi'=>?_
 have q:=h2 i acc[i] (by simp[hi])
 rw[List.getElem_reverse]
 simp only[List.getElem?_toArray] at q
 rw[List.getElem?_eq_getElem (by omega)] at q
 exact(Option.some.inj q).symm
theorem Reps.reverse {K:PySem.W.Frag}{G:Hp}:∀ {ds:List D} {vs:List V},Reps K G ds vs->Reps K G ds.reverse vs.reverse
 | [],_,h=>by rw[reps_nil] at h;subst h;exact reps_nil.mpr rfl
 | d::r,_,h=>by
   obtain⟨v,vr,rfl,h1,h2⟩:=reps_cons.mp h
   rw[List.reverse_cons,List.reverse_cons]
   exact h2.reverse.snoc h1
section
variable {X:Cx} {a b c e tg elt iter:Expr} {es:List Expr} {fa fb fc:Ef} {ga gb:Lf} {pos p:Pos}
def zYf (g:Lf):Lf:=fun ρ=>(g ρ).map List.reverse
theorem zVP {p2 pos':Pos}(hc:X.calm=true)(hg:Gl X "list")(hm:X.mg "list"=none)(hg':Gl X "reversed")(hm':X.mg "reversed"=none)(h:zYi X a ga)(hs:starEach [a] X.env=[(false,eval a X.env)]:=by rfl)
   (hs3:starEach [Expr.Call (.Name "reversed" p2) [a] [] pos'] X.env=[(false,eval (.Call (.Name "reversed" p2) [a] [] pos') X.env)]:=by rfl) :
   PFr X (.Call (.Name "list" p) [.Call (.Name "reversed" p2) [a] [] pos'] [] pos) (zYf ga):=by
 intro pins s σ H Q I q
 obtain⟨G0,H0,G,ρ,es,good,hf,kk⟩:=q
 unfold zYf at hf
 obtain⟨ds,h1,rfl⟩:=Option.map_eq_some_iff.mp hf
 have hA:=yS h yB (by rw[hs];rfl) pos' pins s σ H (fun vs H'=>∃l us G',vs=[.ref l]/\Step G H G' H'/\SqL X.K G' l us/\Reps X.K G' ds us) I
   ⟨G0,H0,G,ρ,_,good,h1,fun l us H1 G1 s1 q1 q2=>⟨l,us,G1,rfl,s1,q1,q2⟩⟩
 refine Call_ (pE I hg hm (by rfl) (PyProof.Rows.callWith_type1 (rest:=[]) ?_ (by rw[hs3];rfl) (by rfl)))
 rw[hs3]
 refine Calls.spliced_cons (Call_ (pE I hg' hm' (by rfl) (PyProof.Rows.callWith_type1 (thn hA fun us s1 ⟨vs,H1,I1,r1,l,ws,G1,e1,st1,q1,q2⟩=>?_) (by rw[hs];rfl) (by rfl))))
 subst e1
 obtain⟨u,rfl,ru⟩:=pR r1
 cases ru
 obtain⟨its,rv,p1,hz⟩:=I1.list (st1.sub.seq q1)
 have hll:l < s1.heap.objs.size:=by obtain⟨o,e,_⟩:=p1.isList;exact Heap.lt_size e
 refine call_reversed_list p1.isList ?_
 refine Calls.spliced_nil ?_
 have hrev:(s1.heap.push (revObj l ((its.toArray.size:Int) - 1))).IsRevIter s1.heap.objs.size l ((its.toArray.size:Int) - 1):=⟨_,Heap.get?_push_size _ rfl,rfl,rfl⟩
 refine zZu (I.ok.hd hc) hrev (p1.isList.at fun o e=>Heap.get?_push_of_some _ e) (Nat.ne_of_lt hll) (by rw[List.size_toArray];exact rv.length ▸ hz) fun h' tk acc c' hk hS hacc=>?_
 have hsz:(s1.heap.push (revObj l ((its.toArray.size:Int) - 1))).objs.size=s1.heap.objs.size+1:=Heap.size_push ..
 have hacc':acc.toList=its.reverse:=zTl (acc:=acc.toList) (by simpa using hacc)
 have hT:s1.heap.objs.size<=(s1.heap.push (revObj l ((its.toArray.size:Int) - 1))).objs.size:=by rw[hsz];exact Nat.le_succ _
 have fr:H1 (s1.heap.push (revObj l ((its.toArray.size:Int) - 1))).objs.size=none:=I1.hok.fresh hT
 have I3:=I1.laid (t':=tk) (h':=h') (a:=(s1.heap.push (revObj l ((its.toArray.size:Int) - 1))).objs.size) (o:=.lst ws.reverse) (fun b o e=>hk b o (Nat.ne_of_lt (Heap.lt_size e)) (Heap.get?_push_of_some _ e)) hT
   (show ObjOk X.prog X.w _ h' _ (.lst ws.reverse) from⟨by rw[List.length_reverse];exact hz,acc.toList,c',by rw[hacc'];exact rv.reverse,hS⟩)
 exact⟨.ref _,_,I3,rfl,kk _ ws.reverse _ G1 (st1.trans (Step.own st1.sub fr)) (st1.hh.free fr) z0 (st1.sub.free fr) q2.reverse⟩
def zUr (_ j:Int):Bool:=decide (0 < j)&&decide (j.natAbs.log2 < 9000)
abbrev kZ:=eI zUr (fun i j=>i / j)
theorem zRV:OpR X (binaryOp .FloorDiv) (rI (fun _ j=>0 < j/\j.natAbs.log2 < 9000) fun i j=>.int (i / j)):=opI fun i j _ _ _ _ _ hc q=>by
 have h1:(0:Int) < j:=hc.1
 exact floordiv_int (by omega) (by rw[Int.fdiv_eq_ediv_of_nonneg i (by omega)];exact q) (.inl (PyProof.noPylong_of_log2 hc.2))
theorem zYg (ha:PF X a fa)(hb:PF X b fb):PF X (.BinOp a .FloorDiv b pos) (kZ fa fb):=zVb zRV (fun i j h=>by
 unfold zUr at h
 simp only[Bool.and_eq_true,decide_eq_true_eq] at h
 exact h) ha hb
def cQ (i j:Int):Bool:=decide (Builtin.Int.intBits i<=2097152)&&decide (Builtin.Int.intBits j<=2097152)
abbrev mJ:=eI cQ (fun i j=>i*j)
theorem gU (ha:PF X a fa)(hb:PF X b fb):PF X (.BinOp a .Mult b pos) (mJ fa fb):=zVb zQ2 (fun i j h=>by
 unfold cQ at h
 simp only[Bool.and_eq_true,decide_eq_true_eq] at h
 exact mulOk_of_bits h.1 h.2 (by decide)) ha hb
end
end L2
namespace L2
open PySem PySem.Spec PyProof.Rows
theorem eF:fillsNumberSlot (.type "tuple") "mul"=pure false :=
 PySem.fillsNumberSlot_seq (id:="tuple.__mul__") (r:=some (.builtin "tuple.__rmul__")) F.slot_tuple_mul.lookup (by decide +kernel) (by rw[typeLookup_type,builtinLookup_eq_fast];kernel_rfl) (by decide +kernel)
theorem cL:typeLookup (.type "tuple") "__rmul__"=pure (some (.builtin "tuple.__rmul__")):=by rw[typeLookup_type,builtinLookup_eq_fast];kernel_rfl
theorem zXC:seqRepeat? (.type "tuple")=pure (some (.builtin "tuple.__mul__")):=by
 unfold seqRepeat?
 rw[PySem.seqSlot_of (T:="tuple") (name:="__mul__") (id:="tuple.__mul__") F.slot_tuple_mul.lookup (by decide +kernel),PySem.seqSlot_of (T:="tuple") (name:="__rmul__") (id:="tuple.__rmul__") cL (by decide +kernel)]
 rfl
theorem zZV (a:Int)(t:Tok)(l:Addr)(items:Array Value)(n:Nat)(dd:Option Addr)(sl:Array (Option Value)) :
   Meets (Builtin.«int.__rmul__» ⟨[.int a t,.ref l],[]⟩) (fun _ R s=>s.heap.get? l=some { cls:=.type "tuple",dict:=dd,data:=.seq items n,slots:=sl }/\R (.ok (.ret Value.notImplemented)) s) :=
 .of_wp fun prog w A R s h=>by obtain⟨hp,g,d,tk,os⟩:=s;obtain⟨hl,h⟩:=h;wp_walk;exact⟨_,rfl,h⟩
open AutoSeq1 (wpAny_loadPart') in
theorem zVO (l:Addr)(items:Array Value)(n:Nat)(dd:Option Addr)(sl:Array (Option Value))(x:Int)(u:Tok)(c1:¬((decide (x < -2^63)||decide (x≥2^63))=true))(c2:¬((items.isEmpty||x==1)=true))(c3:¬((decide (x<=0)||items.isEmpty)=true))
   (c4:¬(items.size:Int)*x > (2^63 - 1) / 8) (c5:¬Builtin.Tuple.tupleTooMany ((items.size:Int)*x)=true) (hsz:(List.foldl (fun x1 x2=>x1++x2) #[] (List.replicate x.toNat items)).size<=sizeLine) :
   Meets (Builtin.«tuple.__mul__» ⟨[.ref l,.int x u],[]⟩) (fun _ R s=>s.heap.get? l=some { cls:=.type "tuple",dict:=dd,data:=.seq items n,slots:=sl }/\R (.ok (.ret (Value.ref s.heap.objs.size))) { s with heap:=s.heap.push { cls:=Value.type "tuple",data:=Data.seq (List.foldl (fun x1 x2=>x1++x2) #[] (List.replicate x.toNat items)) },toks:=s.toks }) :=
 .of_wp fun prog w A R s h=>by
   obtain⟨hp,g,d,tk,os⟩:=s;obtain⟨hl,h⟩:=h
   have f1:=AutoSeq1.idx_int
   have f2:=AutoSeq1.sub_tuple_tuple
   wp_walk using wpAny_loadPart' hl
   have ht:IsTup (Shared.heap ⟨hp,g,d,tk,os⟩) l items:=⟨_,hl,rfl,n,rfl⟩
   refine wpAny_ite_split (fun hab=>absurd hab c1) (fun _=>?_)
   refine wpAny_bind (tupleItemsOf_ ht ?_)
   refine wpAny_ite_split (fun hab=>absurd hab c2) (fun _=>?_)
   refine wpAny_ite_split (fun hab=>absurd hab c3) (fun _=>?_)
   refine wpAny_ite_split (fun hab=>absurd hab c4) (fun _=>?_)
   refine wpAny_ite_split (fun hab=>absurd hab c5) (fun _=>?_)
   exact wpAny_bind (m:=Builtin.Tuple.tupleExact _) (wpAny_newObj_type (wpAny_pure ⟨_,rfl,h⟩) hsz)
section
variable {X:Cx} {a b c e tg elt iter:Expr} {es:List Expr} {fa fb fc:Ef} {ga gb:Lf} {pos p:Pos}
def zNX (K:PySem.W.Frag):R2:=fun x y H Q=>∃l k xs,x = .ref l/\y = .int k/\SqT K H l xs/\xs≠[]/\2<=k/\k<=1000/\xs.length<=90/\∀p,H p=none->Q (.ref p) (upd H p (.tup (List.replicate k.toNat xs).flatten))
theorem zQp:OpR X (binaryOp .Mult) (zNX X.K):=by
 intro pins s σ H x y v u Q I rx ry h
 obtain⟨l,k,xs,rfl,rfl,hx,hne,h1,h2,hl,q⟩:=h
 cases rx
 obtain⟨t,rfl⟩:=ry
 obtain⟨its,r,ht,hz⟩:=I.tuple hx
 have hlen:=r.length
 have hne':its≠[]:=fun z=>hne (r.nil_iff.mp z)
 obtain⟨⟨cls,dd,data,sl⟩,ho,hc,n,hd⟩:=id ht
 simp only at hc hd
 subst hc hd
 have hnew:List.foldl (fun x1 x2=>x1++x2) #[] (List.replicate k.toNat its.toArray)=(List.replicate k.toNat its).flatten.toArray:=by
   have:=dQ its k.toNat []
   rw[List.nil_append] at this
   exact this
 have hsl:100000 < sizeLine:=wK (by decide)
 have hb:its.length*k.toNat<=90*1000:=Nat.mul_le_mul (by omega) (by omega)
 have hb2:(its.toArray.size:Int)*k=((its.length*k.toNat:Nat):Int):=by
   rw[List.size_toArray,Int.natCast_mul,Int.toNat_of_nonneg (by omega)]
 have hfl:(List.replicate k.toNat its).flatten.length=k.toNat*its.length:=by simp
 refine wpAny_binaryOp_repeat_ref (T:="tuple") (U:="int") (by decide) ⟨_,ho,rfl⟩ (fun s'=>typeIs_int s' k t) eF F.fills_int_mul F.slot_int_rmul zXC F.slot_int_index.lookup
   (call_meets F.slot_int_rmul (typeIs_int s k t) F.entry_int_rmul (F.args_int_rmul_2 _ _) (zZV k t l its.toArray n dd sl)
     ⟨ho,rfl,⟨_,ho,rfl⟩,call_meets F.slot_tuple_mul ⟨_,ho,rfl⟩ F.entry_tuple_mul (F.args_tuple_mul_2 _ _) (zVO l its.toArray n dd sl k t ?_ ?_ ?_ ?_ ?_ ?_) ⟨ho,?_⟩⟩)
 · simp;omega
 · simp[hne'];omega
 · simp[hne'];omega
 · rw[hb2]
   generalize its.length*k.toNat=m at hb
   omega
 · unfold Builtin.Tuple.tupleTooMany
   rw[hb2,decide_eq_true_eq]
   generalize its.length*k.toNat=m at hb
   omega
 · rw[hnew,List.size_toArray,hfl,Nat.mul_comm];omega
 · rw[hnew]
   have hw:(List.replicate k.toNat xs).flatten.length<=sizeLine:=by
     have:(List.replicate k.toNat xs).flatten.length=k.toNat*xs.length:=by simp
     rw[this,Nat.mul_comm,hlen];omega
   refine⟨.ref s.heap.objs.size,_,I.laid (t':=s.toks) (o:=.tup (List.replicate k.toNat xs).flatten) (fun b ob q=>Heap.get?_push_of_some _ q) (Nat.le_refl _) ?_,rfl,q _ (I.hok.fresh (Nat.le_refl _))⟩
   exact⟨hw,_,r.rep k.toNat,IsTup.new _ _⟩
def zWZ (fa fb:Ef):Ef:=fun ρ=>(fa ρ).bind fun x=>(fb ρ).bind fun y=>match x,y with | .tup xs,.int k=>if xs≠[]/\2<=k/\k<=1000/\xs.length<=90 then some (.tup (List.replicate k.toNat xs).flatten) else none | _,_=>none
theorem zQ5 (ha:PF X a fa)(hb:PF X b fb):PF X (.BinOp a .Mult b pos) (zWZ fa fb):=by
 refine PE.to (aZ zQp ha hb) ?_
 rintro σ H Q ⟨G0,H0,G,ρ,d,good,hf,k⟩
 unfold zWZ at hf
 obtain⟨x,h1,hf1⟩:=Option.bind_eq_some_iff.mp hf
 obtain⟨y,h2,hf2⟩:=Option.bind_eq_some_iff.mp hf1
 cases x with
 | tup xs =>
   cases y with
   | int m =>
     dsimp only at hf2
     split at hf2
     · rename_i hc
       obtain⟨c0,c1,c2,c3⟩:=hc
       cases hf2
       refine⟨G0,H0,G,ρ,_,good,h1,fun v H1 G1 s1 r1=>⟨G0,H0,G1,ρ,_,good.step s1,h2,fun u H2 G2 s2 r2=>?_⟩⟩
       obtain⟨q,vs,rfl,q1,q2⟩:=rep_tup.mp (r1.mono s2.gg)
       have e1:=q2.length
       refine⟨q,m,vs,rfl,rep_int.mp r2,s2.sub.tup q1,fun z=>c0 (List.length_eq_zero_iff.mp (by rw[e1,z];rfl)),c1,c2,by omega,fun p hp=>?_⟩
       have s4:=Step.laid (o:=.tup (List.replicate m.toNat vs).flatten) s2.sub hp
       exact k _ _ _ ((s1.trans s2).trans s4) (rep_tup.mpr ⟨p,_,rfl,.of z0,(bA q2 m.toNat).mono s4.gg⟩)
     · cases hf2
   | _=>cases hf2
 | _=>cases hf2
theorem zSK {α β:Type}{f:α->Option β}{g:α->β}:∀ {l:List α},(∀x∈l,f x=some (g x))->l.filterMap f=l.map g
 | [],_=>rfl
 | x::r,h=>by rw[List.filterMap_cons,h x List.mem_cons_self,List.map_cons,zSK fun y hy=>h y (List.mem_cons_of_mem _ hy)]
theorem zZ5 (its:List Value):slicePick its.toArray none none (some (-1))=its.reverse.toArray:=by
 unfold slicePick
 have hb:sliceBounds none none (some (-1)) its.toArray.size=((its.length:Int) - 1,-1,-1):=by simp[sliceBounds]
 rw[hb]
 congr 1
 have hr:sliceRange ((its.length:Int) - 1) (-1) (-1)=(List.range its.length).map fun k=>its.length - 1 - k:=by
   unfold sliceRange
   have hc:(if (-1:Int) > 0 then(if (its.length:Int) - 1 < -1 then(-1 - ((its.length:Int) - 1) + -1 - 1) / -1 else 0) else if (its.length:Int) - 1 > -1 then((its.length:Int) - 1 - -1 - -1 - 1) / (- -1) else 0).toNat=its.length:=by
     rw[if_neg (by decide)]
     by_cases h:its.length=0
     · rw[if_neg (by omega),h];rfl
     · rw[if_pos (by omega),show(- -1:Int)=1 from rfl,Int.ediv_one];omega
   simp only[hc]
   refine List.map_congr_left fun k hk=>?_
   have:=List.mem_range.mp hk
   omega
 rw[hr,List.filterMap_map]
 rw[zSK (g:=fun k=>its.reverse.getD k .none) fun k hk=>by
   have hk:=List.mem_range.mp hk
   show its.toArray[its.length - 1 - k]?=some (its.reverse.getD k .none)
   rw[List.getElem?_toArray,List.getD_eq_getElem?_getD,List.getElem?_reverse hk,List.getElem?_eq_getElem (by omega)]
   rfl]
 refine List.ext_getElem (by simp) fun i hi hi'=>?_
 rw[List.getElem_map,List.getElem_range,List.getD_eq_getElem?_getD,List.getElem?_eq_getElem hi']
 rfl
def zSk (g:Lf)(fs:Ef):Lf:=fun ρ=>(g ρ).bind fun ds=>(qM fs ρ).bind fun k=>if k=some (-1) then some ds.reverse else none
theorem zRj {st:Expr}{fs:Ef}{p2:Pos}(h:zYi X a ga)(hst:PF X st fs):PFr X (.Subscript a (.Slice none none (some st) p2) pos) (zSk ga fs):=by
 intro pins s σ H Q I q
 obtain⟨G0,H0,G,ρ,es,good,hf,kk⟩:=q
 unfold zSk at hf
 obtain⟨ds,h1,hf1⟩:=Option.bind_eq_some_iff.mp hf
 obtain⟨k,h2,hf2⟩:=Option.bind_eq_some_iff.mp hf1
 by_cases hk:k=some (-1)
 · rw[if_pos hk] at hf2
   subst hk
   cases hf2
   refine Subscript_ (thn (h pins s σ H (fun v H1=>∃l us G1,v = .ref l/\Step G H G1 H1/\SqL X.K G1 l us/\Reps X.K G1 ds us) I ⟨G0,H0,G,ρ,_,good,h1,fun l us H1 G1 s1 q1 q2=>⟨l,us,G1,rfl,s1,q1,q2⟩⟩) fun v s1 ⟨x,H1,I1,r1,l,us,G1,e1,st1,q1,q2⟩=>?_)
   subst e1
   cases r1
   refine wpAny_Slice ?_
   rw[evalPart_none]
   refine wpAny_pure ?_
   refine wpAny_pure (thn (zYM hst pins s1 σ H1 (fun o H3=>∃G3,Step G1 H1 G3 H3/\o=some (-1)) I1 ⟨G0,H0,G1,ρ,_,good.step st1,h2,fun H3 G3 s3=>⟨G3,s3,rfl⟩⟩) fun vk s3 ⟨k',H3,I3,pk,G3,st3,e3⟩=>?_)
   subst e3
   have I4:Inv X pins σ H3 { s3 with heap:=s3.heap.push { cls:=.type "slice",data:=.fields #[.none,.none,vk] } }:=I3.kept (t':=s3.toks) fun b ob q=>Heap.get?_push_of_some _ q
   have st13:=st1.trans st3
   obtain⟨its,rv,p1,hz⟩:=I4.list (st3.sub.seq (st3.gg.seq q1))
   have hlen:=rv.length
   show wpAny (model X.prog X.w) X.A (subscriptTail a (.Slice none none (some st) p2) (.ref l) (.ref s3.heap.objs.size)) (EP X pins σ Q) X.xe _
   refine tail_any (ops:=[.ref l,.ref s3.heap.objs.size]) (T:="list") p1.isList.typeIs slot_list_getitem.lookup ?_ (by with_unfolding_all rfl)
   refine wpAny_getItem_list_slice (lo:=none) (hi:=none) (st:=some (-1)) p1.isList ⟨_,Heap.get?_push_size _ rfl,rfl,rfl⟩ .none .none pk (by simp) ?_ (by rw[List.size_toArray];omega)
   rw[zZ5]
   have fr:H3 (s3.heap.push { cls:=.type "slice",data:=.fields #[.none,.none,vk] }).objs.size=none:=I4.hok.fresh (Nat.le_refl _)
   refine⟨.ref _,_,I4.laid (t':=s3.toks) (o:=.lst us.reverse) (fun b ob q=>Heap.get?_push_of_some _ q) (Nat.le_refl _) ?_,rfl,kk _ us.reverse _ G3 (st13.trans (Step.own st13.sub fr)) (st13.hh.free fr) z0 (st13.sub.free fr) (q2.mono st3.gg).reverse⟩
   exact⟨by rw[List.length_reverse];exact hz,_,0,rv.reverse,Heap.get?_push_size _ rfl⟩
 · rw[if_neg hk] at hf2;cases hf2
theorem tZ {st:Stmt}:PFS X st (fun _=>none):=by
 intro pins s σ H D I q
 obtain⟨G0,H0,G,ρ,o,good,hf,k⟩:=q
 cases hf
end
end L2
namespace Att
open PySem PySem.W PySem.Spec PyProof.Rows
theorem zWn {ns:List Int}(h:WData.layableAll [WData.list (ns.map WData.int)]=true):∀n∈ns,Builtin.Int.intBits n<=1048576:=by
 unfold WData.layableAll WData.layable at h
 rw[List.all_cons,List.all_nil,Bool.and_true,Bool.and_eq_true,decide_eq_true_eq] at h
 have hw:=h.2
 unfold WData.weight at hw
 have key:∀l:List Int,∀n∈l,Builtin.Int.intBits n<=WData.weightAll (l.map WData.int):=by
   intro l
   induction l with
   | nil=>intro n hn;cases hn
   | cons x r ih =>
     intro n hn
     rw[List.map_cons]
     unfold WData.weightAll
     rcases List.mem_cons.mp hn with e | e
     · subst e
       have:WData.weight (WData.int n)=Builtin.Int.intBits n:=by unfold WData.weight Builtin.Int.intBits;rfl
       omega
     · have:=ih n e
       omega
 intro n hn
 have:=key ns n hn
 have e:(2:Nat)^20=1048576:=by decide
 omega
end Att
namespace Att
open PySem PySem.W PySem.Calls PyProof.Rows
theorem attach_bits {l:OpenLaw}{n:Nat}{q:Program}{loose:List Str}{XP:(Str->Option Value)->Heap->Prop}{YP:World->Heap->Prop}{d:DefRec}
   (hn:l.most=some n) (hdf:d.params.defaults=[])
   (run:∀(w:World) (s₀ s₁:Shared) (mg mb:Str->Option Value) (fa:Addr) (o:Obj) (pm cd doc:Value) (a:Addr) (vs:List Value) (ns:List Int),
     Ground q loose [] XP w s₀ mg mb s₁.heap->YP w s₁.heap ->
     s₁.heap.get? fa=some o->o.data = .func (docDef d.name d.params d.body d.scope pm cd doc)->s₁.heap.CodeRec cd d.name->mg d.name=some (.ref fa) ->
     s₁.heap.get? a=some { cls:=.type "list",data:=.seq vs.toArray }->IntsAre vs ns->ns.length<=n->(∀n∈ns,Builtin.Int.intBits n<=1048576)->s₁.gens=#[] ->
     codeAny (model l.prog w) callerA (.call (.ref fa) ⟨[.ref a],[]⟩) (fun r s'=>r = .ok (.ret (.bool true))/\OldK s₁.heap s'.heap/\s'.os=s₁.os/\AllBare s'.gens) s₁) :
   WalkO q loose XP YP l.row.toRowW d [] (fun f vs=>PySem.call f vs):=by
 intro w s₀ s₁ mg mb G Y fa o pm cd doc dV kV ho hd hcd hD hmg hg args vals as hpre hlay hrd hwl hlo
 obtain rfl:dV = .none:=Dflts.none hD hdf
 obtain rfl:kV = .none:=Dflts.noKw hD
 obtain⟨a,vs,ns,rfl,rfl,hobj,hints,hlen⟩:=zTM hn hpre hwl
 refine enter_call (codeAny_mono (run w s₀ s₁ mg mb fa o pm cd doc a vs ns G Y ho (fd_plain hd) hcd hmg hobj hints hlen (zWn hlay) hg) fun r s' hq=>?_)
 obtain⟨rfl,h2,h3,h4⟩:=hq
 exact⟨.inl ⟨.bool true,.bool true,[],rfl,fun _=>rfl,.bool true,zTg l _,fun _=>⟨List.Pairwise.nil,fun _ hm=>(nomatch hm)⟩⟩,h2,h3,h4⟩
end Att
namespace L2
open PySem PySem.Spec PyProof.Rows
theorem zTU {l:PySem.W.OpenLaw}{n k:Nat}{q:Program}{loose:List Str}{XP:(Str->Option Value)->Heap->Prop}{YP:World->Heap->Prop}{d:DefRec}{K:Params->PySem.W.Frag}{CX:World->CXT}{sp:World->Sp}{x:Str}
   (hn:l.most=some n) (hn2:n<=sizeLine) (hdf:d.params.defaults=[]) (hr:Room k callerA)
   (hY:∀(w:World) (h:Heap),YP w h->(K w.params).In h)
   (F:∀(w:World) (mg:Str->Option Value) (fa:Addr) (h:Heap),(K w.params).In h->h.Ns mainGlobals mg->mg d.name=some (.ref fa) ->
     ∃fd:FuncData,(∀(s:Shared) (u:Value),BindsTo s fd ⟨[u],[]⟩ [(x,u)]) /\
       ∀base:Heap,(K w.params).In base->base.Ns mainGlobals mg->FnOk l.prog w (K w.params) mg base (CX w) k fa fd [x] (sp w))
   (hsp:∀(w:World) (H:Hp) (a:Addr) (ns:List Int),ns.length<=n->(∀n∈ns,Builtin.Int.intBits n<=1048576)->zOD H->SqL (K w.params) H a (ns.map V.int)->sp w [.ref a] H (fun v _=>v = .bl true) fun _ _ _=>False)
   (hCX:∀(w:World) (H:Hp) (s:Shared) (e:Value) (s':Shared),CX w [] H s (fun _ _ _=>False) e s'->False) :
   PySem.W.WalkO q loose XP YP l.row.toRowW d [] (fun f vs=>PySem.call f vs):=by
 refine Att.attach_bits hn hdf fun w s₀ s₁ mg mb fa o pm cd doc a vs ns G Y ho hd hcd hmg hobj hints hlen hbits hg=>?_
 have KX:=hY w _ Y
 obtain⟨fd,hb,hF⟩:=F w mg fa _ KX G.T.g hmg
 exact zRW KX G.T.g G.T.b G.T.builtins G.T.nolimit hg hobj hints (Nat.le_trans hlen hn2) hr hF hb (fun H hO hS=>hsp w H a ns hlen hbits hO hS) fun H e s'=>hCX w H s₁ e s'
end L2
namespace L2
open PySem PySem.Spec PyProof.Rows
section
variable {X:Cx} {a b c e:Expr} {fa fb fc:Ef} {pos:Pos}
theorem eZ {op op':CmpOp}{g g':D->D->Option Bool}(hc1:CmR X op g)(hc2:CmR X op' g')(ha:PF X a fa)(hb:PF X b fb)(hc:PF X c fc)(hm:lastMarks [op,op'] [b,c]=false:=by with_unfolding_all rfl):PFT X (.Compare a [op,op'] [b,c] pos) (eB3 g g' fa fb fc):=by
 obtain⟨r,ho,hr⟩:=hc1
 obtain⟨r',ho',hr'⟩:=hc2
 refine PT.to (zRE ho ho' ha hb hc hm) ?_
 rintro σ H Q ⟨G0,H0,G,ρ,b',good,hf2,k⟩
 unfold eB3 at hf2
 obtain⟨x,h1,hf2⟩:=Option.bind_eq_some_iff.mp hf2
 obtain⟨y,h2,hf2⟩:=Option.bind_eq_some_iff.mp hf2
 obtain⟨kk,h3,hf2⟩:=Option.bind_eq_some_iff.mp hf2
 refine⟨G0,H0,G,ρ,_,good,h1,fun u H1 G1 s1 r1=>⟨G0,H0,G1,ρ,_,good.step s1,h2,fun v H2 G2 s2 r2=>?_⟩⟩
 refine hr x y kk G2 H2 u v _ h3 s2.sub (r1.mono s2.gg) r2 fun H3 G3 s3=>⟨kk,rfl,?_⟩
 split at hf2
 · rename_i hk
   rw[if_pos hk]
   obtain⟨z,h4,hf3⟩:=Option.bind_eq_some_iff.mp hf2
   refine⟨G0,H0,G3,ρ,_,((good.step s1).step s2).step s3,h4,fun w' H4 G4 s4 r4=>?_⟩
   exact hr' y z b' G4 H4 v w' _ hf3 s4.sub ((r2.mono s3.gg).mono s4.gg) r4 fun H5 G5 s5=>⟨b',rfl,k _ G5 ((((s1.trans s2).trans s3).trans s4).trans s5)⟩
 · rename_i hk
   rw[if_neg hk];cases hf2
   exact⟨false,rfl,k _ G3 ((s1.trans s2).trans s3)⟩
end
end L2
namespace L2
open PySem PySem.Spec PyProof.Rows
section
variable {X:Cx} {e:Expr} {es:List Expr} {fa:Ef} {p q:List B->Bool} {pos:Pos} {k:Nat}
end
end L2
namespace L2
open PySem PySem.Spec PyProof.Rows
section
variable {X:Cx} {a b c e:Expr} {es:List Expr} {fa:Ef} {pos p:Pos}
end
end L2
namespace L2
open PySem PySem.Spec PyProof.Rows
section
variable {X:Cx} {E:XK} {e:Expr} {es:List Expr} {fa:Ef} {p q:List B->Bool} {pos:Pos} {x:List B->Option Str}
end
section
variable {P:Program} {w:World} {K:PySem.W.Frag} {mg:Str->Option Value} {base:Heap} {N:List Str} {qual:Str} {scope:Scope} {f:Addr} {cd:Value} {A:Around} {outer:List Env} {s₀:Shared} {H₀:Hp} {E:XK}
end
section
variable {X:Cx} {E:XK} {a e:Expr} {es:List Expr} {ga:Lf} {tt:Tf} {x xa xb:List B->Option Str} {pos p cpos:Pos} {st st':Stmt} {sts rest:List Stmt}
end
section
variable {P:Program} {w:World} {K:PySem.W.Frag} {mg:Str->Option Value} {base:Heap} {x qual:Str} {st:Stmt} {f:Addr} {fd:FuncData} {N ps:List Str} {k:Nat}
end
end L2
namespace L2
open PySem PySem.Spec PyProof.Rows
section
variable {X:Cx} {a b c e:Expr} {es:List Expr} {fa fb fc:Ef} {ga gb:Lf} {pos p:Pos}
theorem zTr:CallR X (.builtin "abs") (fun xs H Q=>∃i,xs=[.int i]/\Q (.int (if i < 0 then -i else i)) H):=by
 intro pins s σ H xs us Q I r h
 obtain⟨i,rfl,q⟩:=h
 obtain⟨u,rfl,t,rfl⟩:=pR r
 exact call_abs_int fun u tk=>⟨.int _,H,I.kept (fun _ _ e=>e),⟨u,rfl⟩,q⟩
def zPi (fa:Ef):Ef:=fun ρ=>(fa ρ).bind fun x=>match x with | .int i=>some (.int (if i < 0 then -i else i)) | _=>none
theorem zP7 (hg:Gl X "abs")(hm:X.mg "abs"=none)(h:PF X a fa)(hs:starEach [a] X.env=[(false,eval a X.env)]:=by rfl):PF X (.Call (.Name "abs" p) [a] [] pos) (zPi fa):=by
 refine PE.to (oS zTr hg hm (by rfl) (yS h yB (by rw[hs];rfl)) (by decide) (by decide) (by rw[hs];rfl) (by rfl)) ?_
 rintro σ H Q ⟨G0,H0,G,ρ,d,good,hf,k⟩
 unfold zPi at hf
 obtain⟨x,h1,hf⟩:=Option.bind_eq_some_iff.mp hf
 split at hf
 · rename_i i
   cases hf
   exact⟨G0,H0,G,ρ,_,good,h1,fun v H1 G1 s1 r1=>⟨i,by rw[rep_int.mp r1],k _ _ G1 s1 (rep_int.mpr rfl)⟩⟩
 · cases hf
theorem zUc (hc:X.calm=true):CallR X (.builtin "sum") (fun xs H Q=>∃(q:Addr) (ns:List Int),xs=[V.ref q]/\SqL X.K H q (ns.map V.int)/\Q (.int ns.sum) H):=by
 intro pins s σ H xs us Q I r h
 obtain⟨l,ns,rfl,hq,q⟩:=h
 obtain⟨u,rfl,ru⟩:=pR r
 cases ru
 obtain⟨its,rv,pl,hz⟩:=I.list hq
 obtain⟨ps,rfl,rfl⟩:=dY rv
 have hit:s.heap.IsList l (intItems ps.toArray):=by
   have:=pl.isList
   unfold intItems
   rw[List.map_toArray]
   exact this
 refine sum_intListG (I.ok.hd hc) hit fun h' tk t' hk=>⟨.int _,H,I.kept hk,⟨t',rfl⟩,?_⟩
 have e:preSum (numAt ps.toArray) ps.toArray.size=(ps.map (·.1)).sum:=by
   have:=preSum_eq ps.toArray ps.toArray.size
   rw[this,List.take_of_length_le (by simp)]
 rw[e]
 exact q
def zS7 (g:Lf):Ef:=fun ρ=>(g ρ).bind fun ds=>(zYA ds).bind fun ns=>some (.int ns.sum)
theorem zQ9 (hcm:X.calm=true)(hg:Gl X "sum")(hm:X.mg "sum"=none)(h:zYi X a ga)(hs:starEach [a] X.env=[(false,eval a X.env)]:=by rfl):PF X (.Call (.Name "sum" p) [a] [] pos) (zS7 ga):=by
 refine PE.to (oS (zUc hcm) hg hm (by rfl) (yS h yB (by rw[hs];rfl)) (by decide) (by decide) (by rw[hs];rfl) (by rfl)) ?_
 rintro σ H Q ⟨G0,H0,G,ρ,d,good,hf,k⟩
 unfold zS7 at hf
 obtain⟨ds,h1,hf⟩:=Option.bind_eq_some_iff.mp hf
 obtain⟨ns,h2,hf⟩:=Option.bind_eq_some_iff.mp hf
 cases hf
 refine⟨G0,H0,G,ρ,ds,good,h1,fun q vs H1 G1 s1 e1 r1=>?_⟩
 rw[jI h2 r1] at e1
 exact⟨q,ns,rfl,s1.sub.seq e1,k _ _ G1 s1 (rep_int.mpr rfl)⟩
end
end L2
namespace L2
open PySem PySem.Spec PyProof.Rows
inductive All2 {α β:Type}(R:α->β->Prop):List α->List β->Prop
 | nil:All2 R [] []
 | cons {a b l m}:R a b->All2 R l m->All2 R (a::l) (b::m)
theorem All2.length {α β:Type}{R:α->β->Prop}:∀ {l:List α} {m:List β},All2 R l m->l.length=m.length
 | _,_,.nil=>rfl
 | _,_,.cons _ t=>by rw[List.length_cons,List.length_cons,t.length]
theorem All2.imp {α β:Type}{R S:α->β->Prop}(h:∀a b,R a b->S a b):∀ {l:List α} {m:List β},All2 R l m->All2 S l m
 | _,_,.nil=>.nil
 | _,_,.cons q t=>.cons (h _ _ q) (t.imp h)
theorem All2.inj {α β:Type}{R:α->β->Prop}(h:∀a a' b,R a b->R a' b->a=a'):∀ {l l':List α} {m:List β},All2 R l m->All2 R l' m->l=l'
 | _,_,_,.nil,.nil=>rfl
 | _,_,_,.cons q t,.cons q' t'=>by rw[h _ _ _ q q',All2.inj h t t']
theorem All2.get {α β:Type}{R:α->β->Prop}:∀ {l:List α} {m:List β},All2 R l m->∀(j:Nat) (h1:j < l.length) (h2:j < m.length),R l[j] m[j]
 | _,_,.cons q t,0,_,_=>q
 | _,_,.cons q t,j+1,h1,h2=>t.get j (by simpa using h1) (by simpa using h2)
def jT:KT->Value->Prop
 | .int i,v=>(∃t,v = .int i t)∨∃b:Bool,v = .bool b/\i=(if b then 1 else 0)
 | .tup _,_=>False
def IsK (h:Heap):Nat->KT->Value->Prop
 | 0,k,v=>jT k v
 | n+1,.tup ks,v=>∃a items,v = .ref a/\h.IsTuple a items/\All2 (IsK h n) ks items.toList
 | _+1,.int i,v=>jT (.int i) v
theorem zZi {k k':KT}{v:Value}(h:jT k v)(h':jT k' v):k=k':=by
 cases k with
 | int i =>
   cases k' with
   | int j =>
     rcases h with⟨t,rfl⟩ | ⟨b,rfl,rfl⟩<;>rcases h' with⟨t',e⟩ | ⟨b',e,rfl⟩<;>cases e<;>rfl
   | tup l=>cases h'
 | tup l=>cases h
theorem dG {k:KT}{a:Addr}(h:jT k (.ref a)):False:=by
 cases k with
 | int i=>rcases h with⟨t,e⟩ | ⟨b,e,_⟩<;>cases e
 | tup l=>cases h
theorem zWm {h:Heap}{n:Nat}{k:KT}{v:Value}(hk:∀l,k ≠ .tup l):IsK h n k v↔jT k v:=by
 cases n with
 | zero=>exact Iff.rfl
 | succ n =>
   cases k with
   | tup l=>exact absurd rfl (hk l)
   | int i=>exact Iff.rfl
theorem cY {h:Heap}{a:Addr}{i j:Array Value}(x:h.IsTuple a i)(y:h.IsTuple a j):i=j:=by
 obtain⟨o,e,_,n,d⟩:=x
 obtain⟨o',e',_,n',d'⟩:=y
 rw[e] at e';cases e'
 rw[d] at d';cases d';rfl
theorem zYv {h:Heap}:∀(n:Nat) (k k':KT) (v:Value),IsK h n k v->IsK h n k' v->k=k'
 | 0,_,_,_,x,y=>zZi x y
 | n+1,.tup ks,k',v,x,y=>by
   obtain⟨a,items,rfl,t,al⟩:=x
   cases k' with
   | tup ls =>
     obtain⟨a',items',e,t',al'⟩:=y
     cases e
     have:=cY t t'
     subst this
     rw[al.inj (fun p q r=>zYv n p q r) al']
   | int i=>exact(dG (k:=.int i) y).elim
 | n+1,.int i,.tup ls,v,x,y=>by
   obtain⟨a',items',rfl,_⟩:=y
   exact(dG (k:=.int i) x).elim
 | n+1,.int i,.int j,v,x,y=>zZi (k:=.int i) (k':=.int j) x y
theorem zY5 {h h':Heap}(hk:∀a items,h.IsTuple a items->h'.IsTuple a items):∀(n:Nat) (k:KT) (v:Value),IsK h n k v->IsK h' n k v
 | 0,_,_,x=>x
 | n+1,.tup ks,v,x=>by
   obtain⟨a,items,rfl,t,al⟩:=x
   exact⟨a,items,rfl,hk _ _ t,al.imp fun p q r=>zY5 hk n p q r⟩
 | n+1,.int i,v,x=>x
def dK':Nat->KT->Nat
 | n+1,.tup ks=>(ks.map (dK' n)).sum+1
 | _,_=>1
section
variable {prog:Program} {w:World} {E:Value->Shared->Prop}
theorem zY4 {k:KT}{v:Value}{A:Around}{s:Shared}{Q:Int->Shared->Prop}(x:jT k v)(hu:A.units < cLine)(h:Q (zPO k) { s with toks:=s.toks+1 }):wpAny (model prog w) A (pyHash v) Q E s:=by
 cases k with
 | int i =>
   rcases x with⟨t,rfl⟩ | ⟨b,rfl,rfl⟩
   · exact wpAny_pyHash_int h
   · refine PySem.W.pyHash_slot (T:="bool") rfl F.slot_bool_hash entry_int_hash (args_int_hash _) (beq_builtin_none _) (.inr hu) ?_
     cases b
     · exact(show wpAny _ _ (do ret (←mkInt 0)) _ _ s from wpAny_bind (wpAny_mkInt (wpAny_pure ⟨_,_,rfl,h⟩)))
     · exact(show wpAny _ _ (do ret (←mkInt 1)) _ _ s from wpAny_bind (wpAny_mkInt (wpAny_pure ⟨_,_,rfl,h⟩)))
 | tup l=>cases x
theorem zSI:∀(n:Nat) (k:KT) (v:Value) (A:Around) (s:Shared) (Q:Int->Shared->Prop),IsK s.heap n k v->A.units+n < cLine->Q (hK n k) { s with toks:=s.toks+dK' n k }->wpAny (model prog w) A (pyHash v) Q E s
 | 0,k,v,A,s,Q,x,hu,h=>by
   cases k with
   | tup l=>cases x
   | int i=>exact zY4 (k:=.int i) x (by omega) h
 | n+1,.int i,v,A,s,Q,x,hu,h=>zY4 (k:=.int i) x (by omega) h
 | n+1,.tup ks,v,A,s,Q,x,hu,h=>by
   obtain⟨a,items,rfl,t,al⟩:=x
   obtain⟨o,ho,hc,m,hd⟩:=id t
   refine PySem.W.pyHash_slot (T:="tuple") ⟨_,ho,hc⟩ F.slot_tuple_hash F.entry_tuple_hash (F.args_tuple_hash_1 _) (beq_builtin_none _) (.inr (by omega)) ?_
   show wpAny _ _ (Builtin.Tuple.tupleItemsOf (.ref a) >>= _) _ _ s
   refine wpAny_bind (wpAny_tupleItemsOf ho hd ?_)
   refine wpAny_bind ?_
   rw[←Array.forIn_toList]
   refine wpAny_forIn_list _
     (fun rest (b:Array Int) s'=>∃done left,ks=done++left/\All2 (IsK s.heap n) left rest/\b.toList=done.map (hK n)/\s'={ s with toks:=s.toks+(done.map (dK' n)).sum })
     _ ?_ ?_ _ _ ⟨[],ks,rfl,al,rfl,rfl⟩
   · rintro x rest b s' ⟨done,left,rfl,hl,hb,rfl⟩
     cases hl with
     | @cons k _ ks' _ h1 hl' =>
       refine wpAny_bind (zSI n k x A.in1 _ _ h1 (by show A.units+1+n < cLine;omega) ?_)
       first
         | exact wpAny_pure ⟨done++[k],ks',by simp,hl',by simp[hb],by simp[Nat.add_assoc]⟩
         | exact wpAny_bind (wpAny_pure (wpAny_pure ⟨done++[k],ks',by simp,hl',by simp[hb],by simp[Nat.add_assoc]⟩))
   · rintro b s' ⟨done,left,rfl,hl,hb,rfl⟩
     cases hl
     rw[List.append_nil] at h
     show wpAny _ _ (retInt (Builtin.Tuple.tupleHashOf b.toList)) _ _ _
     rw[hb]
     exact wpAny_bind (wpAny_mkInt (wpAny_pure ⟨_,_,rfl,by simpa [hK,dK',Nat.add_assoc] using h⟩))
theorem kK {a b:KT}{p:Bool}(h:p=true↔a=b):p=decide (a=b):=by
 by_cases e:a=b
 · rw[decide_eq_true e];exact h.mpr e
 · rw[decide_eq_false e];cases p with
   | false=>rfl
   | true=>exact absurd (h.mp rfl) e
theorem zUJ {k k':KT}{v v':Value}{A:Around}{s:Shared}(x:jT k v)(y:jT k' v'):SeqAt.EqAt A s v v' (decide (k=k')):=by
 cases k with
 | int i =>
   cases k' with
   | int j =>
     rcases x with⟨t,rfl⟩ | ⟨b,rfl,rfl⟩<;>rcases y with⟨t',rfl⟩ | ⟨b',rfl,rfl⟩
     · rw[←kK (p:=i==j) (by simp)];exact SeqAt.EqAt.int_int _ _ _ _
     · rw[←kK (p:=i==(if b' then 1 else 0)) (by simp)];exact SeqAt.EqAt.int_bool _ _ _
     · rw[←kK (p:=(if b then 1 else 0)==j) (by simp)];exact SeqAt.EqAt.bool_int _ _ _
     · rw[←kK (p:=b==b') (by cases b<;>cases b'<;>simp)];exact SeqAt.EqAt.bool_bool _ _
   | tup l=>cases y
 | tup l=>cases x
theorem dM {k:KT}{v:Value}{A:Around}{s:Shared}{a:Addr}{items:Array Value}(t:s.heap.IsTuple a items)(hu:A.units < cLine)(y:jT k v):SeqAt.EqAt A s (.ref a) v false/\SeqAt.EqAt A s v (.ref a) false:=by
 cases k with
 | int i =>
   rcases y with⟨t',rfl⟩ | ⟨b',rfl,_⟩
   · exact⟨SeqAt.EqAt.tuple_int _ _ t hu,SeqAt.EqAt.int_tuple _ _ t hu⟩
   · exact⟨SeqAt.EqAt.tuple_bool _ t hu,SeqAt.EqAt.bool_tuple _ t hu⟩
 | tup l=>cases y
theorem zRe {ks ls:List KT}:((List.range (min ks.length ls.length)).all (fun j=>decide (ks[j]?=ls[j]?))&&ks.length==ls.length)=decide (KT.tup ks=KT.tup ls):=by
 refine kK ?_
 rw[Bool.and_eq_true,List.all_eq_true,beq_iff_eq]
 constructor
 · rintro⟨h1,h2⟩
   congr 1
   refine List.ext_getElem? fun j=>?_
   by_cases hj:j < min ks.length ls.length
   · exact of_decide_eq_true (h1 j (List.mem_range.mpr hj))
   · rw[List.getElem?_eq_none (by omega),List.getElem?_eq_none (by omega)]
 · intro e
   cases e
   exact⟨fun j _=>decide_eq_true rfl,rfl⟩
theorem zNR:∀(n:Nat) (k k':KT) (v v':Value) (A:Around) (s:Shared),IsK s.heap n k v->IsK s.heap n k' v'->A.units+n < cLine->SeqAt.EqAt A s v v' (decide (k=k'))
 | 0,k,k',v,v',A,s,x,y,hu=>zUJ x y
 | n+1,.tup ks,.tup ls,v,v',A,s,x,y,hu=>by
   obtain⟨a,items,rfl,t,al⟩:=x
   obtain⟨b,jtems,rfl,t',al'⟩:=y
   by_cases hab:a=b
   · subst hab
     have e:=cY t t'
     subst e
     have e:=al.inj (fun p q r=>zYv n p q r) al'
     subst e
     rw[decide_eq_true rfl]
     exact SeqAt.EqAt.same _
   · refine .of_refs hab ?_
     have l1:=al.length
     have l2:=al'.length
     have R:=SeqAt.RcAt.tuples (A:=A) (e:=fun j=>decide (ks[j]?=ls[j]?)) t t' (by omega) fun j h1 h2=>by
       have b1:j < ks.length:=by rw[l1];simpa using h1
       have b2:j < ls.length:=by rw[l2];simpa using h2
       have q:=zNR n ks[j] ls[j] items[j] jtems[j] A.in1 s (al.get j b1 (by simpa using h1)) (al'.get j b2 (by simpa using h2)) (by show A.units+1+n < cLine;omega)
       have e:decide (ks[j]?=ls[j]?)=decide (ks[j]=ls[j]):=by
         refine kK ?_
         rw[decide_eq_true_iff,List.getElem?_eq_getElem b1,List.getElem?_eq_getElem b2,Option.some_inj]
       rw[e]
       exact q
     have e:=zRe (ks:=ks) (ls:=ls)
     rw[l1,l2,Array.length_toList,Array.length_toList] at e
     rw[←e]
     exact R
 | n+1,.tup ks,.int i,v,v',A,s,x,y,hu=>by
   obtain⟨a,items,rfl,t,al⟩:=x
   rw[←kK (p:=false) (by simp)]
   exact(dM (k:=.int i) t (by omega) y).1
 | n+1,.int i,.tup ks,v,v',A,s,x,y,hu=>by
   obtain⟨a,items,rfl,t,al⟩:=y
   rw[←kK (p:=false) (by simp)]
   exact(dM (k:=.int i) t (by omega) x).2
 | n+1,.int i,.int j,v,v',A,s,x,y,hu=>zUJ (k:=.int i) (k':=.int j) x y
theorem aX {k:KT}{v:Value}(m:Nat)(x:jT k v):eqIsQuiet m v=pure true:=by
 refine eqIsQuiet_byValue m ?_
 cases k with
 | int i=>rcases x with⟨t,rfl⟩ | ⟨b,rfl,_⟩<;>rfl
 | tup l=>cases x
theorem zUy:∀(n:Nat) (k:KT) (v:Value) (m:Nat) (A:Around) (s:Shared) (Q:Bool->Shared->Prop),n<=m->IsK s.heap n k v->Q true s->wpAny (model prog w) A (eqIsQuiet m v) Q E s
 | 0,k,v,m,A,s,Q,hm,x,h=>by rw[aX m x];exact wpAny_pure h
 | n+1,.int i,v,m,A,s,Q,hm,x,h=>by rw[aX (k:=.int i) m x];exact wpAny_pure h
 | n+1,.tup ks,v,0,A,s,Q,hm,x,h=>absurd hm (by omega)
 | n+1,.tup ks,v,m+1,A,s,Q,hm,x,h=>by
   obtain⟨a,items,rfl,t,al⟩:=x
   obtain⟨o,ho,hc,m',hd⟩:=id t
   have hT:s.TypeIs (.ref a) "tuple":=⟨_,ho,hc⟩
   unfold eqIsQuiet
   refine wpAny_bind (wpAny_specialOf hT F.slot_tuple_eq.lookup ?_)
   show wpAny _ _ (isInstance (.ref a) (.type "tuple") >>= _) _ _ s
   refine wpAny_bind (wpAny_isInstance hT isSubtype_tuple_tuple ?_)
   simp only[Bool.not_true,Bool.false_eq_true,if_false]
   refine wpAny_bind (wpAny_seqItems ho hd ?_)
   refine wpAny_bind ?_
   show wpAny _ _ (forIn items _ _) _ _ s
   rw[←Array.forIn_toList]
   refine wpAny_forIn_list _ (fun rest r s'=>r.1=none/\s'=s/\∃left,All2 (IsK s.heap n) left rest) _ ?_ ?_ _ _ ⟨rfl,rfl,ks,al⟩
   · rintro v rest r s' ⟨hr,rfl,left,hall⟩
     cases hall with
     | cons h1 h2 =>
       refine wpAny_bind (zUy n _ v m A s' _ (by omega) h1 ?_)
       simp only[Bool.not_true,Bool.false_eq_true,if_false]
       exact wpAny_pure ⟨rfl,rfl,_,h2⟩
   · rintro⟨r1,r2⟩ s' ⟨hr,rfl,_⟩
     simp only at hr
     subst hr
     exact wpAny_pure h
end
theorem zZr {h h':Heap}{d:Addr}{o:Obj}{es ep}(ho:h.get? d=some o)(hd:o.data = .dict es ep)(hs:Heap.SameBut d h h')(a:Addr)(items:Array Value)(t:h.IsTuple a items):h'.IsTuple a items:=by
 obtain⟨o',ho',hc,n,hd'⟩:=t
 have hne:a≠d:=by
   rintro rfl
   rw[ho] at ho';cases ho'
   rw[hd] at hd';cases hd'
 exact⟨o',(hs.2 a hne).trans ho',hc,n,hd'⟩
def fQ (prog:Program)(w:World):HeapKind prog w KT where
 is:=fun h k a=>IsK h 8 k (.ref a)
 hash:=hK 8
 draws:=dK' 8
 room:=fun A=>A.units+8 < cLine
 inj:=fun hx hy=>zYv 8 _ _ _ hx hy
 keeps:=fun x ho hd hs=>zY5 (zZr ho hd hs) 8 _ _ x
 pyHash:=fun hu hk h=>zSI 8 _ _ _ _ _ hk hu h
 eqBool:=fun hu hx hy h=>zNR 8 _ _ _ _ _ _ hx hy hu _ _ _ _ h
 quiet:=fun hk h=>zUy 8 _ _ 8 _ _ _ (by omega) hk h
end L2
namespace L2
open PySem PySem.Spec PyProof.Rows
section
variable {X:Cx} {pins:List (Addr×Obj)} {σ:St} {G H:Hp} {s:Shared}
theorem zW0 {ds:List D}{ks:List KT}{n:Nat}(f:∀(d:D) (v:V) (u:Value) (k:KT),ktD n d=some k->Rep X.K G d v->RelV v u->IsK s.heap n k u):∀ {ds:List D} {ks:List KT} {vs:List V} {us:List Value},zVf (ktD n) ds=some ks->Reps X.K G ds vs->Vals vs us->All2 (IsK s.heap n) ks us
 | [],ks,vs,us,h,r,w=>by
   rw[reps_nil] at r;subst r
   cases h;cases w;exact .nil
 | d::ds,ks,vs,us,h,r,w=>by
   obtain⟨v,vr,rfl,r1,r2⟩:=reps_cons.mp r
   unfold zVf at h
   obtain⟨k,h1,h⟩:=Option.bind_eq_some_iff.mp h
   obtain⟨ks',h2,rfl⟩:=Option.map_eq_some_iff.mp h
   cases w with
   | cons w1 w2=>exact .cons (f d v _ k h1 r1 w1) (zW0 (ds:=ds) (ks:=ks') f h2 r2 w2)
theorem zYn (I:Inv X pins σ H s)(sub:Same G H):∀(n:Nat) (d:D) (v:V) (u:Value) (k:KT),ktD n d=some k->Rep X.K G d v->RelV v u->IsK s.heap n k u:=by
 have leaf:∀(n:Nat) (d:D) (v:V) (u:Value) (k:KT),(∀ds,d ≠ .tup ds)->ktD n d=some k->Rep X.K G d v->RelV v u->IsK s.heap n k u:=fun n d v u k hd h r ru=>by
   cases d with
   | int i =>
     have e:k = .int i:=by cases n<;>(cases h;rfl)
     subst e
     rw[rep_int] at r;subst r
     obtain⟨t,rfl⟩:=ru
     exact(zWm (fun l z=>by cases z)).mpr (.inl ⟨t,rfl⟩)
   | bl b =>
     have e:k = .int (if b then 1 else 0):=by cases n<;>(cases h;rfl)
     subst e
     rw[rep_bl] at r;subst r
     cases ru
     exact(zWm (fun l z=>by cases z)).mpr (.inr ⟨b,rfl,rfl⟩)
   | tup ds=>exact absurd rfl (hd ds)
   | _=>cases n<;>cases h
 intro n
 induction n with
 | zero =>
   intro d v u k h r ru
   cases d with
   | tup ds=>cases h
   | _=>exact leaf 0 _ v u k (fun _ z=>by cases z) h r ru
 | succ n ih =>
   intro d v u k h r ru
   cases d with
   | tup ds =>
     unfold ktD at h
     obtain⟨ks,h1,rfl⟩:=Option.map_eq_some_iff.mp h
     obtain⟨p,vs,rfl,q1,q2⟩:=rep_tup.mp r
     cases ru
     obtain⟨its,w1,t1,_⟩:=I.tuple (sub.tup q1)
     exact⟨p,its.toArray,rfl,t1,zW0 (ds:=ds) (ks:=ks) ih h1 q2 w1⟩
   | _=>exact leaf (n+1) _ v u k (fun _ z=>by cases z) h r ru
def sO:List KT->List Addr->List Value->List (KT×Addr×Value)
 | k::ks,a::as,u::us=>(k,a,u)::sO ks as us
 | _,_,_=>[]
theorem zZA (P:Program)(w:World):∀(ks:List KT) (as:List Addr) (us:List Value),cU ks as us=(sO ks as us).map (entryOfKey (fQ P w))
 | k::ks,a::as,u::us=>by rw[cU,sO,List.map_cons,zZA P w ks as us];rfl
 | [],_,_=>by simp[cU,sO]
 | _::_,[],_=>by simp[cU,sO]
 | _::_,_::_,[]=>by simp[cU,sO]
theorem jX:∀ {ks:List KT} {as:List Addr} {us:List Value},ks.length=as.length->ks.length=us.length->(sO ks as us).map (·.1)=ks
 | [],[],[],_,_=>rfl
 | k::ks,a::as,u::us,h1,h2=>by rw[sO,List.map_cons,jX (by simpa using h1) (by simpa using h2)]
 | [],_::_,_,h,_=>by simp at h
 | [],[],_::_,_,h=>by simp at h
 | _::_,[],_,h,_=>by simp at h
 | _::_,_::_,[],_,h=>by simp at h
theorem zQH {ks:List KT}{as:List Addr}{us:List Value}(h1:ks.length=as.length)(h2:ks.length=us.length):(sO ks as us).length=ks.length:=by
 have:=congrArg List.length (jX h1 h2)
 rwa[List.length_map] at this
theorem zVU:∀ {ks:List KT} {as:List Addr} {us:List Value} (k:KT) (a:Addr) (u:Value),ks.length=as.length->ks.length=us.length->sO ks as us++[(k,a,u)]=sO (ks++[k]) (as++[a]) (us++[u])
 | [],[],[],k,a,u,_,_=>rfl
 | k'::ks,a'::as,u'::us,k,a,u,h1,h2=>by
   show(k',a',u')::(sO ks as us++[(k,a,u)])=_
   rw[zVU k a u (by simpa using h1) (by simpa using h2)]
   rfl
 | [],_::_,_,_,_,_,h,_=>by simp at h
 | [],[],_::_,_,_,_,_,h=>by simp at h
 | _::_,[],_,_,_,_,h,_=>by simp at h
 | _::_,_::_,[],_,_,_,_,h=>by simp at h
theorem ODs.lens {K:PySem.W.Frag}:∀ {kvs ks as vs},ODs K G kvs ks as vs->ks.length=as.length/\ks.length=vs.length/\kvs.length=ks.length
 | _,_,_,_,.nil=>⟨rfl,rfl,rfl⟩
 | _,_,_,_,.cons _ _ _ h=>by
   obtain⟨a,b,c⟩:=ODs.lens h
   simp only[List.length_cons]
   omega
theorem ODs.keys {K:PySem.W.Frag}:∀ {kvs ks as vs},ODs K G kvs ks as vs->(kvs.map fun p=>ktD 8 p.1)=ks.map some
 | _,_,_,_,.nil=>rfl
 | _,_,_,_,.cons h1 _ _ h=>by rw[List.map_cons,List.map_cons,h1,ODs.keys h]
theorem ODs.snoc {K:PySem.W.Frag}{d e:D}{k:KT}{a:Addr}{v:V}(h1:ktD 8 d=some k)(h2:Rep K G d (.ref a))(h3:Rep K G e v):∀ {kvs ks as vs},ODs K G kvs ks as vs->ODs K G (kvs++[(d,e)]) (ks++[k]) (as++[a]) (vs++[v])
 | _,_,_,_,.nil=>.cons h1 h2 h3 .nil
 | _,_,_,_,.cons a1 a2 a3 h=>.cons a1 a2 a3 (ODs.snoc h1 h2 h3 h)
theorem zSh (I:Inv X pins σ H s)(sub:Same G H):∀ {kvs ks as vs} {us:List Value},ODs X.K G kvs ks as vs->Vals vs us->∀x∈sO ks as us,IsK s.heap 8 x.1 (.ref x.2.1)
 | _,_,_,_,_,.nil,_=>fun x hx=>by simp[sO] at hx
 | _,_,_,_,_,.cons h1 h2 h3 h,w=>by
   cases w with
   | cons w1 w2 =>
     intro x hx
     rcases List.mem_cons.mp hx with rfl | hx
     · exact zYn I sub 8 _ _ _ _ h1 h2 rfl
     · exact zSh I sub h w2 x hx
theorem zUK (I:Inv X pins σ H s)(sub:Same G H){a:Addr}{kvs ks as vs}(hp:H a=some (.ext (mR a ks as vs)))(od:ODs X.K G kvs ks as vs)(nd:ks.Nodup):∃us,Vals vs us/\ks.length=us.length/\s.heap.DictOfH (fQ X.prog X.w) a (sO ks as us):=by
 obtain⟨⟨us,w,o,es,ep,h1,h2,h3,h4⟩,_⟩:=(show ObjOk X.prog X.w H s.heap a (.ext (mR a ks as vs)) from I.hok a _ hp)
 obtain⟨l1,l2,_⟩:=od.lens
 have l3:ks.length=us.length:=l2.trans w.length
 refine⟨us,w,l3,o,es,ep,h1,h2,h3,?_,zSh I sub od w,?_⟩
 · rw[h4];exact zZA X.prog X.w ks as us
 · rw[jX l1 l3];exact nd
theorem zUC {P:Program}{w:World}{H':Hp}{h':Heap}{a:Addr}{ks as}{vs:List V}{us:List Value}(hv:Vals vs us){o es ep}(h1:h'.get? a=some o)(h2:o.ExactDict)(h3:o.data = .dict es ep)(h4:es.toList=cU ks as us):ObjOk P w H' h' a (.ext (mR a ks as vs)) :=
 ⟨⟨us,hv,o,es,ep,h1,h2,h3,h4⟩,⟨o,h1⟩,fun g1 g2 ⟨us,hv,o,es,ep,e1,e2,e3,e4⟩ k=>⟨us,hv,o,es,ep,k o e1,e2,e3,e4⟩⟩
theorem zZP {ks:List KT}{as:List Addr}{us:List Value}(h1:ks.length=as.length)(h2:ks.length=us.length)(k:KT):(atKey (sO ks as us) k).isSome=decide (k∈ks):=by
 unfold atKey
 rw[Option.isSome_map]
 by_cases hm:k∈ks
 · rw[decide_eq_true hm,List.find?_isSome]
   rw[←jX h1 h2] at hm
   obtain⟨x,hx,e⟩:=List.mem_map.mp hm
   exact⟨x,hx,decide_eq_true e⟩
 · rw[decide_eq_false hm]
   cases hf:List.find? (fun x:KT×Addr×Value=>decide (x.1=k)) (sO ks as us) with
   | none=>rfl
   | some x =>
     refine absurd ?_ hm
     rw[←jX h1 h2]
     have hx:=List.find?_some hf
     exact List.mem_map.mpr ⟨x,List.mem_of_find?_eq_some hf,of_decide_eq_true hx⟩
end
theorem Paired.upd {α β:Type}{F F':α->β->Prop}{b':β}:∀ {l:List α} {r:List β} (i:Nat),Paired F l r->(∀(j:Nat) (a:α) (b:β),j≠i->l[j]?=some a->r[j]?=some b->F a b->F' a b)->(∀a,l[i]?=some a->F' a b')->Paired F' l (r.set i b')
 | _,_,_,.nil,_,_=>.nil
 | _,_,0,.cons q t,h1,h2=>by
   rw[List.set_cons_zero]
   refine .cons (h2 _ rfl) ?_
   have tl:∀ {l:List α} {r:List β} (n:Nat),Paired F l r->(∀(j:Nat) (a:α) (b:β),l[j]?=some a->r[j]?=some b->F a b->F' a b)->Paired F' l r:=by
     intro l r n p
     induction p with
     | nil=>intro _;exact .nil
     | cons q t ih=>intro h;exact .cons (h 0 _ _ rfl rfl q) (ih fun j a b e1 e2=>h (j+1) a b (by simpa using e1) (by simpa using e2))
   exact tl 0 t fun j a b e1 e2=>h1 (j+1) a b (by omega) (by simpa using e1) (by simpa using e2)
 | _,_,i+1,.cons q t,h1,h2=>by
   rw[List.set_cons_succ]
   exact .cons (h1 0 _ _ (by omega) rfl rfl q) (Paired.upd i t (fun j a b hj e1 e2=>h1 (j+1) a b (by omega) (by simpa using e1) (by simpa using e2)) fun a e=>h2 a (by simpa using e))
def zNI:B->Bool | .od _=>true | _=>false
def zU5 (i:Nat)(ρ:List B):Bool:=(List.range ρ.length).all fun j=>j==i || !(zNI (ρ.getD j .no))
theorem zSv {i j:Nat}{ρ:List B}{b:B}(h:zU5 i ρ=true)(hj:j≠i)(e:ρ[j]?=some b):zNI b=false:=by
 unfold zU5 at h
 have hl:=(List.getElem?_eq_some_iff.mp e).1
 have:=List.all_eq_true.mp h j (List.mem_range.mpr hl)
 rw[List.getD_eq_getElem?_getD,e] at this
 simpa [hj] using this
section
variable {K:PySem.W.Frag} {G0 H0 G H:Hp} {σ:St} {ρ:List B}
theorem Good.dict {i:Nat}{kvs:List (D×D)}(g:Good K G0 H0 G H σ ρ)(h:ρ[i]?=some (.od kvs)):∃a ks as vs,σ[i]?=some (some (.ref a))/\H a=some (.ext (mR a ks as vs))/\G a=none/\H0 a=none/\ODs K G kvs ks as vs/\ks.Nodup/\(a==sysModules)=false:=by
 obtain⟨o,e,r⟩:=Paired.get g.vals h
 cases r with
 | od h1 h2 h3 h4 h5 h6=>exact⟨_,_,_,_,e,h1,h2,h3,h4,h5,h6⟩
theorem jJ {i j:Nat}{kvs:List (D×D)}{ds:List D}(h:(ρ.set i (.od kvs))[j]?=some (.ow ds)):j≠i/\ρ[j]?=some (.ow ds):=by
 by_cases e:j=i
 · subst e
   rw[List.getElem?_set] at h
   split at h
   · split at h<;>cases h
   · rename_i z;exact absurd rfl z
 · rw[List.getElem?_set_ne (Ne.symm e)] at h
   exact⟨e,h⟩
theorem Good.setD {a:Addr}{ks as vs}{kvs:List (D×D)}(g:Good K G0 H0 G H σ ρ)(i:Nat)(ha:H a=some (.ext (mR a ks as vs)))(ga:G a=none)(h0:H0 a=none)(od:ODs K G kvs ks as vs)(nd:ks.Nodup)(hm:(a==sysModules)=false):Good K G0 H0 G H (σ.set i (some (.ref a))) (ρ.set i (.od kvs)):=by
 refine⟨g.st,Paired.set (.od ha ga h0 od nd hm) i g.vals,fun j k b d1 d2 h1 h2 h3 h4=>?_⟩
 obtain⟨n1,e1⟩:=jJ h1
 obtain⟨n2,e2⟩:=jJ h2
 rw[List.getElem?_set_ne (Ne.symm n1)] at h3
 rw[List.getElem?_set_ne (Ne.symm n2)] at h4
 exact g.apart j k b d1 d2 e1 e2 h3 h4
theorem Good.wrD {a:Addr}{ks as vs}{kvs kvs':List (D×D)}{i:Nat}(g:Good K G0 H0 G H σ ρ)(ho:zU5 i ρ=true)(hi:ρ[i]?=some (.od kvs))(hs:σ[i]?=some (some (.ref a)))(od:ODs K G kvs' ks as vs)(nd:ks.Nodup) :
   Good K G0 H0 G (upd H a (.ext (mR a ks as vs))) σ (ρ.set i (.od kvs')):=by
 obtain⟨a',ks0,as0,vs0,h1,h2,h3,h4,_,_,hm⟩:=g.dict hi
 rw[hs] at h1;cases h1
 refine⟨⟨fun b o e=>?_,g.st.gg,fun b o e=>?_,g.st.new⟩,?_,fun j k b d1 d2 e1 e2 e3 e4=>?_⟩
 · rw[yP (yE e h4)];exact g.st.hh b o e
 · rw[yP (yE e h3)];exact g.st.sub b o e
 · refine Paired.upd i g.vals (fun j x b hj e1 e2 q=>?_) fun x e=>?_
   · cases q with
     | no=>exact .no
     | fz r=>exact .fz r
     | @ow c us ds c1 c2 c3 c4 =>
       have:c≠a:=fun z=>by rw[z,h2] at c1;cases c1
       exact .ow (by rw[yP this];exact c1) c2 c3 c4
     | od _ _ _ _ _ _=>exact absurd (zSv ho hj e2) (by intro z;cases z)
   · rw[hs] at e;cases e
     exact .od z0 h3 h4 od nd hm
 · obtain⟨n1,f1⟩:=jJ e1
   obtain⟨n2,f2⟩:=jJ e2
   exact g.apart j k b d1 d2 f1 f2 e3 e4
end
section
variable {X:Cx} {a b c e:Expr} {fa fb fc:Ef} {pos p p1 p2:Pos} {k:Nat}
theorem Inv.big' {pins:List (Addr×Obj)}{σ:St}{H:Hp}{s:Shared}(I:Inv X pins σ H s):sysModules < s.heap.objs.size:=by
 have h:mainGlobals < s.heap.objs.size:=(I.mod.glob.keeps I.bk).lt
 exact Nat.lt_trans (by decide) h
def zOy:TE:=fun _ H Q=>∀p,H p=none->(p==sysModules)=false->Q (.ref p) (upd H p (.ext (mR p [] [] [])))
theorem zQP:PE X (.Dict [] [] pos) zOy:=fun pins s σ H Q I h =>
 wpAny_Dict_empty ⟨.ref s.heap.objs.size,_,I.laid (a:=s.heap.objs.size) (o:=.ext (mR s.heap.objs.size [] [] [])) (t':=s.toks) (fun _ _ q=>Heap.get?_push_of_some _ q) (Nat.le_refl _) (zUC .nil (Heap.get?_push_size _ rfl) ⟨rfl,rfl,rfl⟩ rfl rfl),rfl,
   h _ (I.hok.fresh (Nat.le_refl _)) (beq_eq_false_iff_ne.mpr (Ne.symm (Nat.ne_of_lt I.big')))⟩
def zWY (i:Nat):Sf:=fun ρ=>some (.nx (ρ.set i (.od [])))
theorem zUF (i:Nat){x:Str}{pos':Pos}(hN:X.N.Nodup)(hi:X.N[i]?=some x:=by rfl)(hx:Loc X.env.scope x:=by first | exact .inl rfl | exact .inr rfl)(hs:swapsWith (.Dict [] [] p) (some (.Name x pos')) pos.line X.env=pure false:=by rfl)
   (hf:X.fn x=true∨X.env.scope.names.lookup x=some .local:=by first | exact .inl rfl | exact .inr rfl):PFS X (.Assign [.Name x pos'] (.Dict [] [] p) pos) (zWY i):=by
 refine PS.to (zXH hN hi hx zQP hs hf) ?_
 rintro D σ H ⟨G0,H0,G,ρ,o,good,hf,k⟩
 cases hf
 intro q hq hm
 have s1:=Step.own (o:=.ext (mR q [] [] [])) good.st.sub hq
 exact k _ _ G s1.gg ((good.step s1).setD i z0 (good.st.sub.free hq) (good.st.hh.free hq) .nil List.nodup_nil hm)
theorem zPq (hu:X.A.units+10 < cLine):OpR X (compareOp .In) (fun x y H Q=>∃G a b d kt kvs ks as vs,x = .ref b/\y = .ref a/\Same G H/\ktD 8 d=some kt/\Rep X.K G d (.ref b)/\H a=some (.ext (mR a ks as vs))/\ODs X.K G kvs ks as vs/\ks.Nodup/\(a==sysModules)=false/\Q (.bl (decide (kt∈ks))) H):=by
 intro pins s σ H x y v u Q I rx ry ⟨G,a,b,d,kt,kvs,ks,as,vs,e1,e2,sub,hk,rd,hp,od,nd,hm,q⟩
 subst e1 e2
 cases rx
 cases ry
 obtain⟨us,hv,hl,dd⟩:=zUK I sub hp od nd
 refine wpAny_in_heap (knd:=fQ X.prog X.w) (show X.A.units+1+8 < cLine by omega) (zYn I sub 8 _ _ _ _ hk rd rfl) hm dd ?_
 rw[zZP od.lens.1 hl]
 exact⟨.bl _,H,I.tok _,rfl,q⟩
def zQs:D->Option KT | .tup ds=>ktD 8 (.tup ds) | _=>none
theorem zWp {K:PySem.W.Frag}{G:Hp}{d:D}{kt:KT}{v:V}(h:zQs d=some kt)(r:Rep K G d v):ktD 8 d=some kt/\∃b,v = .ref b:=by
 cases d with
 | tup ds=>obtain⟨p,vs,rfl,_⟩:=rep_tup.mp r;exact⟨h,p,rfl⟩
 | _=>cases h
def zWV (i:Nat)(fk:Ef):Tf:=fun ρ=>(fk ρ).bind fun d=>(zQs d).bind fun k=>match ρ[i]? with | some (.od kvs)=>some (decide (some k∈kvs.map fun p=>ktD 8 p.1)) | _=>none
theorem zTa {K:PySem.W.Frag}{G:Hp}{kvs ks as vs}(od:ODs K G kvs ks as vs)(k:KT):decide (some k∈kvs.map fun p=>ktD 8 p.1)=decide (k∈ks):=by
 rw[od.keys]
 by_cases h:k∈ks
 · rw[decide_eq_true h,decide_eq_true (List.mem_map.mpr ⟨k,h,rfl⟩)]
 · rw[decide_eq_false h,decide_eq_false fun z=>by obtain⟨x,hx,e⟩:=List.mem_map.mp z;cases e;exact h hx]
theorem zS6 (i:Nat){x:Str}(hr:Room k X.A)(ha:PF X a fa)(hN:X.N[i]?=some x:=by rfl)(hv:Vis X.env.scope x:=by first | exact Or.inl rfl | exact Or.inr (Or.inl rfl) | exact Or.inr (Or.inr rfl))(hd:(x==("__debug__":Str))=false:=by decide)(hcd:(x==("__classdict__":Str))=false:=by decide)
   (hm:behindInMarks .In (.Name x p)=false:=by first | exact aL _ | (with_unfolding_all rfl)):PFT X (.Compare a [.In] [.Name x p] pos) (zWV i fa):=by
 have hu:=hr.un
 refine PT.to (cH (zPq (by omega)) ha (nL hN hv hd hcd) hm) ?_
 rintro σ H Q ⟨G0,H0,G,ρ,c,good,hf,kk⟩
 unfold zWV at hf
 obtain⟨d,h1,hf⟩:=Option.bind_eq_some_iff.mp hf
 obtain⟨kt,h2,hf⟩:=Option.bind_eq_some_iff.mp hf
 split at hf
 · rename_i kvs hi
   cases hf
   refine⟨G0,H0,G,ρ,_,good,h1,fun u H1 G1 s1 r1=>?_⟩
   obtain⟨q,ks,as,vs,e1,e2,e3,e4,e5,e6,e7⟩:=(good.step s1).dict hi
   obtain⟨hk,b,rfl⟩:=zWp h2 r1
   refine⟨.ref q,e1,G1,q,b,d,kt,kvs,ks,as,vs,rfl,rfl,s1.sub,hk,r1,e2,e5,e6,e7,_,rfl,?_⟩
   rw[←zTa e5]
   exact kk _ G1 s1
 · cases hf
def zOw (X:Cx):V->V->V->Hp->(Hp->Prop)->Prop:=fun o i v H Q=>∃G a b d kt kvs ks as vs,o = .ref a/\i = .ref b/\Same G H/\ktD 8 d=some kt/\Rep X.K G d (.ref b)/\H a=some (.ext (mR a ks as vs))/\ODs X.K G kvs ks as vs/\ks.Nodup/\kt∉ks/\kvs.length<=lim/\Q (upd H a (.ext (mR a (ks++[kt]) (as++[b]) (vs++[v]))))
theorem zYT:∀ {vs:List V} {us:List Value} {v:V} {u:Value},Vals vs us->RelV v u->Vals (vs++[v]) (us++[u])
 | _,_,_,_,.nil,h=>.cons h .nil
 | _,_,_,_,.cons a t,h=>.cons a (zYT t h)
theorem zRx (hu:X.A.units+10 < cLine):zOH X (zOw X):=by
 intro pins s σ H o i v ov iv u Q I ro ri rv h
 obtain⟨G,a,b,d,kt,kvs,ks,as,vs,rfl,rfl,sub,hk,rd,hp,od,nd,hn,hl,q⟩:=h
 cases ro
 cases ri
 obtain⟨us,hv,hl2,dd⟩:=zUK I sub hp od nd
 obtain⟨l1,l2,l3⟩:=od.lens
 have hz:(sO ks as us).length<=sizeLine:=by rw[zQH l1 hl2];exact Nat.le_of_lt (wK (by omega))
 refine wpAny_setItem_heap (knd:=fQ X.prog X.w) (hsz:=hz) (show X.A.units+1+8 < cLine by omega) (zYn I sub 8 _ _ _ _ hk rd rfl) dd fun h' dd' hs=>⟨_,?_,q⟩
 have hnone:atKey (sO ks as us) kt=none:=by
   have:=zZP l1 hl2 kt
   rw[decide_eq_false hn] at this
   exact Option.isSome_eq_false_iff.mp this |> fun z=>by simpa using z
 rw[storedH_new hnone,zVU kt b u l1 hl2] at dd'
 obtain⟨o',es,ep,g1,g2,g3,g4,_⟩:=dd'
 refine I.write (x:=a) (e:=a) (by rw[hp];trivial) (.inl rfl) (fun c w' hc z=>(hs.2 c hc).trans z) ⟨o',g1⟩ (zUC (zYT hv rv) g1 g2 g3 ?_)
 rw[g4];exact(zZA X.prog X.w _ _ _).symm
def aJ (i:Nat)(fk fv:Ef):Sf:=fun ρ=>(fv ρ).bind fun e=>(fk ρ).bind fun d=>(zQs d).bind fun k=>match ρ[i]? with
 | some (.od kvs)=>if kvs.length<=lim/\zU5 i ρ=true/\some k∉kvs.map (fun p=>ktD 8 p.1) then some (.nx (ρ.set i (.od (kvs++[(d,e)])))) else none
 | _=>none
theorem zU6 (i:Nat){x:Str}(hr:Room k X.A)(he:PF X e fa)(hb:PF X b fb)(hN:X.N[i]?=some x:=by rfl)(hv:Vis X.env.scope x:=by first | exact Or.inl rfl | exact Or.inr (Or.inl rfl) | exact Or.inr (Or.inr rfl))(hd:(x==("__debug__":Str))=false:=by decide)(hcd:(x==("__classdict__":Str))=false:=by decide)
   (ha:∀v,assign (.Subscript (.Name x p1) b p2) X.env v=(do
     let ov ←holding [v] (eval (.Name x p1) X.env)
     let iv ←holding [v,ov] (eval b X.env)
     standAt p2
     holding [v,ov,iv] (setItem ov iv v)
     release [v,ov,iv] []):=by intro _;rfl)
   (hs:swapsWithSole [.Subscript (.Name x p1) b p2] e pos.line X.env=pure false:=by rfl) (hw:swappedStores [.Subscript (.Name x p1) b p2] e X.env=pure none:=by rfl)
   (h1:(assignEach [.Subscript (.Name x p1) b p2] X.env).map (·.2)=[assign (.Subscript (.Name x p1) b p2) X.env]:=by rfl):PFS X (.Assign [.Subscript (.Name x p1) b p2] e pos) (aJ i fb fa):=by
 have hu:=hr.un
 refine PS.to (zUM he (zRT (nL hN hv hd hcd) hb (zRx (by omega)) ha) hs hw h1) ?_
 rintro D σ H ⟨G0,H0,G,ρ,o,good,hf,kk⟩
 unfold aJ at hf
 obtain⟨de,g1,hf⟩:=Option.bind_eq_some_iff.mp hf
 obtain⟨d,g2,hf⟩:=Option.bind_eq_some_iff.mp hf
 obtain⟨kt,g3,hf⟩:=Option.bind_eq_some_iff.mp hf
 split at hf
 · rename_i kvs hi
   split at hf
   · rename_i hc
     obtain⟨hl,ho,hn⟩:=hc
     cases hf
     refine⟨G0,H0,G,ρ,_,good,g1,fun v H1 G1 s1 r1=>?_⟩
     obtain⟨q,ks,as,vs,e1,e2,e3,e4,e5,e6,e7⟩:=(good.step s1).dict hi
     refine⟨.ref q,e1,G0,H0,G1,ρ,_,good.step s1,g2,fun u H2 G2 s2 r2=>?_⟩
     obtain⟨q',ks',as',vs',f1,f2,f3,f4,f5,f6,f7⟩:=((good.step s1).step s2).dict hi
     rw[e1] at f1;cases f1
     obtain⟨hk,b',rfl⟩:=zWp g3 r2
     have hnk:kt∉ks':=fun z=>hn (by rw[f5.keys];exact List.mem_map.mpr ⟨kt,z,rfl⟩)
     refine⟨G2,q,b',d,kt,kvs,ks',as',vs',rfl,rfl,s2.sub,hk,r2,f2,f5,f6,hnk,hl,?_⟩
     refine kk _ _ G2 (s1.gg.trans s2.gg) (((good.step s1).step s2).wrD ho hi e1 (f5.snoc hk r2 (r1.mono s2.gg)) ?_)
     exact List.nodup_append.mpr ⟨f6,by simp,fun x hx y hy=>by rw[List.mem_singleton] at hy;subst hy;intro z;exact hnk (z ▸ hx)⟩
   · cases hf
 · cases hf
end
end L2
namespace L2
open PySem PySem.Spec PyProof.Rows
section
variable {prog:Program} {w:World} {A:Around} {E:Value->Shared->Prop} {s:Shared}
theorem fW {id:String}{b:Builtin}{args:List Value}{kw:List (Str×Value)}{Q:Value->Shared->Prop}(hk:builtinKind id=none)(hp:plainId id=true)
   (hb:entryFor table id=some b) (ha:argsOk id ⟨args,kw⟩)
   (hc:wpAny (model prog w) A.in1 (b ⟨args,kw⟩) (fun fin s'=>match fin with
     | .done f=>(match (Except.ok f:Result) with | .ok (.ret v)=>Q v s' | .ok _=>False | .error e=>E e s')
     | .again c'=>c'.quiet=true/\codeAny (model prog w) A c' (fun r s'=>match r with | .ok (.ret v)=>Q v s' | .ok _=>False | .error e=>E e s') s') E s) :
   wpAny (model prog w) A (call (.builtin id) args kw) Q E s:=by
 refine wpAny_call (codeAny_call_builtin hp hb ?_)
 simp only[checkBuiltinCall,hk]
 cases hsig:Manifest.signature? id with
 | none=>exact wpAny_pure hc
 | some sig =>
   have h2:Bind.checkArgs id sig ⟨args,kw⟩=pure ():=by simpa only [argsOk,hsig] using ha
   show wpAny _ A.in1 (Bind.checkArgs id sig ⟨args,kw⟩) _ _ s
   rw[h2];exact wpAny_pure hc
theorem zZb (a d:Value):argsOk "min" ⟨[a],[("default",d)]⟩:=by unfold argsOk;kernel_rfl
theorem zQM {l:Addr}{d:Value}{Q:Value->Shared->Prop}(hh:A.handled=none)(hl:s.heap.IsList l #[])(h:∀h' tk,(∀b o,s.heap.get? b=some o->h'.get? b=some o)->Q d { s with heap:=h',toks:=tk }) :
   wpAny (model prog w) A (call (.builtin "min") [.ref l] [("default",d)]) Q E s:=by
 have hname:(toString "min"++toString ".loop":String)="min.loop":=by decide
 refine fW F.kind_min F.plain_min F.entry_min (zZb _ _) ?_
 show wpAny _ A.in1 (Builtin.Builtins.bindParams "min" ["key","default"] 0 ⟨[],[("default",d)]⟩ >>= _) _ _ s
 refine wpAny_bind (wpAny_of_eq (show Builtin.Builtins.bindParams "min" ["key","default"] 0 ⟨[],[("default",d)]⟩=pure [none,some d] from rfl) ?_)
 refine wpAny_bind (wpAny_pure ?_)
 refine wpAny_bind (wpAny_pyIter_list hl ?_)
 refine wpAny_bind (wpAny_newObj_type ?_)
 rw[hname]
 have hne:l≠s.heap.objs.size:=by obtain⟨_,e,_⟩:=hl;exact Nat.ne_of_lt (Heap.lt_size e)
 refine wpAny_pure ⟨plainId_quiet F.plain_min_loop _,codeAny_builtin F.entry_min_loop ?_⟩
 rw[Around.under_plainId F.plain_min_loop _]
 show wpAny _ A.in1 (seqItems? (.ref _) >>= _) _ _ _
 refine wpAny_bind (wpAny_seqItems (Heap.get?_push_size _ rfl) rfl ?_)
 have W:=Walks.list (prog:=prog) (w:=w) (A:=A.in1) hh s.heap.objs.size l hne #[]
 refine wpAny_bind (wpAny_tryCatch (W.done _ _ _ ⟨⟨_,Heap.get?_push_of_some _ (Heap.get?_push_size _ rfl),rfl,rfl⟩,(hl.push _).push _⟩ fun h' tk hk=>?_))
 refine wpAny_bind (wpAny_rule ?_)
 refine wpAny_pure (h h' tk fun b o e=>hk b o ?_ (Heap.get?_push_of_some _ (Heap.get?_push_of_some _ e)))
 intro hm
 rcases List.mem_cons.mp hm with z | z
 · exact absurd (z ▸ Heap.lt_size e) (Nat.lt_irrefl _)
 · cases z
end
section
variable {X:Cx} {a:Expr} {ga:Lf} {pos p:Pos}
end
end L2
namespace L2
open PySem PySem.Spec PyProof.Rows
def eqN:D->D->Option Bool
 | .non,.int _=>some false
 | .int _,.non=>some false
 | x,y=>eqD 8 x y
def ixE (f:D->Option Bool):List D->Option Nat
 | []=>none
 | x::r=>(f x).bind fun b=>if b=true then(if (r.all fun z=>(f z).isSome) then some 0 else none) else(ixE f r).map (· + 1)
theorem zWE {f:D->Option Bool}:∀ {ds:List D} {j:Nat},ixE f ds=some j->j < ds.length/\(∀(m:Nat) (x:D),ds[m]?=some x->∃b,f x=some b/\(m < j->b=false)/\(m=j->b=true))
 | [],_,h=>by cases h
 | x::r,j,h=>by
   unfold ixE at h
   obtain⟨b,h1,h⟩:=Option.bind_eq_some_iff.mp h
   split at h
   · rename_i hb
     split at h
     · rename_i ha
       cases h
       refine⟨Nat.zero_lt_succ _,fun m z hz=>?_⟩
       cases m with
       | zero=>cases hz;exact⟨b,h1,fun q=>absurd q (Nat.lt_irrefl _),fun _=>hb⟩
       | succ m =>
         rw[List.getElem?_cons_succ] at hz
         obtain⟨b',hb'⟩:=Option.isSome_iff_exists.mp (List.all_eq_true.mp ha z (List.mem_of_getElem? hz))
         exact⟨b',hb',fun q=>absurd q (Nat.not_lt_zero _),fun q=>by cases q⟩
     · cases h
   · rename_i hb
     obtain⟨i,h2,rfl⟩:=Option.map_eq_some_iff.mp h
     obtain⟨h3,h4⟩:=zWE h2
     refine⟨by rw[List.length_cons];omega,fun m z hz=>?_⟩
     cases m with
     | zero=>cases hz;exact⟨b,h1,fun _=>by simpa using hb,fun q=>by omega⟩
     | succ m =>
       rw[List.getElem?_cons_succ] at hz
       obtain⟨b',q1,q2,q3⟩:=h4 m z hz
       exact⟨b',q1,fun q=>q2 (by omega),fun q=>q3 (by omega)⟩
section
variable {X:Cx} {a b c e:Expr} {fa fb:Ef} {ga:Lf} {pos p:Pos}
theorem zNo {pins:List (Addr×Obj)}{σ:St}{G H:Hp}{s:Shared}(I:Inv X pins σ H s)(sub:Same G H){A:Around}{d d':D}{x y:V}{u v:Value}{k:Bool}(hu:A.units+8 < cLine)(h:eqN d d'=some k)(r1:Rep X.K G d x)(r2:Rep X.K G d' y)(ru:RelV x u)(rv:RelV y v):SeqAt.EqAt A s u v k:=by
 unfold eqN at h
 split at h
 · cases h
   rw[rep_non] at r1;rw[rep_int] at r2;subst r1;subst r2
   cases ru;obtain⟨t,rfl⟩:=rv
   exact SeqAt.EqAt.none_int _ _
 · cases h
   rw[rep_int] at r1;rw[rep_non] at r2;subst r1;subst r2
   obtain⟨t,rfl⟩:=ru;cases rv
   exact SeqAt.EqAt.int_none _ _
 · exact(zQu I sub 8 A _ _ x y u v _ hu h r1 r2 ru rv).2.2
def zUf (X:Cx):V->List V->Hp->VK->Prop:=fun x vs H Q=>∃l y G ds ws d j,x = .ref l/\vs=[y]/\Same G H/\SqL X.K H l ws/\Reps X.K G ds ws/\Rep X.K G d y/\ixE (fun z=>eqN z d) ds=some j/\ds.length<=100000/\Q (.int (j:Nat)) H
theorem zTE {k:Nat}(hr:Room k X.A):MtR X "list.index" (zUf X):=by
 intro pins s σ H x xs v us Q I rx rv h
 obtain⟨l,y,G,ds,ws,d,j,rfl,rfl,sub,hq,rs,rd,hj,hl,q⟩:=h
 cases rx
 obtain⟨u,rfl,ru⟩:=rv.one
 obtain⟨its,r,pl,_⟩:=I.list hq
 obtain⟨⟨cls,dd,data,sl⟩,ho,hc,n,hd⟩:=pl.isList
 simp only at hc hd
 subst hc hd
 obtain⟨h1,h2⟩:=zWE hj
 have l1:=rs.length
 have l2:=r.length
 have hun:=hr.units
 have bs:∀m,∃b:Bool,(m < j->b=false)/\(m=j->b=true)/\∀(h:m < its.toArray.size),SeqAt.EqAt X.A.in1 s its.toArray[m] u b:=fun m=>by
   by_cases hm:m < ds.length
   · obtain⟨b,q1,q2,q3⟩:=h2 m _ (List.getElem?_eq_getElem hm)
     refine⟨b,q2,q3,fun h=>?_⟩
     obtain⟨v1,f1,g1⟩:=rs.get (List.getElem?_eq_getElem hm)
     obtain⟨u1,f3,g3⟩:=r.get f1
     have x1:its.toArray[m]=u1:=by
       have:=(List.getElem?_eq_some_iff.mp f3).2
       simpa using this
     rw[x1]
     exact zNo I sub (A:=X.A.in1) (by show X.A.units+1+8 < cLine;omega) q1 g1 rd g3 ru
   · exact⟨decide (m=j),fun z=>decide_eq_false (by omega),fun z=>decide_eq_true z,fun h=>absurd h (by rw[List.size_toArray,←l2,←l1];exact hm)⟩
 have hjs:j < its.toArray.size:=by rw[List.size_toArray,←l2,←l1];exact h1
 refine call_meets F.slot_list_index ⟨_,ho,rfl⟩ F.entry_list_index (F.args_list_index_2 _ _) (zVX (l:=l) (its:=its.toArray) (n:=n) (dd:=dd) (sl:=sl) (y:=u) (q:=fun m=>(bs m).choose) (j:=j) hjs (by omega) ((bs j).choose_spec.2.1 rfl) (fun m hm=>(bs m).choose_spec.1 hm)) ⟨ho,fun m h=>(bs m).choose_spec.2.2 h,?_⟩
 exact⟨.int (j:Nat),H,I.tok _,⟨_,rfl⟩,q⟩
def zXQ (g:Lf)(f:Ef):Ef:=fun ρ=>(g ρ).bind fun ds=>(f ρ).bind fun d=>if ds.length<=100000 then(ixE (fun z=>eqN z d) ds).map fun j=>.int (j:Nat) else none
theorem zT6 {k:Nat}(hr:Room k X.A)(ht:PE X c (tBM X.K "list" (zUf X) (zSx X.K ga) (cS (tF X.K fb) zXk))):PF X c (zXQ ga fb):=by
 refine PE.to ht ?_
 rintro σ H Q ⟨G0,H0,G,ρ,d,good,hf,k⟩
 unfold zXQ at hf
 obtain⟨ds,h1,hf⟩:=Option.bind_eq_some_iff.mp hf
 obtain⟨y,h2,hf⟩:=Option.bind_eq_some_iff.mp hf
 split at hf
 · rename_i hl
   obtain⟨j,h3,rfl⟩:=Option.map_eq_some_iff.mp hf
   refine⟨G0,H0,G,ρ,_,good,h1,fun q vs H1 G1 s1 hq rs=>⟨.inl ⟨rfl,vs,s1.sub.seq hq⟩,G0,H0,G1,ρ,_,good.step s1,h2,fun v H2 G2 s2 r2=>?_⟩⟩
   exact⟨q,v,G2,ds,vs,y,j,rfl,rfl,s2.sub,(s1.sub.trans s2.hh).seq hq,rs.mono s2.gg,r2,h3,hl,k _ _ G2 (s1.trans s2) (rep_int.mpr rfl)⟩
 · cases hf
end
end L2
namespace L2
open PySem PySem.Spec PyProof.Rows
def sY (val:Nat->Int):Nat->Int
 | 0=>val 0
 | k+1=>if val (k+1) < sY val k then val (k+1) else sY val k
section
variable {prog:Program} {w:World} {A:Around} {R:Result->Shared->Prop} {I:Addr} {fp wr:List Addr} {n:Nat} {P:Nat->Value->Prop} {St:Nat->Heap->Prop}
theorem zQb {a b:Int}{t u:Tok}{s:Shared}{Q:Value->Shared->Prop}{E:Value->Shared->Prop}(h:Q (.bool (decide (a < b))) s):wpAny (model prog w) A (richCompare .Lt (.int a t) (.int b u)) Q E s :=
 CmpOf.ints_lt (prog:=prog) (w:=w) (A:=A) (P:=fun i v=>∃t,v = .int (if i=0 then a else b) t) (fun i=>if i=0 then a else b) (fun _ _ h=>h) 0 1 _ _ s Q E ⟨t,rfl⟩ ⟨u,rfl⟩ h
theorem zUe (W:Walks prog w A.in1 I fp wr n P St)(val:Nat->Int)(hv:∀i v,P i v->∃t,v = .int (val i) t)(d:Value)(S:Addr)(hSf:S∉fp) :
   ∀(k j:Nat) (s:Shared) (t:Tok) (c:Nat),n - (j+1)=k->j+1<=n->St (j+1) s.heap ->
   s.heap.get? S=some { cls:=.type "list",dict:=none,data:=.seq #[.int (sY val j) t,.int (sY val j) t] c,slots:=#[] } ->
   (∀t' h' tk,(∀b o,b∉wr->b≠S->s.heap.get? b=some o->h'.get? b=some o)->R (.ok (.ret (.int (sY val (n - 1)) t'))) { s with heap:=h',toks:=tk }) ->
   codeAny (model prog w) A (.builtin "min.loop" ⟨[.ref I,.none,.ref S],[("default",d)]⟩) R s:=by
 have hSw:S∉wr:=fun h=>hSf (W.sub _ h)
 have hname:(toString "min"++toString ".loop":String)="min.loop":=by decide
 intro k
 induction k with
 | zero =>
   intro j s t c hk hj hst hS hR
   have hin:j+1=n:=by omega
   refine codeAny_builtin F.entry_min_loop ?_
   rw[Around.under_plainId F.plain_min_loop _]
   show wpAny _ A.in1 (seqItems? (.ref S) >>= _) _ _ s
   refine wpAny_bind (wpAny_seqItems hS rfl ?_)
   show wpAny _ A.in1 (tryCatch (pyNext (.ref I)) _ >>= _) _ _ s
   refine wpAny_bind (wpAny_tryCatch (W.done s _ _ (hin ▸ hst) fun h' tk hk'=>?_))
   have hS':=hk' S _ hSw hS
   show wpAny _ A.in1 (updateSeq S (fun _=>#[]) >>= _) _ _ _
   refine wpAny_bind (wpAny_updateSeq hS' rfl (wpAny_bind (wpAny_letGo (wpAny_pure ?_))))
   rw[←hin] at hR
   exact hR t _ tk fun b o hbw hbS e=>(Heap.get?_update_other _ _ (Ne.symm hbS)).trans (hk' b o hbw e)
 | succ k ih =>
   intro j s t c hk hj hst hS hR
   have hlt:j+1 < n:=by omega
   refine codeAny_builtin F.entry_min_loop ?_
   rw[Around.under_plainId F.plain_min_loop _]
   show wpAny _ A.in1 (seqItems? (.ref S) >>= _) _ _ s
   refine wpAny_bind (wpAny_seqItems hS rfl ?_)
   show wpAny _ A.in1 (tryCatch (pyNext (.ref I)) _ >>= _) _ _ s
   refine wpAny_bind (wpAny_tryCatch (W.item (j+1) s _ _ hlt hst fun v h' tk hP hst' hk'=>?_))
   obtain⟨tv,rfl⟩:=hv _ _ hP
   have hS':=hk' S _ hSw hS
   show wpAny _ A.in1 (tryCatch (holding _ (richCompare .Lt _ _ >>= _)) _ >>= _) _ _ _
   refine wpAny_bind (wpAny_tryCatch (wpAny_holding (wpAny_bind (zQb ?_))))
   refine wpAny_bind (wpAny_holding (wpAny_truthy_bool ?_))
   refine wpAny_bind (wpAny_letGo (wpAny_pure ?_))
   by_cases hb:val (j+1) < sY val j
   · rw[decide_eq_true hb]
     simp only[if_true]
     refine wpAny_bind (wpAny_updateSeq hS' rfl (wpAny_bind (wpAny_letGo ?_)))
     rw[hname]
     have em:sY val (j+1)=val (j+1):=by rw[sY,if_pos hb]
     refine wpAny_pure ⟨plainId_quiet F.plain_min_loop _,ih (j+1) _ tv _ (by omega) hlt (W.frame _ _ _ hst' fun b hbf o e=>?_) (by rw[em];exact Heap.get?_update_self _ hS' rfl) fun t' h'' tk'' hk''=>?_⟩
     · exact(Heap.get?_update_other _ _ (fun h:S=b=>hSf (by rw[h];exact hbf))).trans e
     · exact hR t' h'' tk'' fun b o hbw hbS e=>hk'' b o hbw hbS ((Heap.get?_update_other _ _ (Ne.symm hbS)).trans (hk' b o hbw e))
   · rw[decide_eq_false hb]
     simp only[Bool.false_eq_true,if_false]
     refine wpAny_bind (wpAny_letGo ?_)
     rw[hname]
     have em:sY val (j+1)=sY val j:=by rw[sY,if_neg hb]
     exact wpAny_pure ⟨plainId_quiet F.plain_min_loop _,ih (j+1) _ t c (by omega) hlt hst' (by rw[em];exact hS') fun t' h'' tk'' hk''=>hR t' h'' tk'' fun b o hbw hbS e=>hk'' b o hbw hbS (hk' b o hbw e)⟩
end
section
variable {prog:Program} {w:World} {A:Around} {E:Value->Shared->Prop} {s:Shared}
theorem zS8 {l:Addr}{d:Value}{xs:Array (Int×Tok)}{Q:Value->Shared->Prop}(hh:A.handled=none)(hl:s.heap.IsList l (intItems xs))(hn:0 < xs.size)
   (h:∀t h' tk,(∀b o,s.heap.get? b=some o->h'.get? b=some o)->Q (.int (sY (numAt xs) (xs.size - 1)) t) { s with heap:=h',toks:=tk }) :
   wpAny (model prog w) A (call (.builtin "min") [.ref l] [("default",d)]) Q E s:=by
 have hname:(toString "min"++toString ".loop":String)="min.loop":=by decide
 refine fW F.kind_min F.plain_min F.entry_min (zZb _ _) ?_
 show wpAny _ A.in1 (Builtin.Builtins.bindParams "min" ["key","default"] 0 ⟨[],[("default",d)]⟩ >>= _) _ _ s
 refine wpAny_bind (wpAny_of_eq (show Builtin.Builtins.bindParams "min" ["key","default"] 0 ⟨[],[("default",d)]⟩=pure [none,some d] from rfl) ?_)
 refine wpAny_bind (wpAny_pure ?_)
 refine wpAny_bind (wpAny_pyIter_list hl ?_)
 refine wpAny_bind (wpAny_newObj_type ?_)
 rw[hname]
 have hne:l≠s.heap.objs.size:=by obtain⟨_,e,_⟩:=hl;exact Nat.ne_of_lt (Heap.lt_size e)
 have hsz:(intItems xs).size=xs.size:=by simp[intItems]
 have W:=Walks.list (prog:=prog) (w:=w) (A:=A.in1) hh s.heap.objs.size l hne (intItems xs)
 have hll:l < s.heap.objs.size:=by obtain⟨_,e,_⟩:=hl;exact Heap.lt_size e
 refine wpAny_pure ⟨plainId_quiet F.plain_min_loop _,codeAny_builtin F.entry_min_loop ?_⟩
 rw[Around.under_plainId F.plain_min_loop _]
 show wpAny _ A.in1 (seqItems? (.ref _) >>= _) _ _ _
 refine wpAny_bind (wpAny_seqItems (Heap.get?_push_size _ rfl) rfl ?_)
 have hps:(s.heap.push { cls:=.type "list_iterator",data:=.fields #[.ref l,.int 0 0] }).objs.size=s.heap.objs.size+1:=Heap.size_push _ _
 refine wpAny_bind (wpAny_tryCatch (W.item 0 _ _ _ (by rw[hsz];exact hn) ⟨⟨_,Heap.get?_push_of_some _ (Heap.get?_push_size _ rfl),rfl,rfl⟩,(hl.push _).push _⟩ fun v h' tk hP hst' hk'=>?_))
 obtain⟨tv,rfl⟩:=intItems_at hP
 have hSw:(s.heap.push { cls:=.type "list_iterator",data:=.fields #[.ref l,.int 0 0] }).objs.size∉[s.heap.objs.size]:=fun hm=>by
   rw[List.mem_singleton] at hm;omega
 have hS':=hk' _ _ hSw (Heap.get?_push_size _ rfl)
 show wpAny _ A.in1 (updateSeq _ (fun _=>#[.int (numAt xs 0) tv,.int (numAt xs 0) tv]) >>= _) _ _ _
 refine wpAny_bind ?_
 refine wpAny_updateSeq hS' rfl ?_
 rw[hname]
 have hSf:(s.heap.push { cls:=.type "list_iterator",data:=.fields #[.ref l,.int 0 0] }).objs.size∉[s.heap.objs.size,l]:=fun hm=>by
   rcases List.mem_cons.mp hm with z | z
   · rw[hps] at z;exact Nat.succ_ne_self _ z
   · rw[List.mem_singleton,hps] at z
     rw[←z] at hll
     exact absurd hll (Nat.not_lt.mpr (Nat.le_succ _))
 refine wpAny_pure ⟨plainId_quiet F.plain_min_loop _,zUe W (numAt xs) (fun i v h=>intItems_at h) d _ hSf _ 0 _ tv _ rfl (by rw[hsz];exact hn) (W.frame _ _ _ hst' fun b hbf o e=>?_) (Heap.get?_update_self _ hS' rfl) fun t' h'' tk'' hk''=>?_⟩
 · exact(Heap.get?_update_other _ _ (fun z=>hSf (by rw[z];exact hbf))).trans e
 · rw[hsz]
   refine h t' h'' tk'' fun b o e=>?_
   have hlt:=Heap.lt_size e
   have n1:b∉[s.heap.objs.size]:=fun hm=>by rw[List.mem_singleton] at hm;rw[hm] at hlt;exact Nat.lt_irrefl _ hlt
   have n2:b≠(s.heap.push { cls:=.type "list_iterator",data:=.fields #[.ref l,.int 0 0] }).objs.size:=fun z=>by rw[hps] at z;rw[z] at hlt;exact absurd hlt (Nat.not_lt.mpr (Nat.le_succ _))
   exact hk'' b o n1 n2 ((Heap.get?_update_other _ _ (Ne.symm n2)).trans (hk' b o n1 (Heap.get?_push_of_some _ (Heap.get?_push_of_some _ e))))
end
section
variable {X:Cx} {a:Expr} {ga:Lf} {pos p:Pos}
def zX0 (ns:List Int):Int:=sY (fun i=>ns.getD i 0) (ns.length - 1)
def zUi (g:Lf):Ef:=fun ρ=>(g ρ).bind fun ds=>(zYA ds).bind fun ns=>if ns.isEmpty=true then some .non else some (.int (zX0 ns))
theorem zRb {kp:Pos}{j}{p2:Pos}(hc:X.calm=true)(hg:Gl X "min")(hm:X.mg "min"=none)(h:zYi X a ga)(hs:starEach [a] X.env=[(false,eval a X.env)]:=by rfl) :
   PF X (.Call (.Name "min" p) [a] [⟨some "default",.Constant .none j p2,kp⟩] pos) (zUi ga):=by
 refine PE.to (t:=fun σ H Q=>zSx X.K ga σ H fun v H1=>∃q ns,v = .ref q/\SqL X.K H1 q (ns.map V.int)/\Q (if ns.isEmpty=true then .non else .int (zX0 ns)) H1) ?_ ?_
 · intro pins s σ H Q I h0
   refine wpAny_Call_Name_kw (pE I hg hm (u:=.builtin "min") (by rfl) ?_ (by decide) (by decide))
   refine callWith_kw ?_ (by rw[hs];rfl) (by rw[hs];rfl) (by rfl) (by rfl)
   refine spliced_more (thn (h pins s σ H _ I h0) fun u s1 ⟨v,H1,I1,rv,q,ns,e,sq,q1⟩=>?_) (by rw[hs];rfl)
   subst e
   cases rv
   refine spliced_none ?_
   refine kws_cons (thn (zSC (X:=X) (j:=j) (pos:=p2) pins s1 σ H1 _ I1 (show tC .non σ H1 (fun v H2=>v = .non/\H2=H1) from⟨rfl,rfl⟩)) fun u2 s2 ⟨v2,H2,I2,rv2,e2,e3⟩=>?_)
   subst e2 e3
   cases rv2
   refine kws_nil ?_
   obtain⟨its,rl,pl,_⟩:=I2.list sq
   cases ns with
   | nil =>
     cases rl
     exact zQM (I2.ok.hd hc) pl.isList fun h' tk hk=>⟨.non,H2,I2.kept hk,rfl,q1⟩
   | cons x r =>
     obtain⟨ps,rfl,hps⟩:=dY rl
     have hit:s2.heap.IsList q (intItems ps.toArray):=by
       have:=pl.isList
       unfold intItems
       rw[List.map_toArray]
       exact this
     have hlen:ps.length=r.length+1:=by
       have:=congrArg List.length hps
       simpa using this
     have hnum:(fun i=>numAt ps.toArray i)=fun i=>(x::r).getD i 0:=by
       funext i
       rw[←hps]
       unfold numAt
       rw[List.getElem?_toArray,List.getD_eq_getElem?_getD,List.getElem?_map]
     refine zS8 (I2.ok.hd hc) hit (by simp[hlen]) fun t h' tk hk=>⟨.int _,H2,I2.kept hk,⟨t,rfl⟩,?_⟩
     have e:sY (numAt ps.toArray) (ps.toArray.size - 1)=zX0 (x::r):=by
       unfold zX0
       rw[←hnum,List.size_toArray,hlen,List.length_cons]
     rw[e]
     exact q1
 · rintro σ H Q ⟨G0,H0,G,ρ,d,good,hf,k⟩
   unfold zUi at hf
   obtain⟨ds,h1,hf⟩:=Option.bind_eq_some_iff.mp hf
   obtain⟨ns,h2,hf⟩:=Option.bind_eq_some_iff.mp hf
   refine⟨G0,H0,G,ρ,ds,good,h1,fun q vs H1 G1 s1 e1 r1=>⟨q,ns,rfl,by rw[←jI h2 r1];exact s1.sub.seq e1,?_⟩⟩
   split at hf
   · rename_i he
     cases hf
     rw[if_pos he]
     exact k _ _ G1 s1 (rep_non.mpr rfl)
   · rename_i he
     cases hf
     rw[if_neg he]
     exact k _ _ G1 s1 (rep_int.mpr rfl)
end
end L2
namespace L2
open PySem PySem.Spec PyProof.Rows
section
variable {X:Cx} {a b c e tg elt iter:Expr} {fa fb:Ef} {pos p:Pos}
end
mutual
def zNv:D->Bool
 | .non=>true
 | .bl _=>true
 | .int _=>true
 | .str _=>true
 | .tup ds=>zPS ds
 | _=>false
def zPS:List D->Bool
 | []=>true
 | d::r=>zNv d&&zPS r
end
section
variable {X:Cx} {e:Expr} {fa:Ef} {ga:Lf} {ta:Tf}
end
end L2
namespace L2
open PySem PySem.Spec PyProof.Rows
section
variable {X:Cx} {pins:List (Addr×Obj)} {σ:St} {H G:Hp} {s:Shared}
end
section
variable {X:Cx} {k:Nat}
end
end L2
namespace L2
open PySem PySem.Spec PyProof.Rows
abbrev Jf:=List B->Option Str
section
variable {X:Cx} {e c a:Expr} {es:List Expr} {fa fb:Ef} {g:Jf} {pos p:Pos}
end
end L2
namespace L2
open PySem PySem.Spec PyProof.Rows
section
variable {prog:Program} {w:World} {A:Around} {E:Value->Shared->Prop} {s:Shared}
end
section
variable {X:Cx} {a b c e tg elt iter:Expr} {fa fb:Ef} {pos p:Pos}
end
end L2
namespace L2
open PySem PySem.Spec PyProof.Rows
section
variable {prog:Program} {w:World} {A:Around} {E:Value->Shared->Prop} {s:Shared}
end
section
variable {X:Cx} {a:Expr} {fa:Ef} {pos p:Pos}
end
end L2
namespace L2
open PySem PySem.Spec PyProof.Rows
open PySem.Builtin PySem.Builtin.Str
theorem zYW:∀l:List (Str×Tok),Vals ((l.map (·.1)).map V.str) (strValues l)
 | []=>.nil
 | (x,t)::r=>.cons ⟨t,rfl⟩ (zYW r)
section
variable {X:Cx} {e c a:Expr} {es:List Expr} {fa fb:Ef} {pos p:Pos}
def zRA:V->List V->Hp->VK->Prop:=fun x vs H Q=>∃z y,x = .str z/\vs=[.str y]/\1<=y.length/\z.length<=100000/\∀p,H p=none->Q (.ref p) (upd H p (.lst ((Txt.split z y).map V.str)))
theorem zWi:MtR X "str.split" zRA:=by
 intro pins s σ H x xs v us Q I rx rv h
 obtain⟨z,y,rfl,rfl,hy1,hz,q⟩:=h
 obtain⟨t,rfl⟩:=rx
 obtain⟨w,rfl,u,rfl⟩:=rv.one
 have hy:(y.length==0)=false:=by rw[beq_eq_false_iff_ne];omega
 have hsl:sizeLine=sizeLine:=rfl
 have hlen:=split_le z y
 have go:∀(l:List (Str×Tok)) (k:Nat),l.map (·.1)=Txt.split z y->EP X pins σ Q (.ref s.heap.objs.size) { s with toks:=k,heap:=s.heap.push { cls:=.type "list",data:=.seq (strValues l).toArray } }:=by
   intro l k hl
   refine⟨.ref s.heap.objs.size,_,I.laid (o:=.lst ((Txt.split z y).map V.str)) (fun b o e=>Heap.get?_push_of_some _ e) (Nat.le_refl _) ?_,rfl,q _ I.fresh⟩
   exact⟨by rw[List.length_map,sizeLine_eq];omega,_,_,by rw[←hl];exact zYW l,Heap.get?_push_size _ rfl⟩
 have hn:(partsBetween z (occurrences z y 0 z.length (z.length+1)) y.length).length<=sizeLine:=by
   have e1:=StrLaws.occ_length_le z y 0 z.length (z.length+1)
   rw[length_partsBetween,sizeLine_eq];omega
 cases h1:(decide (z.length < y.length)||decide (strKind z < strKind y))
 · cases hf:(occurrences z y 0 z.length (z.length+1)).isEmpty
   · refine call_meets F.slot_str_split (typeIs_str _ _ _) F.entry_str_split (F.args_str_split_2 _ _) (meets_str_split_sep z y t u h1 hy hf (by rw[sizeLine_eq];omega) hn) ?_
     show wants _ _ _ { s with toks:=_,heap:=s.heap.push { cls:=.type "list",data:=.seq (strsFrom s.toks (partsBetween z (occurrences z y 0 z.length (z.length+1)) y.length)).toArray } }
     rw[strsFrom_eq]
     exact go (PySem.numbered s.toks _) _ ((numbered_texts _ _).trans ((if_neg (ne_true_of_eq_false h1)).trans (if_neg (ne_true_of_eq_false hf))).symm)
   · exact call_meets F.slot_str_split (typeIs_str _ _ _) F.entry_str_split (F.args_str_split_2 _ _) (meets_str_split_not_found z y t u h1 hy hf) (go [(z,t)] s.toks ((if_neg (ne_true_of_eq_false h1)).trans (if_pos hf)).symm)
 · exact call_meets F.slot_str_split (typeIs_str _ _ _) F.entry_str_split (F.args_str_split_2 _ _) (meets_str_split_cannot_occur z y t u h1) (go [(z,t)] s.toks (if_pos h1).symm)
theorem zYU {K:PySem.W.Frag}{G:Hp}:∀ys:List Str,Reps K G (ys.map D.str) (ys.map V.str)
 | []=>by rw[List.map_nil,List.map_nil,reps_nil]
 | y::r=>by rw[List.map_cons,List.map_cons];exact reps_cons.mpr ⟨_,_,rfl,rep_str.mpr rfl,zYU r⟩
def hV (x y:D):Option (List D):=match x,y with | .str z,.str m=>if 1<=m.length/\z.length<=100000 then some ((Txt.split z m).map D.str) else none | _,_=>none
def iB (fa fb:Ef):Lf:=fun ρ=>(fa ρ).bind fun x=>(fb ρ).bind fun y=>hV x y
theorem zWs (ht:PE X c (tBM X.K "str" zRA (tF X.K fa) (cS (tF X.K fb) zXk))):PFr X c (iB fa fb):=by
 refine PE.toR ht ?_
 rintro σ H Q ⟨G0,H0,G,ρ,d,good,hf,k⟩
 unfold iB at hf
 obtain⟨x,h1,hf⟩:=Option.bind_eq_some_iff.mp hf
 obtain⟨y,h2,hf⟩:=Option.bind_eq_some_iff.mp hf
 unfold hV at hf
 split at hf
 · split at hf
   · rename_i hz
     cases hf
     refine⟨G0,H0,G,ρ,_,good,h1,fun u H1 G1 s1 r1=>?_⟩
     have r1:=rep_str.mp r1
     subst r1
     refine⟨rfl,G0,H0,G1,ρ,_,good.step s1,h2,fun v H2 G2 s2 r2=>?_⟩
     have r2:=rep_str.mp r2
     subst r2
     refine⟨_,_,rfl,rfl,hz.1,hz.2,fun l hl=>?_⟩
     exact k l _ _ G2 ((s1.trans s2).trans (Step.own s2.sub hl)) ((s1.trans s2).hh.free hl) z0 (s2.sub.free hl) (zYU _)
   · cases hf
 · cases hf
end
theorem zY7 {c:Nat}:∀ {x x' r r':List Nat},c∉x->c∉x'->x++c::r=x'++c::r'->x=x'/\r=r'
 | [],[],_,_,_,_,h=>⟨rfl,(List.cons.inj h).2⟩
 | [],b::x',_,_,_,h2,h=>absurd (by rw[(List.cons.inj h).1];exact List.mem_cons_self) h2
 | a::x,[],_,_,h1,_,h=>absurd (by rw[←(List.cons.inj h).1];exact List.mem_cons_self) h1
 | a::x,b::x',_,_,h1,h2,h=>by
   obtain⟨e1,e2⟩:=List.cons.inj h
   obtain⟨e3,e4⟩:=zY7 (fun z=>h1 (List.mem_cons_of_mem _ z)) (fun z=>h2 (List.mem_cons_of_mem _ z)) e2
   exact⟨by rw[e1,e3],e4⟩
def jU (c:Nat)(y:Str):Prop:=c∉y.cps.toList
theorem aH (c:Nat)(x y:Str)(r:List Str):(Str.join ⟨#[c]⟩ (x::y::r)).cps.toList=x.cps.toList++c::(Str.join ⟨#[c]⟩ (y::r)).cps.toList:=by
 show(x++⟨#[c]⟩++Str.join ⟨#[c]⟩ (y::r)).cps.toList=_
 rw[Str.cps_append,Str.cps_append]
 simp
theorem iN {c:Nat}{x:Str}{z y:Str}{r:List Str}(hx:jU c x):x≠Str.join ⟨#[c]⟩ (z::y::r):=fun e=>by
 have:=congrArg (fun q:Str=>q.cps.toList) e
 rw[aH] at this
 exact hx (by rw[this];simp)
theorem zWu {c:Nat}:∀ {xs ys:List Str},(∀x∈xs,jU c x)->(∀y∈ys,jU c y)->xs≠[]->ys≠[]->Str.join ⟨#[c]⟩ xs=Str.join ⟨#[c]⟩ ys->xs=ys
 | [],_,_,_,h,_,_=>absurd rfl h
 | _,[],_,_,_,h,_=>absurd rfl h
 | [x],[y],_,_,_,_,h=>by rw[show x=y from h]
 | [x],y::z::r,hx,_,_,_,h=>absurd h (iN (hx x List.mem_cons_self))
 | x::z::r,[y],_,hy,_,_,h=>absurd h.symm (iN (hy y List.mem_cons_self))
 | x::z::r,y::w::q,hx,hy,_,_,h=>by
   have e:=congrArg (fun q:Str=>q.cps.toList) h
   rw[aH,aH] at e
   obtain⟨e1,e2⟩:=zY7 (hx x List.mem_cons_self) (hy y List.mem_cons_self) e
   have e3:x=y:=by cases x;cases y;simp at e1;rw[e1]
   have e4:Str.join ⟨#[c]⟩ (z::r)=Str.join ⟨#[c]⟩ (w::q):=by
     generalize Str.join ⟨#[c]⟩ (z::r)=u at e2
     generalize Str.join ⟨#[c]⟩ (w::q)=v at e2
     cases u;cases v;simp at e2;rw[e2]
   rw[e3,zWu (fun x h=>hx x (List.mem_cons_of_mem _ h)) (fun x h=>hy x (List.mem_cons_of_mem _ h)) (List.cons_ne_nil _ _) (List.cons_ne_nil _ _) e4]
theorem zZH (c:Nat)(ys:List Str)(hy:∀y∈ys,jU c y)(hn:ys≠[]):Txt.split (Str.join ⟨#[c]⟩ ys) ⟨#[c]⟩=ys:=by
 refine zWu (fun x hx=>StrLaws.split_free _ c x hx) hy (fun z=>?_) hn (StrLaws.join_split _ _)
 have:=split_pos (Str.join ⟨#[c]⟩ ys) ⟨#[c]⟩
 rw[z] at this
 simp at this
end L2
namespace L2
open PySem PySem.Spec PyProof.Rows
open PySem.Builtin PySem.Builtin.Str
section
variable {X:Cx} {a c:Expr} {fa fb:Ef} {ga:Lf} {pos p:Pos}
end
section
variable {P:Program} {w:World} {K:PySem.W.Frag} {mg:Str->Option Value} {base:Heap} {k:Nat} {f:Addr} {fd:FuncData} {ps:List Str}
end
end L2
namespace L2
open PySem PySem.Spec PyProof.Rows
section
variable {X:Cx} {a b elt iter tg:Expr} {ifs:List Expr} {gi:Lf} {pos p:Pos} {k:Nat}
end
end L2
namespace L2
open PySem PySem.Spec PyProof.Rows
section
variable {X:Cx} {a b c e tg:Expr} {fa fb:Ef} {pos p:Pos} {k:Nat}
end
end L2
namespace L2
open PySem PySem.Spec PyProof.Rows
def cM:Value->Option D
 | .none=>some .non
 | .bool b=>some (.bl b)
 | .int i _=>some (.int i)
 | .str x _=>some (.str x)
 | _=>none
theorem zSP {u:Value}{d:D}(h:cM u=some d):∃v,RelV v u/\∀K G,Rep K G d v:=by
 cases u<;>first | cases h | skip
 · exact⟨.non,rfl,fun _ _=>rep_non.mpr rfl⟩
 · exact⟨.bl _,rfl,fun _ _=>rep_bl.mpr rfl⟩
 · exact⟨.int _,⟨_,rfl⟩,fun _ _=>rep_int.mpr rfl⟩
 · exact⟨.str _,⟨_,rfl⟩,fun _ _=>rep_str.mpr rfl⟩
def zVv (P:Params)(l:List (Str×Tok×Value)):List DictEntry:=l.map fun p=>⟨PyData.keyHash P p.1,.str p.1 p.2.1,p.2.2⟩
def kvC (l:List (Str×Tok×Value)):List (Str×D):=l.map fun p=>(p.1,(cM p.2.2).getD .non)
structure DictC (w:World)(K:PySem.W.Frag)(a:Addr)(kvs:List (Str×D)):Prop where
 sys:(a==sysModules)=false
 at':∃(l:List (Str×Tok×Value)) (n:Nat),K.lookup a=some ⟨.type "dict",none,.dict (zVv w.params l).toArray n,#[]⟩/\kvs=kvC l/\(l.all fun p=>(cM p.2.2).isSome)=true
theorem zU3 {P:Params}:∀l:List (Str×Tok×Value),PySem.W.KeysLit P (zVv P l)
 | []=>trivial
 | (x,t,v)::r=>⟨⟨x,t,rfl,rfl⟩,zU3 r⟩
theorem zSJ {P:Params}(x:Str):∀l:List (Str×Tok×Value),(l.all fun p=>(cM p.2.2).isSome)=true ->
   match (kvC l).lookup x with
   | some d=>∃u,findBy Value.isStrOf (zVv P l).toArray x=some u/\cM u=some d
   | none=>findBy Value.isStrOf (zVv P l).toArray x=none
 | [],_=>rfl
 | (y,t,v)::r,h=>by
   have h':=Bool.and_eq_true_iff.mp (by simpa using h:((cM v).isSome&&(r.all fun p=>(cM p.2.2).isSome))=true)
   have ih:=zSJ (P:=P) x r h'.2
   show match ((y,(cM v).getD .non)::kvC r).lookup x with | some d=>_ | none=>_
   unfold findBy at ih ⊢
   rw[List.find?_toArray] at ih ⊢
   show match ((y,(cM v).getD .non)::kvC r).lookup x with
     | some d=>∃u,(((⟨PyData.keyHash P y,.str y t,v⟩:DictEntry)::zVv P r).find? fun e=>Value.isStrOf x e.key).map (·.val)=some u/\cM u=some d
     | none=>(((⟨PyData.keyHash P y,.str y t,v⟩:DictEntry)::zVv P r).find? fun e=>Value.isStrOf x e.key).map (·.val)=none
   by_cases e:y=x
   · subst e
     have q:Value.isStrOf y (.str y t)=true:=beq_self_eq_true y
     rw[List.lookup_cons,beq_self_eq_true,List.find?_cons]
     rw[show(Value.isStrOf y (⟨PyData.keyHash P y,.str y t,v⟩:DictEntry).key)=true from q]
     obtain⟨d,hd⟩:=Option.isSome_iff_exists.mp h'.1
     exact⟨v,rfl,by rw[hd];rfl⟩
   · have q:Value.isStrOf x (.str y t)=false:=beq_eq_false_iff_ne.mpr e
     have q2:(x==y)=false:=beq_eq_false_iff_ne.mpr (Ne.symm e)
     rw[List.lookup_cons,q2,List.find?_cons,show(Value.isStrOf x (⟨PyData.keyHash P y,.str y t,v⟩:DictEntry).key)=false from q]
     exact ih
section
variable {X:Cx} {a b:Expr} {fa fb:Ef} {pos p:Pos} {x:Str} {da:Addr} {kvs:List (Str×D)}
variable {pins:List (Addr×Obj)} {σ:St} {H:Hp} {s:Shared}
theorem DictC.map (h:DictC X.w X.K da kvs)(I:Inv X pins σ H s):∃f:Str->Option Value,s.heap.MapOf (strKind X.prog X.w) da f/\∀y,match kvs.lookup y with | some d=>∃u,f y=some u/\cM u=some d | none=>f y=none:=by
 obtain⟨l,n,h1,h2,h3⟩:=h.at'
 subst h2
 exact⟨_,PySem.W.mapOf_K I.kIn h1 (by simpa using zU3 l),fun y=>zSJ y l h3⟩
def zOx (X:Cx)(kvs:List (Str×D))(da:Addr)(c:Bool):R2:=fun v y H Q=>∃z,v = .str z/\y = .ref da/\Q (.bl (c==(kvs.lookup z).isSome)) H
theorem zTo (h:DictC X.w X.K da kvs):OpR X (compareOp .NotIn) (zOx X kvs da false):=by
 intro pins s σ H x y v u Q I rx ry ⟨z,e1,e2,q⟩
 subst e1 e2
 obtain⟨t,rfl⟩:=rx
 cases ry
 obtain⟨f,hm,hf⟩:=h.map I
 refine wpAny_notIn_of (strKind_is X.prog X.w z t) h.sys hm ?_
 have e:(!(f z).isSome)=(false==(kvs.lookup z).isSome):=by
   have:=hf z
   cases hk:kvs.lookup z with
   | none=>rw[hk] at this;rw[this];rfl
   | some d=>rw[hk] at this;obtain⟨u,hu,_⟩:=this;rw[hu];rfl
 rw[e]
 exact⟨.bl _,H,I.tok _,rfl,q⟩
def zVn (c:Bool)(kvs:List (Str×D))(fa:Ef):Tf:=fun ρ=>(fa ρ).bind fun d=>match d with | .str z=>some (c==(kvs.lookup z).isSome) | _=>none
theorem zOY {c:Bool}{σ:St}{H:Hp}{Q:Bool->Hp->Prop}(q:tFT X.K (zVn c kvs fa) σ H Q):zRF (tOp (zOx X kvs da c) (tF X.K fa) (tC (.ref da))) σ H Q:=by
 obtain⟨G0,H0,G,ρ,c',good,hf,kk⟩:=q
 unfold zVn at hf
 obtain⟨d,h1,hf⟩:=Option.bind_eq_some_iff.mp hf
 split at hf
 · rename_i z
   cases hf
   refine⟨G0,H0,G,ρ,_,good,h1,fun u H1 G1 s1 r1=>?_⟩
   exact⟨z,rep_str.mp r1,rfl,_,rfl,kk _ G1 s1⟩
 · cases hf
theorem zYI (h:DictC X.w X.K da kvs)(hg:Gl X x)(hx:X.mg x=some (.ref da))(ha:PF X a fa)(hd:(x==("__debug__":Str))=false:=by decide)
   (hm:behindInMarks .NotIn (.Name x p)=false:=by first | exact aL _ | (with_unfolding_all rfl)):PFT X (.Compare a [.NotIn] [.Name x p] pos) (zVn false kvs fa) :=
 PT.to (cH (zTo h) ha (cA (v:=.ref da) hg hx rfl hd) hm) fun _ _ _=>zOY
def zNi (X:Cx)(kvs:List (Str×D))(da:Addr):R2:=fun v y H Q=>∃z d,v = .ref da/\y = .str z/\kvs.lookup z=some d/\∀o,(∀G,Rep X.K G d o)->Q o H
theorem zNs (h:DictC X.w X.K da kvs):IxR X (zNi X kvs da):=by
 intro value slice pins s σ H x y v u Q I rx ry ⟨z,d,e1,e2,e3,q⟩ hs
 subst e1 e2
 cases rx
 obtain⟨t,rfl⟩:=ry
 obtain⟨f,hm,hf⟩:=h.map I
 have:=hf z
 rw[e3] at this
 obtain⟨u,hu,hd⟩:=this
 obtain⟨o,ro,rep⟩:=zSP hd
 exact tail_any hm.typeIs slot_dict_getitem.lookup (wpAny_getItem_of (strKind_is X.prog X.w z t) hm hu ⟨o,H,I.tok _,ro,q o fun G=>rep _ G⟩) hs
def zQc (kvs:List (Str×D))(fb:Ef):Ef:=fun ρ=>(fb ρ).bind fun d=>match d with | .str z=>kvs.lookup z | _=>none
theorem zR5 (h:DictC X.w X.K da kvs)(hg:Gl X x)(hx:X.mg x=some (.ref da))(hb:PF X b fb)(hd:(x==("__debug__":Str))=false:=by decide)(hs:cD b:=by exact fun _ _=>rfl):PF X (.Subscript (.Name x p) b pos) (zQc kvs fb):=by
 refine PE.to (zSX (zNs h) (cA (v:=.ref da) hg hx rfl hd) hb hs) ?_
 rintro σ H Q ⟨G0,H0,G,ρ,d,good,hf,k⟩
 unfold zQc at hf
 obtain⟨y,h1,hf⟩:=Option.bind_eq_some_iff.mp hf
 split at hf
 · rename_i z
   refine⟨G0,H0,G,ρ,_,good,h1,fun u H1 G1 s1 r1=>⟨z,d,rfl,rep_str.mp r1,hf,fun o ho=>k _ _ G1 s1 (ho _)⟩⟩
 · cases hf
theorem zWI {w:World}{K:PySem.W.Frag}{n:Nat}(l:List (Str×Tok×Value))(h:K.lookup da=some ⟨.type "dict",none,.dict (zVv w.params l).toArray n,#[]⟩)(hs:(da==sysModules)=false)(hl:(l.all fun p=>(cM p.2.2).isSome)=true:=by rfl):DictC w K da (kvC l) :=
 ⟨hs,l,n,h,rfl,hl⟩
end
end L2
namespace L2
open PySem PySem.Spec PyProof.Rows
theorem zYj (o:Option D):(o.map Out.rt).bind xC=o:=by cases o<;>rfl
theorem yQ {f g:Sf}{ρ ρ':List B}(h:f ρ=some (.nx ρ')):zM f g ρ=g ρ':=by unfold zM;rw[h];rfl
theorem xI {f g:Sf}{ρ ρ':List B}{r:Option D}(h:f ρ=some (.nx ρ'))(k:(g ρ').bind xC=r):(zM f g ρ).bind xC=r:=by rw[yQ h];exact k
theorem gH {f g:Sf}{ρ:List B}{d:D}(h:f ρ=some (.rt d)):zM f g ρ=some (.rt d):=by unfold zM;rw[h];rfl
theorem rN {g:Gf}{body:Sf}{d:D}{r:List D}{ρ ρ1 ρ2:List B}(h1:g d ρ=some ρ1)(h2:body ρ1=some (.nx ρ2)):rB g body (d::r) ρ=rB g body r ρ2:=by
 rw[rB,h1,Option.bind_some,h2,Option.bind_some]
theorem yA {f:Ef}{g:Lf}{ρ:List B}{d:D}{ds:List D}(h1:f ρ=some d)(h2:g ρ=some ds):zZ f g ρ=some (d::ds):=by unfold zZ;rw[h1,h2];rfl
theorem zZa {g:Lf}{ρ:List B}{ds:List D}(h:g ρ=some ds):eL g ρ=some (.lst ds):=by unfold eL;rw[h];rfl
theorem fK {n:Nat}{f:List D->Option D}{g:Lf}{ρ:List B}{ds:List D}(h:g ρ=some ds)(hl:ds.length=n):zO n f g ρ=f ds:=by unfold zO;rw[h,Option.bind_some,if_pos hl]
theorem zSE {c:Str}{ns:List Str}{n:Nat}{f:List D->Option (List D)}{g:Lf}{ρ:List B}{ds xs:List D}(h:g ρ=some ds)(hl:ds.length=n)(hf:f ds=some xs)(hn:ns.length=xs.length):bR c ns n f g ρ=some (.obj c ns xs):=by
 unfold bR;rw[h,Option.bind_some,if_pos hl,hf,Option.bind_some,if_pos hn]
theorem fM {g:Gf}{body:Sf}{P:List B->Prop}:∀(ds:List D),(∀d∈ds,∀ρ,P ρ->∃ρ1 ρ2,g d ρ=some ρ1/\body ρ1=some (.nx ρ2)/\P ρ2)->∀ρ,P ρ->∃ρ',rB g body ds ρ=some (.nx ρ')/\P ρ'
 | [],_,ρ,h=>⟨ρ,rfl,h⟩
 | d::r,hs,ρ,h=>by
   obtain⟨ρ1,ρ2,e1,e2,h2⟩:=hs d List.mem_cons_self ρ h
   obtain⟨ρ',e,h'⟩:=fM r (fun d hd=>hs d (List.mem_cons_of_mem _ hd)) ρ2 h2
   exact⟨ρ',by rw[rN e1 e2];exact e,h'⟩
theorem zW3 {lo:Int}{n:Nat}{d:D}(h:d∈tI lo n):∃i:Nat,i < n/\d = .int (lo+i):=by
 unfold tI at h
 obtain⟨i,hi,rfl⟩:=List.mem_map.mp h
 exact⟨i,List.mem_range.mp hi,rfl⟩
theorem rJ (lo:Int)(n:Nat):(tI lo n).length=n:=by simp[tI]
theorem fZ {elt:Ef}{h:D->D}{rest:List B}:∀(ds:List D) (x0:B) (acc:List D),(∀d∈ds,elt (.fz d::rest)=some (h d))->oA (gN 0) tOK elt ds (x0::rest) acc=some (acc++ds.map h)
 | [],_,acc,_=>by simp[oA]
 | d::r,x0,acc,hh=>by
   unfold oA
   have e1:gN 0 d (x0::rest)=some (.fz d::rest):=rfl
   have e2:tOK (.fz d::rest)=some true:=rfl
   rw[e1,Option.bind_some,e2,Option.bind_some,if_pos rfl,hh d List.mem_cons_self,Option.bind_some,fZ r _ _ fun q hq=>hh q (List.mem_cons_of_mem _ hq)]
   simp
theorem zWM {α:Type}(p:α->Bool):∀l:List α,zVQ (l.map fun c=>.bl (p c))=some (l.map p)
 | []=>rfl
 | x::r=>by rw[List.map_cons,zVQ,zWM p r];rfl
theorem zZL {t:List D}(h:t.length<=100000):okL t=some t:=by
 unfold okL
 rw[if_pos h]
theorem zZM {i j:Int}(h1 : -18446744073709551616 < i)(h2:i < 18446744073709551616):aT i j=true:=by
 unfold aT;simp only[Bool.or_eq_true,Bool.and_eq_true,decide_eq_true_eq];exact .inl ⟨by omega,by omega⟩
theorem zVx {i j:Int}(h1 : -18446744073709551616 < j)(h2:j < 18446744073709551616):aT i j=true:=by
 unfold aT;simp only[Bool.or_eq_true,Bool.and_eq_true,decide_eq_true_eq];exact .inr ⟨by omega,by omega⟩
end L2
noncomputable section
namespace My
open PySem L2
abbrev qC:Stmt:=top 52
abbrev pY:Stmt:=top 53
abbrev sC:Stmt:=top 59
abbrev tV:Stmt:=top 58
abbrev vG:Stmt:=top 56
abbrev vA:Stmt:=top 57
abbrev wG:Stmt:=top 55
abbrev wE:Stmt:=top 60
abbrev w4:Stmt:=top 63
abbrev xB:Stmt:=top 61
abbrev tT:Stmt:=top 62
abbrev tN:Stmt:=top 64
abbrev wB:Stmt:=top 28
abbrev qA:Stmt:=top 27
abbrev tL:Stmt:=top 47
abbrev sE:Stmt:=top 46
abbrev vD:Stmt:=top 9
abbrev tK:Stmt:=top 8
abbrev tO:Stmt:=top 48
abbrev dW:Stmt:=top 30
abbrev uY:Stmt:=top 45
abbrev lT:Stmt:=top 5
abbrev vZ:Stmt:=top 13
abbrev mL:Stmt:=top 16
abbrev mH:Stmt:=top 6
abbrev oX:Stmt:=top 4
abbrev pZ:Stmt:=top 14
abbrev sD:Stmt:=top 37
abbrev oU:Stmt:=top 35
abbrev sB:Stmt:=top 39
abbrev wS:Stmt:=top 40
abbrev mQ:Stmt:=top 49
abbrev sI:Stmt:=top 44
abbrev vY:Stmt:=top 51
abbrev vJ:Stmt:=top 65
abbrev tR:Stmt:=top 66
abbrev uZ:Stmt:=top 67
abbrev tM:Stmt:=top 34
abbrev rW:Stmt:=top 33
abbrev wH:Stmt:=top 68
abbrev vE:Stmt:=top 31
abbrev tS:Stmt:=top 32
abbrev mT:Stmt:=top 7
abbrev tU:Stmt:=top 15
abbrev vL:Stmt:=top 36
abbrev rY:Stmt:=top 54
abbrev mO:Stmt:=top 69
abbrev xG:Stmt:=top 70
abbrev fS:Stmt:=top 71
abbrev jL:Stmt:=vS (top 11) 0
abbrev mS:Stmt:=vS (top 12) 0
set_option genInjectivity false
set_option genSizeOf false
set_option genSizeOfSpec false
structure Txt (w:World)(K:PySem.W.Frag)(mg:Str->Option Value) where
 f_law_mix:Addr
 fd_law_mix:FuncData
 F_law_mix:Fun K "_law_mix" "_law_mix" qC f_law_mix fd_law_mix
 b_law_mix:Binds K fd_law_mix ["_law_cell","_law_factor"] []
 m_law_mix:mg "_law_mix"=some (.ref f_law_mix)
 f_law_cut:Addr
 fd_law_cut:FuncData
 F_law_cut:Fun K "_law_cut" "_law_cut" pY f_law_cut fd_law_cut
 b_law_cut:Binds K fd_law_cut ["_law_cell","_law_slot","_law_factor"] []
 m_law_cut:mg "_law_cut"=some (.ref f_law_cut)
 f_law_base:Addr
 fd_law_base:FuncData
 F_law_base:Fun K "_law_base" "_law_base" sC f_law_base fd_law_base
 b_law_base:Binds K fd_law_base ["_law_dims"] []
 m_law_base:mg "_law_base"=some (.ref f_law_base)
 f_law_turn:Addr
 fd_law_turn:FuncData
 F_law_turn:Fun K "_law_turn" "_law_turn" tV f_law_turn fd_law_turn
 b_law_turn:Binds K fd_law_turn ["_law_number_here","_law_dims"] []
 m_law_turn:mg "_law_turn"=some (.ref f_law_turn)
 f_law_after:Addr
 fd_law_after:FuncData
 F_law_after:Fun K "_law_after" "_law_after" vG f_law_after fd_law_after
 b_law_after:Binds K fd_law_after ["_law_one","_law_other"] []
 m_law_after:mg "_law_after"=some (.ref f_law_after)
 f_law_undone:Addr
 fd_law_undone:FuncData
 F_law_undone:Fun K "_law_undone" "_law_undone" vA f_law_undone fd_law_undone
 b_law_undone:Binds K fd_law_undone ["_law_turn_here"] []
 m_law_undone:mg "_law_undone"=some (.ref f_law_undone)
 f_law_turned:Addr
 fd_law_turned:FuncData
 F_law_turned:Fun K "_law_turned" "_law_turned" wG f_law_turned fd_law_turned
 b_law_turned:Binds K fd_law_turned ["_law_turn_here","_law_corner"] []
 m_law_turned:mg "_law_turned"=some (.ref f_law_turned)
 f_law_joined:Addr
 fd_law_joined:FuncData
 F_law_joined:Fun K "_law_joined" "_law_joined" wE f_law_joined fd_law_joined
 b_law_joined:Binds K fd_law_joined ["_law_dims","_law_number_here"] []
 m_law_joined:mg "_law_joined"=some (.ref f_law_joined)
 f_law_altered:Addr
 fd_law_altered:FuncData
 F_law_altered:Fun K "_law_altered" "_law_altered" w4 f_law_altered fd_law_altered
 b_law_altered:Binds K fd_law_altered ["_law_dims","_law_cell"] []
 m_law_altered:mg "_law_altered"=some (.ref f_law_altered)
 f_law_corners:Addr
 fd_law_corners:FuncData
 F_law_corners:Fun K "_law_corners" "_law_corners" xB f_law_corners fd_law_corners
 b_law_corners:Binds K fd_law_corners ["_law_dims"] []
 m_law_corners:mg "_law_corners"=some (.ref f_law_corners)
 f_law_loose:Addr
 fd_law_loose:FuncData
 F_law_loose:Fun K "_law_loose" "_law_loose" tT f_law_loose fd_law_loose
 b_law_loose:Binds K fd_law_loose ["_law_dims","_law_cell"] []
 m_law_loose:mg "_law_loose"=some (.ref f_law_loose)
 f_law_drawn:Addr
 fd_law_drawn:FuncData
 F_law_drawn:Fun K "_law_drawn" "_law_drawn" tN f_law_drawn fd_law_drawn
 b_law_drawn:Binds K fd_law_drawn ["_law_dims","_law_cell"] []
 m_law_drawn:mg "_law_drawn"=some (.ref f_law_drawn)
 f_is_made_of:Addr
 fd_is_made_of:FuncData
 F_is_made_of:Fun K "is_made_of" "is_made_of" wB f_is_made_of fd_is_made_of
 b_is_made_of:Binds K fd_is_made_of ["text","signs","longest"] []
 m_is_made_of:mg "is_made_of"=some (.ref f_is_made_of)
 f_is_word:Addr
 fd_is_word:FuncData
 F_is_word:Fun K "is_word" "is_word" qA f_is_word fd_is_word
 b_is_word:Binds K fd_is_word ["text"] []
 m_is_word:mg "is_word"=some (.ref f_is_word)
 f_read_head:Addr
 fd_read_head:FuncData
 F_read_head:Fun K "read_head" "read_head" tL f_read_head fd_read_head
 b_read_head:Binds K fd_read_head ["words"] []
 m_read_head:mg "read_head"=some (.ref f_read_head)
 f_words_at:Addr
 fd_words_at:FuncData
 F_words_at:Fun K "words_at" "words_at" sE f_words_at fd_words_at
 b_words_at:Binds K fd_words_at ["rows","row"] []
 m_words_at:mg "words_at"=some (.ref f_words_at)
 f_corner_of:Addr
 fd_corner_of:FuncData
 F_corner_of:Fun K "corner_of" "corner_of" vD f_corner_of fd_corner_of
 b_corner_of:Binds K fd_corner_of ["text","dims"] []
 m_corner_of:mg "corner_of"=some (.ref f_corner_of)
 f_turn_of:Addr
 fd_turn_of:FuncData
 F_turn_of:Fun K "turn_of" "turn_of" tK f_turn_of fd_turn_of
 b_turn_of:Binds K fd_turn_of ["text","dims"] []
 m_turn_of:mg "turn_of"=some (.ref f_turn_of)
 f_read_part:Addr
 fd_read_part:FuncData
 F_read_part:Fun K "read_part" "read_part" tO f_read_part fd_read_part
 b_read_part:Binds K fd_read_part ["words","dims","row"] []
 m_read_part:mg "read_part"=some (.ref f_read_part)
 f_full:Addr
 fd_full:FuncData
 F_full:Fun K "full" "full" dW f_full fd_full
 b_full:Binds K fd_full ["dims","level"] []
 m_full:mg "full"=some (.ref f_full)
 f_curve_from:Addr
 fd_curve_from:FuncData
 F_curve_from:Fun K "curve_from" "curve_from" uY f_curve_from fd_curve_from
 b_curve_from:Binds K fd_curve_from ["rows"] []
 m_curve_from:mg "curve_from"=some (.ref f_curve_from)
 f_still:Addr
 fd_still:FuncData
 F_still:Fun K "still" "still" lT f_still fd_still
 b_still:Binds K fd_still ["dims"] []
 m_still:mg "still"=some (.ref f_still)
 f_first_state:Addr
 fd_first_state:FuncData
 F_first_state:Fun K "first_state" "first_state" vZ f_first_state fd_first_state
 b_first_state:Binds K fd_first_state ["dims"] []
 m_first_state:mg "first_state"=some (.ref f_first_state)
 f_walked:Addr
 fd_walked:FuncData
 F_walked:Fun K "walked" "walked" mL f_walked fd_walked
 b_walked:Binds K fd_walked ["curve","back","number"] []
 m_walked:mg "walked"=some (.ref f_walked)
 f_after:Addr
 fd_after:FuncData
 F_after:Fun K "after" "after" mH f_after fd_after
 b_after:Binds K fd_after ["one","other"] []
 m_after:mg "after"=some (.ref f_after)
 f_turned:Addr
 fd_turned:FuncData
 F_turned:Fun K "turned" "turned" oX f_turned fd_turned
 b_turned:Binds K fd_turned ["turn","corner"] []
 m_turned:mg "turned"=some (.ref f_turned)
 f_part_at:Addr
 fd_part_at:FuncData
 F_part_at:Fun K "part_at" "part_at" pZ f_part_at fd_part_at
 b_part_at:Binds K fd_part_at ["curve","state","digit"] []
 m_part_at:mg "part_at"=some (.ref f_part_at)
 f_next_to:Addr
 fd_next_to:FuncData
 F_next_to:Fun K "next_to" "next_to" sD f_next_to fd_next_to
 b_next_to:Binds K fd_next_to ["one","other"] []
 m_next_to:mg "next_to"=some (.ref f_next_to)
 f_deeper:Addr
 fd_deeper:FuncData
 F_deeper:Fun K "deeper" "deeper" oU f_deeper fd_deeper
 b_deeper:Binds K fd_deeper ["place","corner"] []
 m_deeper:mg "deeper"=some (.ref f_deeper)
 f_unmet_at:Addr
 fd_unmet_at:FuncData
 F_unmet_at:Fun K "unmet_at" "unmet_at" sB f_unmet_at fd_unmet_at
 b_unmet_at:Binds K fd_unmet_at ["curve","first"] []
 m_unmet_at:mg "unmet_at"=some (.ref f_unmet_at)
 f_meeting_of:Addr
 fd_meeting_of:FuncData
 F_meeting_of:Fun K "meeting_of" "meeting_of" wS f_meeting_of fd_meeting_of
 b_meeting_of:Binds K fd_meeting_of ["curve"] []
 m_meeting_of:mg "meeting_of"=some (.ref f_meeting_of)
 f_fitted:Addr
 fd_fitted:FuncData
 F_fitted:Fun K "fitted" "fitted" mQ f_fitted fd_fitted
 b_fitted:Binds K fd_fitted ["curve"] []
 m_fitted:mg "fitted"=some (.ref f_fitted)
 f_curve_of:Addr
 fd_curve_of:FuncData
 F_curve_of:Fun K "curve_of" "curve_of" sI f_curve_of fd_curve_of
 b_curve_of:Binds K fd_curve_of ["text"] []
 m_curve_of:mg "curve_of"=some (.ref f_curve_of)
 f_law_cell_at:Addr
 fd_law_cell_at:FuncData
 F_law_cell_at:Fun K "_law_cell_at" "_law_cell_at" vY f_law_cell_at fd_law_cell_at
 b_law_cell_at:Binds K fd_law_cell_at ["_law_script","_law_k"] []
 m_law_cell_at:mg "_law_cell_at"=some (.ref f_law_cell_at)
 f_law_text:Addr
 fd_law_text:FuncData
 F_law_text:Fun K "_law_text" "_law_text" vJ f_law_text fd_law_text
 b_law_text:Binds K fd_law_text ["_law_dims","_law_joined_here","_law_parts"] []
 m_law_text:mg "_law_text"=some (.ref f_law_text)
 f_law_level:Addr
 fd_law_level:FuncData
 F_law_level:Fun K "_law_level" "_law_level" tR f_law_level fd_law_level
 b_law_level:Binds K fd_law_level ["_law_number_here"] []
 m_law_level:mg "_law_level"=some (.ref f_law_level)
 f_law_number:Addr
 fd_law_number:FuncData
 F_law_number:Fun K "_law_number" "_law_number" uZ f_law_number fd_law_number
 b_law_number:Binds K fd_law_number ["_law_cell","_law_dims","_law_level_here"] []
 m_law_number:mg "_law_number"=some (.ref f_law_number)
 f_digits_of:Addr
 fd_digits_of:FuncData
 F_digits_of:Fun K "digits_of" "digits_of" tM f_digits_of fd_digits_of
 b_digits_of:Binds K fd_digits_of ["number","base","many"] []
 m_digits_of:mg "digits_of"=some (.ref f_digits_of)
 f_place_at:Addr
 fd_place_at:FuncData
 F_place_at:Fun K "place_at" "place_at" rW f_place_at fd_place_at
 b_place_at:Binds K fd_place_at ["curve","level","number"] []
 m_place_at:mg "place_at"=some (.ref f_place_at)
 f_law_place:Addr
 fd_law_place:FuncData
 F_law_place:Fun K "_law_place" "_law_place" wH f_law_place fd_law_place
 b_law_place:Binds K fd_law_place ["_law_cell","_law_dims","_law_level_here"] []
 m_law_place:mg "_law_place"=some (.ref f_law_place)
 f_has_place:Addr
 fd_has_place:FuncData
 F_has_place:Fun K "has_place" "has_place" vE f_has_place fd_has_place
 b_has_place:Binds K fd_has_place ["dims","level","place"] []
 m_has_place:mg "has_place"=some (.ref f_has_place)
 f_ask_place:Addr
 fd_ask_place:FuncData
 F_ask_place:Fun K "ask_place" "ask_place" tS f_ask_place fd_ask_place
 b_ask_place:Binds K fd_ask_place ["dims","level","place"] []
 m_ask_place:mg "ask_place"=some (.ref f_ask_place)
 f_undone:Addr
 fd_undone:FuncData
 F_undone:Fun K "undone" "undone" mT f_undone fd_undone
 b_undone:Binds K fd_undone ["turn"] []
 m_undone:mg "undone"=some (.ref f_undone)
 f_digit_at:Addr
 fd_digit_at:FuncData
 F_digit_at:Fun K "digit_at" "digit_at" tU f_digit_at fd_digit_at
 b_digit_at:Binds K fd_digit_at ["curve","state","corner"] []
 m_digit_at:mg "digit_at"=some (.ref f_digit_at)
 f_number_at:Addr
 fd_number_at:FuncData
 F_number_at:Fun K "number_at" "number_at" vL f_number_at fd_number_at
 b_number_at:Binds K fd_number_at ["curve","level","place"] []
 m_number_at:mg "number_at"=some (.ref f_number_at)
 f_law_same:Addr
 fd_law_same:FuncData
 F_law_same:Fun K "_law_same" "_law_same" rY f_law_same fd_law_same
 b_law_same:Binds K fd_law_same ["_law_found","_law_due"] []
 m_law_same:mg "_law_same"=some (.ref f_law_same)
 f_law_on:Addr
 fd_law_on:FuncData
 F_law_on:Fun K "_law_on" "_law_on" mO f_law_on fd_law_on
 b_law_on:Binds K fd_law_on ["_law_place_here","_law_dims","_law_side"] []
 m_law_on:mg "_law_on"=some (.ref f_law_on)
 f_law_undone_both:Addr
 fd_law_undone_both:FuncData
 F_law_undone_both:Fun K "_law_undone_both" "_law_undone_both" xG f_law_undone_both fd_law_undone_both
 b_law_undone_both:Binds K fd_law_undone_both ["_law_curve","_law_dims","_law_level_here","_law_cell"] []
 m_law_undone_both:mg "_law_undone_both"=some (.ref f_law_undone_both)
 f_law:Addr
 fd_law:FuncData
 F_law:Fun K "law" "law" fS f_law fd_law
 zSl:Binds K fd_law ["_law_script"] []
 m_law:mg "law"=some (.ref f_law)
 C_Part:Addr
 fi_Part:Addr
 fdi_Part:FuncData
 ca_Part:ClsAt K "Part" C_Part
 cl_Part:Cls K C_Part
 mc_Part:mg "Part"=some (.ref C_Part)
 Fi_Part:Fun K "__init__" "Part.__init__" jL fi_Part fdi_Part
 bi_Part:Binds K fdi_Part ["self","corner","turn","back"] []
 mk_Part:Mk K C_Part fi_Part
 n_Part_back:NoAttr K C_Part "back"
 n_Part_corner:NoAttr K C_Part "corner"
 n_Part_turn:NoAttr K C_Part "turn"
 C_Curve:Addr
 fi_Curve:Addr
 fdi_Curve:FuncData
 ca_Curve:ClsAt K "Curve" C_Curve
 cl_Curve:Cls K C_Curve
 mc_Curve:mg "Curve"=some (.ref C_Curve)
 Fi_Curve:Fun K "__init__" "Curve.__init__" mS fi_Curve fdi_Curve
 bi_Curve:Binds K fdi_Curve ["self","name","dims","joined","parts"] []
 mk_Curve:Mk K C_Curve fi_Curve
 n_Curve_dims:NoAttr K C_Curve "dims"
 n_Curve_joined:NoAttr K C_Curve "joined"
 n_Curve_name:NoAttr K C_Curve "name"
 n_Curve_parts:NoAttr K C_Curve "parts"
 t_BITS:Tok
 c_BITS:mg "BITS"=some (.str "01" t_BITS)
 t_FLIPS:Tok
 c_FLIPS:mg "FLIPS"=some (.str "+-" t_FLIPS)
 t_AXES:Tok
 c_AXES:mg "AXES"=some (.str "xyz" t_AXES)
 t_LETTERS:Tok
 c_LETTERS:mg "LETTERS"=some (.str "abcdefghijklmnopqrstuvwxyz" t_LETTERS)
 t_LONGEST_WORD:Tok
 c_LONGEST_WORD:mg "LONGEST_WORD"=some (.int 12 t_LONGEST_WORD)
 da_PROMISES:Addr
 c_PROMISES:mg "PROMISES"=some (.ref da_PROMISES)
 dc_PROMISES:DictC w K da_PROMISES [("joined",.bl true),("loose",.bl false)]
 da_DIMS:Addr
 c_DIMS:mg "DIMS"=some (.ref da_DIMS)
 dc_DIMS:DictC w K da_DIMS [("2",.int 2),("3",.int 3)]
 z_abs:mg "abs"=none
 z_all:mg "all"=none
 z_bool:mg "bool"=none
 z_int:mg "int"=none
 z_isinstance:mg "isinstance"=none
 z_len:mg "len"=none
 z_list:mg "list"=none
 z_min:mg "min"=none
 z_range:mg "range"=none
 z_reversed:mg "reversed"=none
 z_sorted:mg "sorted"=none
 z_str:mg "str"=none
 z_sum:mg "sum"=none
 z_tuple:mg "tuple"=none
 z_zip:mg "zip"=none
set_option genInjectivity true
set_option genSizeOf true
set_option genSizeOfSpec true
section
seal PySem.Sem.wp
variable {P:Program} {w:World} {K:PySem.W.Frag} {mg:Str->Option Value} {base:Heap}
theorem zRN:FnScope ["self","corner","turn","back"] ["self","corner","turn","back"] (zX jL):=⟨rfl,rfl,rfl,by decide +kernel,rfl,by decide +kernel,by decide +kernel⟩
def zQX:Lf:=(zZ (eV 1) (zZ (eV 2) (zZ (eV 3) zS)))
def zUt:List D->Option (List D):=fun ds=>zQX (aO 4 ds)
theorem zRJ (T:Txt w K mg):FnOk P w K mg base CX0 1 T.fi_Part T.fdi_Part ["self","corner","turn","back"] (spI K T.C_Part ["corner","turn","back"] 3 zUt) :=
 zUz (k:=0) T.Fi_Part zRN (by decide +kernel) (by decide) fun cdv A outer s H E hr =>
   (pB T.cl_Part T.n_Part_corner rfl (Or.inl rfl) (zT 1) (pB T.cl_Part T.n_Part_turn rfl (Or.inl rfl) (zT 2) (pB T.cl_Part T.n_Part_back rfl (Or.inl rfl) (zT 3) zUj)))
theorem zTw:FnScope ["self","name","dims","joined","parts"] ["self","name","dims","joined","parts"] (zX mS):=⟨rfl,rfl,rfl,by decide +kernel,rfl,by decide +kernel,by decide +kernel⟩
def zS5:Lf:=(zZ (eV 1) (zZ (eV 2) (zZ (eV 3) (zZ (eL (gE (eV 4))) zS))))
def gK:List D->Option (List D):=fun ds=>zS5 (aO 5 ds)
theorem zTs (T:Txt w K mg):FnOk P w K mg base CX0 1 T.fi_Curve T.fdi_Curve ["self","name","dims","joined","parts"] (spI K T.C_Curve ["name","dims","joined","parts"] 4 gK) :=
 zUz (k:=0) T.Fi_Curve zTw (by decide +kernel) (by decide) fun cdv A outer s H E hr =>
   (pB T.cl_Curve T.n_Curve_name rfl (Or.inl rfl) (zT 1) (pB T.cl_Curve T.n_Curve_dims rfl (Or.inl rfl) (zT 2) (pB T.cl_Curve T.n_Curve_joined rfl (Or.inl rfl) (zT 3) (pB T.cl_Curve T.n_Curve_parts rfl (Or.inl rfl) (vP (zZh rfl T.z_list (zT 4))) zUj))))
theorem sc_law_mix:FnScope ["_law_cell","_law_factor","_law_mixed"] ["_law_cell","_law_factor"] (zX qC):=⟨rfl,rfl,rfl,by decide +kernel,rfl,by decide +kernel,by decide +kernel⟩
def jW:Sf:=(yY (vV (yG (pK (eV 2) (eV 2)) (eC (.int 2147483629))) (eC (.int 3))))
def cO:Sf:=(zM (zK 2 (yG (vT (pK (eV 0) (eV 1)) (eC (.int 12345))) (eC (.int 2147483647))))
   (jW))
def b_law_mix:Sf :=
   (cO)
def jH:List D->Option D:=fnF 3 b_law_mix
theorem zVt (T:Txt w K mg):FnOk P w K mg base CX0 1 T.f_law_mix T.fd_law_mix ["_law_cell","_law_factor"] (spF K 2 jH) :=
 xU (k:=0) T.F_law_mix sc_law_mix fun cdv A outer s H E hr =>
   (zV (f:=(zK 2 (yG (vT (pK (eV 0) (eV 1)) (eC (.int 12345))) (eC (.int 2147483647))))) (g:=(jW)) (zL 2 sc_law_mix.nd (xQ (uN (nS (zT 0) (zT 1)) zW) zW))
     (zR (zF (uL (xQ (nS (zT 2) (zT 2)) zW) zW))))
theorem zVq:FnScope ["_law_cell","_law_slot","_law_factor"] ["_law_cell","_law_slot","_law_factor"] (zX pY):=⟨rfl,rfl,rfl,by decide +kernel,rfl,by decide +kernel,by decide +kernel⟩
def oE:Sf:=(yY (zO 2 jH (zZ (vT (eV 0) (pK (eC (.int 31)) (eV 1))) (zZ (eV 2) zS))))
def jQ:Sf:=(zM (sIf (eB2 gGe (eV 0) (hJ (eC (.int 10)) (eC (.int 12)))) (yY (yG (aF (eV 0) (pK (eC (.int 30)) (eV 1))) (eC (.int 1073741824)))) yU)
   (oE))
def b_law_cut:Sf :=
   (jQ)
def xW:List D->Option D:=fnF 3 b_law_cut
theorem sA (T:Txt w K mg):FnOk P w K mg base CX0 2 T.f_law_cut T.fd_law_cut ["_law_cell","_law_slot","_law_factor"] (spF K 3 xW) :=
 xU (k:=1) T.F_law_cut zVq fun cdv A outer s H E hr =>
   (zV (f:=(sIf (eB2 gGe (eV 0) (hJ (eC (.int 10)) (eC (.int 12)))) (yY (yG (aF (eV 0) (pK (eC (.int 30)) (eV 1))) (eC (.int 1073741824)))) yU)) (g:=(oE)) (yR (yT zSB (zT 0) (zZU zW zW)) (zR (zF (xQ (zXl (zT 0) (nS zW (zT 1))) zW))) zB)
     (zR (zF (zJ (zVt T) (hr.mono (by omega)) T.m_law_mix T.F_law_mix.kp T.b_law_mix rfl (zY (uN (zT 0) (nS zW (zT 1))) (zY (zT 2) zU))))))
theorem sc_law_base:FnScope ["_law_dims","_law_plain","_law_parts"] ["_law_dims"] (zX sC):=⟨rfl,rfl,rfl,by decide +kernel,rfl,by decide +kernel,by decide +kernel⟩
def gG:Sf:=(oO 2 (qL (hG (iL (eV 2)) (yO (zZ (zI (zZ (zI (zZ (eC (.int 1)) (zZ (eC (.int 0)) (zZ (eC (.int 0)) zS)))) (zZ (zI (zZ (zI (zZ (eC (.int 1)) (zZ (eC (.int 1)) zS))) (zZ (zI (zZ (eC (.int 0)) (zZ (eC (.int 1)) zS))) (zZ (zI (zZ (eC (.int 2)) (zZ (eC (.int 0)) zS))) zS)))) zS))) zS)))))
def fR:Sf:=(zM (oO 2 (xF 2 (hG (iL (eV 2)) (yO (zZ (zI (zZ (zI (zZ (eC (.int 1)) (zZ (eC (.int 1)) (zZ (eC (.int 1)) zS)))) (zZ (eV 1) zS))) (zZ (zI (zZ (zI (zZ (eC (.int 1)) (zZ (eC (.int 1)) (zZ (eC (.int 0)) zS)))) (zZ (zI (zZ (zI (zZ (eC (.int 1)) (zZ (eC (.int 1)) zS))) (zZ (zI (zZ (eC (.int 2)) (zZ (eC (.int 0)) zS))) (zZ (zI (zZ (eC (.int 0)) (zZ (eC (.int 1)) zS))) zS)))) zS))) zS))))))
   (gG))
def fH:Sf:=(zM (oO 2 (xF 2 (hG (iL (eV 2)) (yO (zZ (zI (zZ (zI (zZ (eC (.int 0)) (zZ (eC (.int 0)) (zZ (eC (.int 1)) zS)))) (zZ (zI (zZ (zI (zZ (eC (.int 1)) (zZ (eC (.int 1)) zS))) (zZ (zI (zZ (eC (.int 2)) (zZ (eC (.int 1)) zS))) (zZ (zI (zZ (eC (.int 0)) (zZ (eC (.int 0)) zS))) zS)))) zS))) (zZ (zI (zZ (zI (zZ (eC (.int 1)) (zZ (eC (.int 0)) (zZ (eC (.int 1)) zS)))) (zZ (zI (zZ (zI (zZ (eC (.int 1)) (zZ (eC (.int 0)) zS))) (zZ (zI (zZ (eC (.int 2)) (zZ (eC (.int 1)) zS))) (zZ (zI (zZ (eC (.int 0)) (zZ (eC (.int 1)) zS))) zS)))) zS))) zS))))))
   (fR))
def gB:Sf:=(zM (xF 2 (yO (zZ (zI (zZ (zI (zZ (eC (.int 0)) (zZ (eC (.int 0)) (zZ (eC (.int 0)) zS)))) (zZ (zI (zZ (zI (zZ (eC (.int 1)) (zZ (eC (.int 0)) zS))) (zZ (zI (zZ (eC (.int 0)) (zZ (eC (.int 0)) zS))) (zZ (zI (zZ (eC (.int 2)) (zZ (eC (.int 0)) zS))) zS)))) zS))) (zZ (zI (zZ (zI (zZ (eC (.int 0)) (zZ (eC (.int 1)) (zZ (eC (.int 0)) zS)))) (zZ (zI (zZ (zI (zZ (eC (.int 1)) (zZ (eC (.int 0)) zS))) (zZ (zI (zZ (eC (.int 2)) (zZ (eC (.int 0)) zS))) (zZ (zI (zZ (eC (.int 0)) (zZ (eC (.int 0)) zS))) zS)))) zS))) (zZ (zI (zZ (zI (zZ (eC (.int 0)) (zZ (eC (.int 1)) (zZ (eC (.int 1)) zS)))) (zZ (eV 1) zS))) zS)))))
   (fH))
def gI:Sf:=(zM (zK 1 (zI (zZ (zI (zZ (eC (.int 0)) (zZ (eC (.int 0)) zS))) (zZ (zI (zZ (eC (.int 1)) (zZ (eC (.int 0)) zS))) (zZ (zI (zZ (eC (.int 2)) (zZ (eC (.int 0)) zS))) zS)))))
   (gB))
def zX9:Sf:=(zM (sIf (eB2 gEq (eV 0) (eC (.int 2))) (zM (zK 1 (zI (zZ (zI (zZ (eC (.int 0)) (zZ (eC (.int 0)) zS))) (zZ (zI (zZ (eC (.int 1)) (zZ (eC (.int 0)) zS))) zS))))
   (zM (xF 2 (yO (zZ (zI (zZ (zI (zZ (eC (.int 0)) (zZ (eC (.int 0)) zS))) (zZ (zI (zZ (zI (zZ (eC (.int 1)) (zZ (eC (.int 0)) zS))) (zZ (zI (zZ (eC (.int 0)) (zZ (eC (.int 0)) zS))) zS))) zS))) (zZ (zI (zZ (zI (zZ (eC (.int 0)) (zZ (eC (.int 1)) zS))) (zZ (eV 1) zS))) (zZ (zI (zZ (zI (zZ (eC (.int 1)) (zZ (eC (.int 1)) zS))) (zZ (eV 1) zS))) (zZ (zI (zZ (zI (zZ (eC (.int 1)) (zZ (eC (.int 0)) zS))) (zZ (zI (zZ (zI (zZ (eC (.int 1)) (zZ (eC (.int 1)) zS))) (zZ (zI (zZ (eC (.int 0)) (zZ (eC (.int 1)) zS))) zS))) zS))) zS))))))
   (dL 2))) yU)
   (gI))
def b_law_base:Sf :=
   (zX9)
def lQ:List D->Option (List D):=fnL 3 b_law_base
theorem zWS (T:Txt w K mg):FnOk P w K mg base CX0 1 T.f_law_base T.fd_law_base ["_law_dims"] (spL K 1 lQ) :=
 jR (k:=0) T.F_law_base sc_law_base fun cdv A outer s H E hr =>
   (zV (f:=(sIf (eB2 gEq (eV 0) (eC (.int 2))) (zM (zK 1 (zI (zZ (zI (zZ (eC (.int 0)) (zZ (eC (.int 0)) zS))) (zZ (zI (zZ (eC (.int 1)) (zZ (eC (.int 0)) zS))) zS))))
   (zM (xF 2 (yO (zZ (zI (zZ (zI (zZ (eC (.int 0)) (zZ (eC (.int 0)) zS))) (zZ (zI (zZ (zI (zZ (eC (.int 1)) (zZ (eC (.int 0)) zS))) (zZ (zI (zZ (eC (.int 0)) (zZ (eC (.int 0)) zS))) zS))) zS))) (zZ (zI (zZ (zI (zZ (eC (.int 0)) (zZ (eC (.int 1)) zS))) (zZ (eV 1) zS))) (zZ (zI (zZ (zI (zZ (eC (.int 1)) (zZ (eC (.int 1)) zS))) (zZ (eV 1) zS))) (zZ (zI (zZ (zI (zZ (eC (.int 1)) (zZ (eC (.int 0)) zS))) (zZ (zI (zZ (zI (zZ (eC (.int 1)) (zZ (eC (.int 1)) zS))) (zZ (zI (zZ (eC (.int 0)) (zZ (eC (.int 1)) zS))) zS))) zS))) zS))))))
   (dL 2))) yU)) (g:=(gI)) (yR (yT tP (zT 0) zW) (zV (zL 1 sc_law_base.nd (zH (zY (zH (zY zW (zY zW zU))) (zY (zH (zY zW (zY zW zU))) zU))))
     (zV (tW 2 sc_law_base.nd (xX (zY (zH (zY (zH (zY zW (zY zW zU))) (zY (zH (zY (zH (zY zW (zY zW zU))) (zY (zH (zY zW (zY zW zU))) zU))) zU))) (zY (zH (zY (zH (zY zW (zY zW zU))) (zY (zT 1) zU))) (zY (zH (zY (zH (zY zW (zY zW zU))) (zY (zT 1) zU))) (zY (zH (zY (zH (zY zW (zY zW zU))) (zY (zH (zY (zH (zY zW (zY zW zU))) (zY (zH (zY zW (zY zW zU))) zU))) zU))) zU))))))
     (zR (fA 2)))) zB)
     (zV (f:=(zK 1 (zI (zZ (zI (zZ (eC (.int 0)) (zZ (eC (.int 0)) zS))) (zZ (zI (zZ (eC (.int 1)) (zZ (eC (.int 0)) zS))) (zZ (zI (zZ (eC (.int 2)) (zZ (eC (.int 0)) zS))) zS)))))) (g:=(gB)) (zL 1 sc_law_base.nd (zH (zY (zH (zY zW (zY zW zU))) (zY (zH (zY zW (zY zW zU))) (zY (zH (zY zW (zY zW zU))) zU)))))
     (zV (f:=(xF 2 (yO (zZ (zI (zZ (zI (zZ (eC (.int 0)) (zZ (eC (.int 0)) (zZ (eC (.int 0)) zS)))) (zZ (zI (zZ (zI (zZ (eC (.int 1)) (zZ (eC (.int 0)) zS))) (zZ (zI (zZ (eC (.int 0)) (zZ (eC (.int 0)) zS))) (zZ (zI (zZ (eC (.int 2)) (zZ (eC (.int 0)) zS))) zS)))) zS))) (zZ (zI (zZ (zI (zZ (eC (.int 0)) (zZ (eC (.int 1)) (zZ (eC (.int 0)) zS)))) (zZ (zI (zZ (zI (zZ (eC (.int 1)) (zZ (eC (.int 0)) zS))) (zZ (zI (zZ (eC (.int 2)) (zZ (eC (.int 0)) zS))) (zZ (zI (zZ (eC (.int 0)) (zZ (eC (.int 0)) zS))) zS)))) zS))) (zZ (zI (zZ (zI (zZ (eC (.int 0)) (zZ (eC (.int 1)) (zZ (eC (.int 1)) zS)))) (zZ (eV 1) zS))) zS)))))) (g:=(fH)) (tW 2 sc_law_base.nd (xX (zY (zH (zY (zH (zY zW (zY zW (zY zW zU)))) (zY (zH (zY (zH (zY zW (zY zW zU))) (zY (zH (zY zW (zY zW zU))) (zY (zH (zY zW (zY zW zU))) zU)))) zU))) (zY (zH (zY (zH (zY zW (zY zW (zY zW zU)))) (zY (zH (zY (zH (zY zW (zY zW zU))) (zY (zH (zY zW (zY zW zU))) (zY (zH (zY zW (zY zW zU))) zU)))) zU))) (zY (zH (zY (zH (zY zW (zY zW (zY zW zU)))) (zY (zT 1) zU))) zU)))))
     (zV (f:=(oO 2 (xF 2 (hG (iL (eV 2)) (yO (zZ (zI (zZ (zI (zZ (eC (.int 0)) (zZ (eC (.int 0)) (zZ (eC (.int 1)) zS)))) (zZ (zI (zZ (zI (zZ (eC (.int 1)) (zZ (eC (.int 1)) zS))) (zZ (zI (zZ (eC (.int 2)) (zZ (eC (.int 1)) zS))) (zZ (zI (zZ (eC (.int 0)) (zZ (eC (.int 0)) zS))) zS)))) zS))) (zZ (zI (zZ (zI (zZ (eC (.int 1)) (zZ (eC (.int 0)) (zZ (eC (.int 1)) zS)))) (zZ (zI (zZ (zI (zZ (eC (.int 1)) (zZ (eC (.int 0)) zS))) (zZ (zI (zZ (eC (.int 2)) (zZ (eC (.int 1)) zS))) (zZ (zI (zZ (eC (.int 0)) (zZ (eC (.int 1)) zS))) zS)))) zS))) zS))))))) (g:=(fR)) (sM 2 (tW 2 sc_law_base.nd (zXq (fV (zT 2)) (bE (xX (zY (zH (zY (zH (zY zW (zY zW (zY zW zU)))) (zY (zH (zY (zH (zY zW (zY zW zU))) (zY (zH (zY zW (zY zW zU))) (zY (zH (zY zW (zY zW zU))) zU)))) zU))) (zY (zH (zY (zH (zY zW (zY zW (zY zW zU)))) (zY (zH (zY (zH (zY zW (zY zW zU))) (zY (zH (zY zW (zY zW zU))) (zY (zH (zY zW (zY zW zU))) zU)))) zU))) zU)))))))
     (zV (f:=(oO 2 (xF 2 (hG (iL (eV 2)) (yO (zZ (zI (zZ (zI (zZ (eC (.int 1)) (zZ (eC (.int 1)) (zZ (eC (.int 1)) zS)))) (zZ (eV 1) zS))) (zZ (zI (zZ (zI (zZ (eC (.int 1)) (zZ (eC (.int 1)) (zZ (eC (.int 0)) zS)))) (zZ (zI (zZ (zI (zZ (eC (.int 1)) (zZ (eC (.int 1)) zS))) (zZ (zI (zZ (eC (.int 2)) (zZ (eC (.int 0)) zS))) (zZ (zI (zZ (eC (.int 0)) (zZ (eC (.int 1)) zS))) zS)))) zS))) zS))))))) (g:=(gG)) (sM 2 (tW 2 sc_law_base.nd (zXq (fV (zT 2)) (bE (xX (zY (zH (zY (zH (zY zW (zY zW (zY zW zU)))) (zY (zT 1) zU))) (zY (zH (zY (zH (zY zW (zY zW (zY zW zU)))) (zY (zH (zY (zH (zY zW (zY zW zU))) (zY (zH (zY zW (zY zW zU))) (zY (zH (zY zW (zY zW zU))) zU)))) zU))) zU)))))))
     (zR (sM 2 (jK (zXq (fV (zT 2)) (bE (xX (zY (zH (zY (zH (zY zW (zY zW (zY zW zU)))) (zY (zH (zY (zH (zY zW (zY zW zU))) (zY (zH (zY zW (zY zW zU))) (zY (zH (zY zW (zY zW zU))) zU)))) zU))) zU))))))))))))
theorem sc_law_turn:FnScope ["_law_number_here","_law_dims","_law_axes"] ["_law_number_here","_law_dims"] (zX tV):=⟨rfl,rfl,rfl,by decide +kernel,rfl,by decide +kernel,by decide +kernel⟩
def uU:Sf:=(yY (xR (eL (yV (iR (eV 1)) 1 [2,0] (gN 0) tOK (zI (zZ (eIx (eV 1) (eV 0)) (zZ (yG (vV (eV 2) (eIx (eL (yO (zZ (eC (.int 1)) (zZ (eC (.int 2)) (zZ (eC (.int 4)) zS))))) (eV 0))) (eC (.int 2))) zS)))))))
def sP:Sf:=(zM (sIf (eB2 gEq (eV 1) (eC (.int 3))) (zK 2 (eIx (eL (yO (zZ (eL (yO (zZ (eC (.int 0)) (zZ (eC (.int 1)) (zZ (eC (.int 2)) zS))))) (zZ (eL (yO (zZ (eC (.int 0)) (zZ (eC (.int 2)) (zZ (eC (.int 1)) zS))))) (zZ (eL (yO (zZ (eC (.int 1)) (zZ (eC (.int 0)) (zZ (eC (.int 2)) zS))))) (zZ (eL (yO (zZ (eC (.int 1)) (zZ (eC (.int 2)) (zZ (eC (.int 0)) zS))))) (zZ (eL (yO (zZ (eC (.int 2)) (zZ (eC (.int 0)) (zZ (eC (.int 1)) zS))))) (zZ (eL (yO (zZ (eC (.int 2)) (zZ (eC (.int 1)) (zZ (eC (.int 0)) zS))))) zS)))))))) (yG (vV (eV 0) (eC (.int 8))) (eC (.int 6))))) (sIf (eB2 gEq (yG (vV (eV 0) (eC (.int 8))) (eC (.int 2))) (eC (.int 1))) (zK 2 (eL (yO (zZ (eC (.int 1)) (zZ (eC (.int 0)) zS))))) yU))
   (uU))
def qJ:Sf:=(zM (zK 2 (eL (yO (zZ (eC (.int 0)) (zZ (eC (.int 1)) zS)))))
   (sP))
def b_law_turn:Sf :=
   (qJ)
def xV:List D->Option D:=fnF 3 b_law_turn
theorem jV (T:Txt w K mg):FnOk P w K mg base CX0 1 T.f_law_turn T.fd_law_turn ["_law_number_here","_law_dims"] (spF K 2 xV) :=
 xU (k:=0) T.F_law_turn sc_law_turn fun cdv A outer s H E hr =>
   (zV (f:=(zK 2 (eL (yO (zZ (eC (.int 0)) (zZ (eC (.int 1)) zS)))))) (g:=(sP)) (zL 2 sc_law_turn.nd (vP (xX (zY zW (zY zW zU)))))
     (zV (f:=(sIf (eB2 gEq (eV 1) (eC (.int 3))) (zK 2 (eIx (eL (yO (zZ (eL (yO (zZ (eC (.int 0)) (zZ (eC (.int 1)) (zZ (eC (.int 2)) zS))))) (zZ (eL (yO (zZ (eC (.int 0)) (zZ (eC (.int 2)) (zZ (eC (.int 1)) zS))))) (zZ (eL (yO (zZ (eC (.int 1)) (zZ (eC (.int 0)) (zZ (eC (.int 2)) zS))))) (zZ (eL (yO (zZ (eC (.int 1)) (zZ (eC (.int 2)) (zZ (eC (.int 0)) zS))))) (zZ (eL (yO (zZ (eC (.int 2)) (zZ (eC (.int 0)) (zZ (eC (.int 1)) zS))))) (zZ (eL (yO (zZ (eC (.int 2)) (zZ (eC (.int 1)) (zZ (eC (.int 0)) zS))))) zS)))))))) (yG (vV (eV 0) (eC (.int 8))) (eC (.int 6))))) (sIf (eB2 gEq (yG (vV (eV 0) (eC (.int 8))) (eC (.int 2))) (eC (.int 1))) (zK 2 (eL (yO (zZ (eC (.int 1)) (zZ (eC (.int 0)) zS))))) yU))) (g:=(uU)) (yR (yT tP (zT 1) zW) (zR (zL 2 sc_law_turn.nd (xO (vP (xX (zY (vP (xX (zY zW (zY zW (zY zW zU))))) (zY (vP (xX (zY zW (zY zW (zY zW zU))))) (zY (vP (xX (zY zW (zY zW (zY zW zU))))) (zY (vP (xX (zY zW (zY zW (zY zW zU))))) (zY (vP (xX (zY zW (zY zW (zY zW zU))))) (zY (vP (xX (zY zW (zY zW (zY zW zU))))) zU)))))))) (xQ (uL (zT 0) zW) zW)))) (zR (yR (yT tP (xQ (uL (zT 0) zW) zW) zW) (zR (zL 2 sc_law_turn.nd (vP (xX (zY zW (zY zW zU)))))) zB)))
     (zR (zF (wR rfl T.z_tuple (vP (xE (zX tV) ["_law_number_here","_law_dims","_law_axes"] ["_law_k"] ["_law_axes","_law_number_here"] [2,0] (uJ 0) (fE rfl T.z_range (zT 1)) rfl rfl rfl (by decide +kernel) (fun _ _ _ _=>(yC 0 (show(List.Nodup (α:=PySem.Str) ["_law_k","_law_axes","_law_number_here"]) from by decide +kernel))) (fun _ _ _ _=>yJ) (fun _ _ _ _=>(zH (zY (xO (zT 1) (zT 0)) (zY (xQ (uL (zT 2) (xO (vP (xX (zY zW (zY zW (zY zW zU))))) (zT 0))) zW) zU)))))))))))
theorem zYb:FnScope ["_law_one","_law_other"] ["_law_one","_law_other"] (zX vG):=⟨rfl,rfl,rfl,by decide +kernel,rfl,by decide +kernel,by decide +kernel⟩
def zZq:Sf:=(yY (xR (eL (yV (iT (eV 0)) 2 [1] (gT (zN (gN 0) (zN (gN 1) yM))) tOK (zI (zZ (eIx (eIx (eV 2) (eV 0)) (eC (.int 0))) (zZ (zX6 (eIx (eIx (eV 2) (eV 0)) (eC (.int 1))) (eV 1)) zS)))))))
def b_law_after:Sf :=
   (zZq)
def xT:List D->Option D:=fnF 2 b_law_after
theorem tG (T:Txt w K mg):FnOk P w K mg base CX0 1 T.f_law_after T.fd_law_after ["_law_one","_law_other"] (spF K 2 xT) :=
 xU (k:=0) T.F_law_after zYb fun cdv A outer s H E hr =>
   (zR (zF (wR rfl T.z_tuple (vP (xE (zX vG) ["_law_one","_law_other"] ["_law_axis","_law_flip"] ["_law_other"] [1] (zXA (xL (uJ 0) (xL (uJ 1) qI))) (zYl (zT 0)) rfl rfl rfl (by decide +kernel) (fun _ _ _ _=>(oP 2 rfl (zG (yC 0 (show(List.Nodup (α:=PySem.Str) ["_law_axis","_law_flip","_law_other"]) from by decide +kernel)) (zG (yC 1 (show(List.Nodup (α:=PySem.Str) ["_law_axis","_law_flip","_law_other"]) from by decide +kernel)) xZ)) (yZ (yZ xN)))) (fun _ _ _ _=>yJ) (fun _ _ _ _=>(zH (zY (xO (xO (zT 2) (zT 0)) zW) (zY (zYr (xO (xO (zT 2) (zT 0)) zW) (zT 1)) zU)))))))))
theorem sc_law_undone:FnScope ["_law_turn_here","_law_back","_law_k"] ["_law_turn_here"] (zX vA):=⟨rfl,rfl,rfl,by decide +kernel,rfl,by decide +kernel,by decide +kernel⟩
def kW:Sf:=(iK 1 (eIx (eIx (eV 0) (eV 2)) (eC (.int 0))) (zI (zZ (eV 2) (zZ (eIx (eIx (eV 0) (eV 2)) (eC (.int 1))) zS))))
def jN:Sf:=(oO 1 (yY (xR (eV 1))))
def kD:Sf:=(zM (wX (iR (xP (eV 0))) (gN 2) (kW))
   (jN))
def zZG:Sf:=(zM (xF 1 (zQR (yO (zZ (eC .non) zS)) (xP (eV 0))))
   (kD))
def b_law_undone:Sf :=
   (zZG)
def wQ:List D->Option D:=fnF 3 b_law_undone
theorem jC (T:Txt w K mg):FnOk P w K mg base CX0 1 T.f_law_undone T.fd_law_undone ["_law_turn_here"] (spF K 1 wQ) :=
 xU (k:=0) T.F_law_undone sc_law_undone fun cdv A outer s H E hr =>
   (zV (f:=(xF 1 (zQR (yO (zZ (eC .non) zS)) (xP (eV 0))))) (g:=(kD)) (tW 1 sc_law_undone.nd (zPB (xX (zY sV zU)) (wU rfl T.z_len (zT 0))))
     (zV (f:=(wX (iR (xP (eV 0))) (gN 2) (kW))) (g:=(jN)) (vQ PassesOwn.never rfl (fE rfl T.z_range (wU rfl T.z_len (zT 0))) (yC 2 sc_law_undone.nd) (zR (bX 1 (zH (zY (zT 2) (zY (xO (xO (zT 0) (zT 2)) zW) zU))) (xO (xO (zT 0) (zT 2)) zW))))
     (zR (sM 1 (zF (wR rfl T.z_tuple (zT 1)))))))
theorem zZ8:FnScope ["_law_turn_here","_law_corner"] ["_law_turn_here","_law_corner"] (zX wG):=⟨rfl,rfl,rfl,by decide +kernel,rfl,by decide +kernel,by decide +kernel⟩
def aV:Sf:=(yY (xR (eL (yV (iT (eV 0)) 2 [1] (gT (zN (gN 0) (zN (gN 1) yM))) tOK (zX6 (eIx (eV 2) (eV 0)) (eV 1))))))
def b_law_turned:Sf :=
   (aV)
def sS:List D->Option D:=fnF 2 b_law_turned
theorem zZs (T:Txt w K mg):FnOk P w K mg base CX0 1 T.f_law_turned T.fd_law_turned ["_law_turn_here","_law_corner"] (spF K 2 sS) :=
 xU (k:=0) T.F_law_turned zZ8 fun cdv A outer s H E hr =>
   (zR (zF (wR rfl T.z_tuple (vP (xE (zX wG) ["_law_turn_here","_law_corner"] ["_law_axis","_law_flip"] ["_law_corner"] [1] (zXA (xL (uJ 0) (xL (uJ 1) qI))) (zYl (zT 0)) rfl rfl rfl (by decide +kernel) (fun _ _ _ _=>(oP 2 rfl (zG (yC 0 (show(List.Nodup (α:=PySem.Str) ["_law_axis","_law_flip","_law_corner"]) from by decide +kernel)) (zG (yC 1 (show(List.Nodup (α:=PySem.Str) ["_law_axis","_law_flip","_law_corner"]) from by decide +kernel)) xZ)) (yZ (yZ xN)))) (fun _ _ _ _=>yJ) (fun _ _ _ _=>(zYr (xO (zT 2) (zT 0)) (zT 1))))))))
theorem sc_law_joined:FnScope ["_law_dims","_law_number_here","_law_base_here","_law_turn_here","_law_mirror","_law_parts","_law_bits","_law_corner","_law_inner","_law_lies"] ["_law_dims","_law_number_here"] (zX wE):=⟨rfl,rfl,rfl,by decide +kernel,rfl,by decide +kernel,by decide +kernel⟩
def lA:Sf:=(zK 6 (vV (eV 6) (eC (.int 2))))
def tX:Sf:=(zM (hW 5 (zI (zZ (zO 2 sS (zZ (eV 3) (zZ (eV 7) zS))) (zZ (eV 9) (zZ (xJ (eB2 gEq (yG (eV 6) (eC (.int 2))) (eC (.int 1)))) zS)))))
   (lA))
def qY:Sf:=(zM (sIf (eB2 gEq (yG (eV 6) (eC (.int 2))) (eC (.int 1))) (zK 9 (zO 2 xT (zZ (eV 9) (zZ (eV 4) zS)))) yU)
   (tX))
def wT:Sf:=(zM (zK 9 (zO 2 xT (zZ (eV 3) (zZ (zO 2 xT (zZ (eV 8) (zZ (zO 1 wQ (zZ (eV 3) zS)) zS))) zS))))
   (qY))
def kE:Sf:=(dL 5)
def pM:Sf:=(zM (wX (iL (eV 2)) (gT (zN (gN 7) (zN (gN 8) yM))) (wT))
   (kE))
def pV:Sf:=(zM (zK 6 (vV (eV 1) (eC (.int 96))))
   (pM))
def oV:Sf:=(zM (xF 5 (yO zS))
   (pV))
def oZ:Sf:=(zM (zK 4 (zO 2 xT (zZ (eV 3) (zZ (zO 2 xT (zZ (eV 4) (zZ (zO 1 wQ (zZ (eV 3) zS)) zS))) zS))))
   (oV))
def tE:Sf:=(zM (zK 4 (xR (eL (yV (iR (eV 0)) 1 [] (gN 0) tOK (zI (zZ (eV 0) (zZ (hZ (xJ (eB2 gEq (eV 0) (eC (.int 0))))) zS)))))))
   (oZ))
def oY:Sf:=(zM (sIf (eB2 gEq (yG (vV (eV 1) (eC (.int 48))) (eC (.int 2))) (eC (.int 1))) (zK 2 (eL (zYf (iL (eV 2))))) yU)
   (tE))
def pH:Sf:=(zM (zK 3 (zO 2 xV (zZ (eV 1) (zZ (eV 0) zS))))
   (oY))
def pS:Sf:=(zM (zK 2 (eL (wZ 1 lQ (zZ (eV 0) zS))))
   (pH))
def b_law_joined:Sf :=
   (pS)
def wD:List D->Option (List D):=fnL 10 b_law_joined
theorem jA (T:Txt w K mg):FnOk P w K mg base CX0 2 T.f_law_joined T.fd_law_joined ["_law_dims","_law_number_here"] (spL K 2 wD) :=
 jR (k:=1) T.F_law_joined sc_law_joined fun cdv A outer s H E hr =>
   (zV (f:=(zK 2 (eL (wZ 1 lQ (zZ (eV 0) zS))))) (g:=(pH)) (zL 2 sc_law_joined.nd (vP (rO (zWS T) (hr.mono (by omega)) T.m_law_base T.F_law_base.kp T.b_law_base rfl (zY (zT 0) zU))))
     (zV (f:=(zK 3 (zO 2 xV (zZ (eV 1) (zZ (eV 0) zS))))) (g:=(oY)) (zL 3 sc_law_joined.nd (zJ (jV T) (hr.mono (by omega)) T.m_law_turn T.F_law_turn.kp T.b_law_turn rfl (zY (zT 1) (zY (zT 0) zU))))
     (zV (f:=(sIf (eB2 gEq (yG (vV (eV 1) (eC (.int 48))) (eC (.int 2))) (eC (.int 1))) (zK 2 (eL (zYf (iL (eV 2))))) yU)) (g:=(tE)) (yR (yT tP (xQ (uL (zT 1) zW) zW) zW) (zR (zL 2 sc_law_joined.nd (vP (zVP rfl rfl T.z_list rfl T.z_reversed (fV (zT 2)))))) zB)
     (zV (f:=(zK 4 (xR (eL (yV (iR (eV 0)) 1 [] (gN 0) tOK (zI (zZ (eV 0) (zZ (hZ (xJ (eB2 gEq (eV 0) (eC (.int 0))))) zS)))))))) (g:=(oZ)) (zL 4 sc_law_joined.nd (wR rfl T.z_tuple (vP (xE (zX wE) ["_law_dims","_law_number_here","_law_base_here","_law_turn_here","_law_mirror","_law_parts","_law_bits","_law_corner","_law_inner","_law_lies"] ["_law_axis"] [] [] (uJ 0) (fE rfl T.z_range (zT 0)) rfl rfl rfl (by decide +kernel) (fun _ _ _ _=>(yC 0 (show(List.Nodup (α:=PySem.Str) ["_law_axis"]) from by decide +kernel))) (fun _ _ _ _=>yJ) (fun _ _ _ _=>(zH (zY (zT 0) (zY (zWP rfl T.z_int (uM tP (zT 0) zW)) zU))))))))
     (zV (f:=(zK 4 (zO 2 xT (zZ (eV 3) (zZ (zO 2 xT (zZ (eV 4) (zZ (zO 1 wQ (zZ (eV 3) zS)) zS))) zS))))) (g:=(oV)) (zL 4 sc_law_joined.nd (zJ (tG T) (hr.mono (by omega)) T.m_law_after T.F_law_after.kp T.b_law_after rfl (zY (zT 3) (zY (zJ (tG T) (hr.mono (by omega)) T.m_law_after T.F_law_after.kp T.b_law_after rfl (zY (zT 4) (zY (zJ (jC T) (hr.mono (by omega)) T.m_law_undone T.F_law_undone.kp T.b_law_undone rfl (zY (zT 3) zU)) zU))) zU))))
     (zV (f:=(xF 5 (yO zS))) (g:=(pV)) (tW 5 sc_law_joined.nd (xX zU))
     (zV (f:=(zK 6 (vV (eV 1) (eC (.int 96))))) (g:=(pM)) (zL 6 sc_law_joined.nd (uL (zT 1) zW))
     (zV (f:=(wX (iL (eV 2)) (gT (zN (gN 7) (zN (gN 8) yM))) (wT))) (g:=(kE)) (vQ PassesOwn.never rfl (zTj (zT 2)) (oP 2 rfl (zG (yC 7 sc_law_joined.nd) (zG (yC 8 sc_law_joined.nd) xZ)) (yZ (yZ xN))) (zV (f:=(zK 9 (zO 2 xT (zZ (eV 3) (zZ (zO 2 xT (zZ (eV 8) (zZ (zO 1 wQ (zZ (eV 3) zS)) zS))) zS))))) (g:=(qY)) (zL 9 sc_law_joined.nd (zJ (tG T) (hr.mono (by omega)) T.m_law_after T.F_law_after.kp T.b_law_after rfl (zY (zT 3) (zY (zJ (tG T) (hr.mono (by omega)) T.m_law_after T.F_law_after.kp T.b_law_after rfl (zY (zT 8) (zY (zJ (jC T) (hr.mono (by omega)) T.m_law_undone T.F_law_undone.kp T.b_law_undone rfl (zY (zT 3) zU)) zU))) zU))))
     (zV (f:=(sIf (eB2 gEq (yG (eV 6) (eC (.int 2))) (eC (.int 1))) (zK 9 (zO 2 xT (zZ (eV 9) (zZ (eV 4) zS)))) yU)) (g:=(tX)) (yR (yT tP (xQ (zT 6) zW) zW) (zR (zL 9 sc_law_joined.nd (zJ (tG T) (hr.mono (by omega)) T.m_law_after T.F_law_after.kp T.b_law_after rfl (zY (zT 9) (zY (zT 4) zU))))) zB)
     (zV (f:=(hW 5 (zI (zZ (zO 2 sS (zZ (eV 3) (zZ (eV 7) zS))) (zZ (eV 9) (zZ (xJ (eB2 gEq (yG (eV 6) (eC (.int 2))) (eC (.int 1)))) zS)))))) (g:=(lA)) (zZD 5 (qK PySem.F.plainAttrs_list PySem.F.slot_list_append PySem.F.type_list_append qB (pv 5) (yS (zH (zY (zJ (zZs T) (hr.mono (by omega)) T.m_law_turned T.F_law_turned.kp T.b_law_turned rfl (zY (zT 3) (zY (zT 7) zU))) (zY (zT 9) (zY (uM tP (xQ (zT 6) zW) zW) zU)))) yB)))
     (zR (zL 6 sc_law_joined.nd (uL (zT 6) zW)))))))
     (zR (fA 5))))))))))
theorem sc_law_altered:FnScope ["_law_dims","_law_cell","_law_number_here","_law_parts","_law_at","_law_other","_law_corner","_law_turn_here","_law_back"] ["_law_dims","_law_cell"] (zX w4):=⟨rfl,rfl,rfl,by decide +kernel,rfl,by decide +kernel,by decide +kernel⟩
def lB:Sf:=(dL 3)
def qO:Sf:=(zM (sIf (eB2 gEq (yG (eV 5) (eC (.int 3))) (eC (.int 0))) (iK 3 (eV 4) (zI (zZ (eV 6) (zZ (eV 7) (zZ (xJ (xS (tB1 (eV 8)))) zS))))) (iK 3 (eV 4) (zI (zZ (eV 6) (zZ (zO 2 xV (zZ (vV (eV 5) (eC (.int 3))) (zZ (eV 0) zS))) (zZ (xJ (eB2 gEq (yG (vV (eV 5) (eC (.int 200))) (eC (.int 2))) (eC (.int 1)))) zS))))))
   (lB))
def qZ:Sf:=(zM (tJ (zRM 3 (eV 4)) (gT (zN (gN 6) (zN (gN 7) (zN (gN 8) yM)))))
   (qO))
def qX:Sf:=(zM (zK 5 (zO 3 xW (zZ (eV 1) (zZ (eC (.int 2)) (zZ (eC (.int 39373)) zS)))))
   (qZ))
def qR:Sf:=(zM (zK 4 (yG (eV 2) (rK 3)))
   (qX))
def qT:Sf:=(zM (xF 3 (wZ 2 wD (zZ (eV 0) (zZ (vV (eV 2) (eC (.int 8))) zS))))
   (qR))
def qS:Sf:=(zM (zK 2 (zO 3 xW (zZ (eV 1) (zZ (eC (.int 1)) (zZ (eC (.int 16807)) zS)))))
   (qT))
def b_law_altered:Sf :=
   (qS)
def nG:List D->Option (List D):=fnL 9 b_law_altered
theorem zZT (T:Txt w K mg):FnOk P w K mg base CX0 3 T.f_law_altered T.fd_law_altered ["_law_dims","_law_cell"] (spL K 2 nG) :=
 jR (k:=2) T.F_law_altered sc_law_altered fun cdv A outer s H E hr =>
   (zV (f:=(zK 2 (zO 3 xW (zZ (eV 1) (zZ (eC (.int 1)) (zZ (eC (.int 16807)) zS)))))) (g:=(qT)) (zL 2 sc_law_altered.nd (zJ (sA T) (hr.mono (by omega)) T.m_law_cut T.F_law_cut.kp T.b_law_cut rfl (zY (zT 1) (zY zW (zY zW zU)))))
     (zV (f:=(xF 3 (wZ 2 wD (zZ (eV 0) (zZ (vV (eV 2) (eC (.int 8))) zS))))) (g:=(qR)) (tW 3 sc_law_altered.nd (rO (jA T) (hr.mono (by omega)) T.m_law_joined T.F_law_joined.kp T.b_law_joined rfl (zY (zT 0) (zY (uL (zT 2) zW) zU))))
     (zV (f:=(zK 4 (yG (eV 2) (rK 3)))) (g:=(qX)) (zL 4 sc_law_altered.nd (xQ (zT 2) (cE 3 rfl T.z_len)))
     (zV (f:=(zK 5 (zO 3 xW (zZ (eV 1) (zZ (eC (.int 2)) (zZ (eC (.int 39373)) zS)))))) (g:=(qZ)) (zL 5 sc_law_altered.nd (zJ (sA T) (hr.mono (by omega)) T.m_law_cut T.F_law_cut.kp T.b_law_cut rfl (zY (zT 1) (zY zW (zY zW zU)))))
     (zV (f:=(tJ (zRM 3 (eV 4)) (gT (zN (gN 6) (zN (gN 7) (zN (gN 8) yM)))))) (g:=(qO)) (sN (zOW 3 (zT 4)) (oP 3 rfl (zG (yC 6 sc_law_altered.nd) (zG (yC 7 sc_law_altered.nd) (zG (yC 8 sc_law_altered.nd) xZ))) (yZ (yZ (yZ xN)))))
     (zV (f:=(sIf (eB2 gEq (yG (eV 5) (eC (.int 3))) (eC (.int 0))) (iK 3 (eV 4) (zI (zZ (eV 6) (zZ (eV 7) (zZ (xJ (xS (tB1 (eV 8)))) zS))))) (iK 3 (eV 4) (zI (zZ (eV 6) (zZ (zO 2 xV (zZ (vV (eV 5) (eC (.int 3))) (zZ (eV 0) zS))) (zZ (xJ (eB2 gEq (yG (vV (eV 5) (eC (.int 200))) (eC (.int 2))) (eC (.int 1)))) zS))))))) (g:=(lB)) (yR (yT tP (xQ (zT 5) zW) zW) (zR (bX 3 (zH (zY (zT 6) (zY (zT 7) (zY (zRR (zT 8)) zU)))) (zT 4))) (zR (bX 3 (zH (zY (zT 6) (zY (zJ (jV T) (hr.mono (by omega)) T.m_law_turn T.F_law_turn.kp T.b_law_turn rfl (zY (uL (zT 5) zW) (zY (zT 0) zU))) (zY (uM tP (xQ (uL (zT 5) zW) zW) zW) zU)))) (zT 4))))
     (zR (fA 3))))))))
theorem sc_law_corners:FnScope ["_law_dims","_law_corners_here"] ["_law_dims"] (zX xB):=⟨rfl,rfl,rfl,by decide +kernel,rfl,by decide +kernel,by decide +kernel⟩
def kY:Sf:=(dL 1)
def lE:Sf:=(zM (sIf (eB2 gEq (eV 0) (eC (.int 3))) (oO 1 (xF 1 (hG (yV (iL (eV 1)) 2 [] (gT (zN (gN 0) (zN (gN 1) yM))) tOK (zI (zZ (eV 0) (zZ (eV 1) (zZ (eC (.int 0)) zS))))) (yV (iL (eV 1)) 2 [] (gT (zN (gN 0) (zN (gN 1) yM))) tOK (zI (zZ (eV 0) (zZ (eV 1) (zZ (eC (.int 1)) zS)))))))) yU)
   (kY))
def cI:Sf:=(zM (xF 1 (yO (zZ (zI (zZ (eC (.int 0)) (zZ (eC (.int 0)) zS))) (zZ (zI (zZ (eC (.int 1)) (zZ (eC (.int 0)) zS))) (zZ (zI (zZ (eC (.int 0)) (zZ (eC (.int 1)) zS))) (zZ (zI (zZ (eC (.int 1)) (zZ (eC (.int 1)) zS))) zS))))))
   (lE))
def b_law_corners:Sf :=
   (cI)
def uE:List D->Option (List D):=fnL 2 b_law_corners
theorem bG (T:Txt w K mg):FnOk P w K mg base CX0 1 T.f_law_corners T.fd_law_corners ["_law_dims"] (spL K 1 uE) :=
 jR (k:=0) T.F_law_corners sc_law_corners fun cdv A outer s H E hr =>
   (zV (f:=(xF 1 (yO (zZ (zI (zZ (eC (.int 0)) (zZ (eC (.int 0)) zS))) (zZ (zI (zZ (eC (.int 1)) (zZ (eC (.int 0)) zS))) (zZ (zI (zZ (eC (.int 0)) (zZ (eC (.int 1)) zS))) (zZ (zI (zZ (eC (.int 1)) (zZ (eC (.int 1)) zS))) zS))))))) (g:=(lE)) (tW 1 sc_law_corners.nd (xX (zY (zH (zY zW (zY zW zU))) (zY (zH (zY zW (zY zW zU))) (zY (zH (zY zW (zY zW zU))) (zY (zH (zY zW (zY zW zU))) zU))))))
     (zV (f:=(sIf (eB2 gEq (eV 0) (eC (.int 3))) (oO 1 (xF 1 (hG (yV (iL (eV 1)) 2 [] (gT (zN (gN 0) (zN (gN 1) yM))) tOK (zI (zZ (eV 0) (zZ (eV 1) (zZ (eC (.int 0)) zS))))) (yV (iL (eV 1)) 2 [] (gT (zN (gN 0) (zN (gN 1) yM))) tOK (zI (zZ (eV 0) (zZ (eV 1) (zZ (eC (.int 1)) zS)))))))) yU)) (g:=(kY)) (yR (yT tP (zT 0) zW) (zR (sM 1 (tW 1 sc_law_corners.nd (zRK (xE (zX xB) ["_law_dims","_law_corners_here"] ["_law_x","_law_y"] [] [] (zXA (xL (uJ 0) (xL (uJ 1) qI))) (zTj (zT 1)) rfl rfl rfl (by decide +kernel) (fun _ _ _ _=>(oP 2 rfl (zG (yC 0 (show(List.Nodup (α:=PySem.Str) ["_law_x","_law_y"]) from by decide +kernel)) (zG (yC 1 (show(List.Nodup (α:=PySem.Str) ["_law_x","_law_y"]) from by decide +kernel)) xZ)) (yZ (yZ xN)))) (fun _ _ _ _=>yJ) (fun _ _ _ _=>(zH (zY (zT 0) (zY (zT 1) (zY zW zU)))))) (xE (zX xB) ["_law_dims","_law_corners_here"] ["_law_x","_law_y"] [] [] (zXA (xL (uJ 0) (xL (uJ 1) qI))) (zTj (zT 1)) rfl rfl rfl (by decide +kernel) (fun _ _ _ _=>(oP 2 rfl (zG (yC 0 (show(List.Nodup (α:=PySem.Str) ["_law_x","_law_y"]) from by decide +kernel)) (zG (yC 1 (show(List.Nodup (α:=PySem.Str) ["_law_x","_law_y"]) from by decide +kernel)) xZ)) (yZ (yZ xN)))) (fun _ _ _ _=>yJ) (fun _ _ _ _=>(zH (zY (zT 0) (zY (zT 1) (zY zW zU)))))))))) zB)
     (zR (fA 1))))
theorem sc_law_loose:FnScope ["_law_dims","_law_cell","_law_left","_law_parts","_law_number_here","_law_corner"] ["_law_dims","_law_cell"] (zX tT):=⟨rfl,rfl,rfl,by decide +kernel,rfl,by decide +kernel,by decide +kernel⟩
def jD:Sf:=(dL 3)
def nB:Sf:=(zM (vN (iH 2) (zM (zK 4 (zO 3 xW (zZ (eV 1) (zZ (vT (eC (.int 3)) (rK 2)) (zZ (vT (eC (.int 48271)) (pK (eC (.int 997)) (rK 2))) zS)))))
   (zM (zVz 5 2 (yG (eV 4) (rK 2)))
   (hW 3 (zI (zZ (eV 5) (zZ (zO 2 xV (zZ (vV (eV 4) (eC (.int 8))) (zZ (eV 0) zS))) (zZ (xJ (eB2 gEq (yG (vV (eV 4) (eC (.int 800))) (eC (.int 2))) (eC (.int 1)))) zS))))))) 100)
   (jD))
def nO:Sf:=(zM (xF 3 (yO zS))
   (nB))
def mW:Sf:=(zM (xF 2 (wZ 1 uE (zZ (eV 0) zS)))
   (nO))
def b_law_loose:Sf :=
   (mW)
def rA:List D->Option (List D):=fnL 6 b_law_loose
theorem zXU (T:Txt w K mg):FnOk P w K mg base CX0 3 T.f_law_loose T.fd_law_loose ["_law_dims","_law_cell"] (spL K 2 rA) :=
 jR (k:=2) T.F_law_loose sc_law_loose fun cdv A outer s H E hr =>
   (zV (f:=(xF 2 (wZ 1 uE (zZ (eV 0) zS)))) (g:=(nO)) (tW 2 sc_law_loose.nd (rO (bG T) (hr.mono (by omega)) T.m_law_corners T.F_law_corners.kp T.b_law_corners rfl (zY (zT 0) zU)))
     (zV (f:=(xF 3 (yO zS))) (g:=(nB)) (tW 3 sc_law_loose.nd (xX zU))
     (zV (f:=(vN (iH 2) (zM (zK 4 (zO 3 xW (zZ (eV 1) (zZ (vT (eC (.int 3)) (rK 2)) (zZ (vT (eC (.int 48271)) (pK (eC (.int 997)) (rK 2))) zS)))))
   (zM (zVz 5 2 (yG (eV 4) (rK 2)))
   (hW 3 (zI (zZ (eV 5) (zZ (zO 2 xV (zZ (vV (eV 4) (eC (.int 8))) (zZ (eV 0) zS))) (zZ (xJ (eB2 gEq (yG (vV (eV 4) (eC (.int 800))) (eC (.int 2))) (eC (.int 1)))) zS))))))) 100)) (g:=(jD)) (eG 100 PassesOwn.never (zRX 2 hr) (zV (zL 4 sc_law_loose.nd (zJ (sA T) (hr.mono (by omega)) T.m_law_cut T.F_law_cut.kp T.b_law_cut rfl (zY (zT 1) (zY (uN zW (cE 2 rfl T.z_len)) (zY (uN zW (nS zW (cE 2 rfl T.z_len))) zU)))))
     (zV (zQQ 5 2 sc_law_loose.nd (qK PySem.F.plainAttrs_list PySem.F.slot_list_pop PySem.F.type_list_pop zSY (pv 2) (yS (xQ (zT 4) (cE 2 rfl T.z_len)) yB)))
     (zR (zZD 3 (qK PySem.F.plainAttrs_list PySem.F.slot_list_append PySem.F.type_list_append qB (pv 3) (yS (zH (zY (zT 5) (zY (zJ (jV T) (hr.mono (by omega)) T.m_law_turn T.F_law_turn.kp T.b_law_turn rfl (zY (uL (zT 4) zW) (zY (zT 0) zU))) (zY (uM tP (xQ (uL (zT 4) zW) zW) zW) zU)))) yB)))))))
     (zR (fA 3)))))
theorem sc_law_drawn:FnScope ["_law_dims","_law_cell","_law_number_here"] ["_law_dims","_law_cell"] (zX tN):=⟨rfl,rfl,rfl,by decide +kernel,rfl,by decide +kernel,by decide +kernel⟩
def rP:Sf:=(qL (wZ 2 nG (zZ (eV 0) (zZ (eV 1) zS))))
def rL:Sf:=(zM (sIf (eB2 gEq (yG (eV 2) (eC (.int 4))) (eC (.int 1))) (qL (wZ 2 wD (zZ (eV 0) (zZ (vV (eV 2) (eC (.int 4))) zS)))) yU)
   (rP))
def nM:Sf:=(zM (sIf (eB2 gEq (yG (eV 2) (eC (.int 4))) (eC (.int 0))) (qL (wZ 2 rA (zZ (eV 0) (zZ (eV 1) zS)))) yU)
   (rL))
def nA:Sf:=(zM (zK 2 (zO 3 xW (zZ (eV 1) (zZ (eC (.int 0)) (zZ (eC (.int 40692)) zS)))))
   (nM))
def b_law_drawn:Sf :=
   (nA)
def oI:List D->Option (List D):=fnL 3 b_law_drawn
theorem zYh (T:Txt w K mg):FnOk P w K mg base CX0 4 T.f_law_drawn T.fd_law_drawn ["_law_dims","_law_cell"] (spL K 2 oI) :=
 jR (k:=3) T.F_law_drawn sc_law_drawn fun cdv A outer s H E hr =>
   (zV (f:=(zK 2 (zO 3 xW (zZ (eV 1) (zZ (eC (.int 0)) (zZ (eC (.int 40692)) zS)))))) (g:=(nM)) (zL 2 sc_law_drawn.nd (zJ (sA T) (hr.mono (by omega)) T.m_law_cut T.F_law_cut.kp T.b_law_cut rfl (zY (zT 1) (zY zW (zY zW zU)))))
     (zV (f:=(sIf (eB2 gEq (yG (eV 2) (eC (.int 4))) (eC (.int 0))) (qL (wZ 2 rA (zZ (eV 0) (zZ (eV 1) zS)))) yU)) (g:=(rL)) (yR (yT tP (xQ (zT 2) zW) zW) (zR (jK (rO (zXU T) (hr.mono (by omega)) T.m_law_loose T.F_law_loose.kp T.b_law_loose rfl (zY (zT 0) (zY (zT 1) zU))))) zB)
     (zV (f:=(sIf (eB2 gEq (yG (eV 2) (eC (.int 4))) (eC (.int 1))) (qL (wZ 2 wD (zZ (eV 0) (zZ (vV (eV 2) (eC (.int 4))) zS)))) yU)) (g:=(rP)) (yR (yT tP (xQ (zT 2) zW) zW) (zR (jK (rO (jA T) (hr.mono (by omega)) T.m_law_joined T.F_law_joined.kp T.b_law_joined rfl (zY (zT 0) (zY (uL (zT 2) zW) zU))))) zB)
     (zR (jK (rO (zZT T) (hr.mono (by omega)) T.m_law_altered T.F_law_altered.kp T.b_law_altered rfl (zY (zT 0) (zY (zT 1) zU))))))))
theorem zZz:FnScope ["text","signs","longest"] ["text","signs","longest"] (zX wB):=⟨rfl,rfl,rfl,by decide +kernel,rfl,by decide +kernel,by decide +kernel⟩
def aK:Sf:=(yY (kT (xJ (eB3 gLe gLe (eC (.int 1)) (xP (eV 0)) (eV 2))) (zTZ (eL (yV (iS (eV 0)) 1 [1] (gN 0) tOK (xJ (eB2 gIn (eV 0) (eV 1))))))))
def b_is_made_of:Sf :=
   (aK)
def fL:List D->Option D:=fnF 3 b_is_made_of
theorem zZv (T:Txt w K mg):FnOk P w K mg base CX0 1 T.f_is_made_of T.fd_is_made_of ["text","signs","longest"] (spF K 3 fL) :=
 xU (k:=0) T.F_is_made_of zZz fun cdv A outer s H E hr =>
   (zR (zF (bP (zWW aR aR zW (wU rfl T.z_len (zT 0)) (zT 2)) (zX1 (zSm rfl rfl T.z_all (vP (xE (zX wB) ["text","signs","longest"] ["sign"] ["signs"] [1] (uJ 0) (zQm (zT 0)) rfl rfl rfl (by decide +kernel) (fun _ _ _ _=>(yC 0 (show(List.Nodup (α:=PySem.Str) ["sign","signs"]) from by decide +kernel))) (fun _ _ _ _=>yJ) (fun _ _ _ _=>(uM zOm (zT 0) (zT 1))))))))))
theorem zVl:FnScope ["text"] ["text"] (zX qA):=⟨rfl,rfl,rfl,by decide +kernel,rfl,by decide +kernel,by decide +kernel⟩
def zXi:Sf:=(yY (zO 3 fL (zZ (eV 0) (zZ (eC (.str "abcdefghijklmnopqrstuvwxyz")) (zZ (eC (.int 12)) zS)))))
def b_is_word:Sf :=
   (zXi)
def dZ:List D->Option D:=fnF 1 b_is_word
theorem zVu (T:Txt w K mg):FnOk P w K mg base CX0 2 T.f_is_word T.fd_is_word ["text"] (spF K 1 dZ) :=
 xU (k:=1) T.F_is_word zVl fun cdv A outer s H E hr =>
   (zR (zF (zJ (zZv T) (hr.mono (by omega)) T.m_is_made_of T.F_is_made_of.kp T.b_is_made_of rfl (zY (zT 0) (zY (cF rfl T.c_LETTERS) (zY (zPX rfl T.c_LONGEST_WORD) zU))))))
theorem zX5:FnScope ["words"] ["words"] (zX tL):=⟨rfl,rfl,rfl,by decide +kernel,rfl,by decide +kernel,by decide +kernel⟩
def iZ:Sf:=(yY (zI (zZ (eIx (eV 0) (eC (.int 1))) (zZ (zQc [("joined",.bl true),("loose",.bl false)] (eIx (eV 0) (eC (.int 2)))) (zZ (zQc [("2",.int 2),("3",.int 3)] (eIx (eV 0) (eC (.int 3)))) zS)))))
def iM:Sf:=(zM (sIf (rV (zVn false [("joined",.bl true),("loose",.bl false)] (eIx (eV 0) (eC (.int 2)))) (zVn false [("2",.int 2),("3",.int 3)] (eIx (eV 0) (eC (.int 3))))) (fun _=>none) yU)
   (iZ))
def zZ3:Sf:=(zM (sIf (rV (eB2 gNe (xP (eV 0)) (eC (.int 4))) (rV (eB2 gNe (eIx (eV 0) (eC (.int 0))) (eC (.str "curve"))) (xS (tB1 (zO 1 dZ (zZ (eIx (eV 0) (eC (.int 1))) zS)))))) (fun _=>none) yU)
   (iM))
def b_read_head:Sf :=
   (zZ3)
def rE:List D->Option D:=fnF 1 b_read_head
theorem zXm (T:Txt w K mg):FnOk P w K mg base CX0 3 T.f_read_head T.fd_read_head ["words"] (spF K 1 rE) :=
 xU (k:=2) T.F_read_head zX5 fun cdv A outer s H E hr =>
   (zV (f:=(sIf (rV (eB2 gNe (xP (eV 0)) (eC (.int 4))) (rV (eB2 gNe (eIx (eV 0) (eC (.int 0))) (eC (.str "curve"))) (xS (tB1 (zO 1 dZ (zZ (eIx (eV 0) (eC (.int 1))) zS)))))) (fun _=>none) yU)) (g:=(iM)) (yR (cN (rT (yT zZl (wU rfl T.z_len (zT 0)) zW) (rT (yT zZl (xO (zT 0) zW) vK) (rM (vR (xM (zJ (zVu T) (hr.mono (by omega)) T.m_is_word T.F_is_word.kp T.b_is_word rfl (zY (xO (zT 0) zW) zU)))))))) (zR tZ) zB)
     (zV (f:=(sIf (rV (zVn false [("joined",.bl true),("loose",.bl false)] (eIx (eV 0) (eC (.int 2)))) (zVn false [("2",.int 2),("3",.int 3)] (eIx (eV 0) (eC (.int 3))))) (fun _=>none) yU)) (g:=(iZ)) (yR (cN (rT (zYI T.dc_PROMISES rfl T.c_PROMISES (xO (zT 0) zW)) (rM (zYI T.dc_DIMS rfl T.c_DIMS (xO (zT 0) zW))))) (zR tZ) zB)
     (zR (zF (zH (zY (xO (zT 0) zW) (zY (zR5 T.dc_PROMISES rfl T.c_PROMISES (xO (zT 0) zW)) (zY (zR5 T.dc_DIMS rfl T.c_DIMS (xO (zT 0) zW)) zU))))))))
theorem zWF:FnScope ["rows","row"] ["rows","row"] (zX sE):=⟨rfl,rfl,rfl,by decide +kernel,rfl,by decide +kernel,by decide +kernel⟩
def mG:Sf:=(qL (iB (eIx (eV 0) (mU (eV 1) (eC (.int 1)))) (eC (.str " "))))
def lK:Sf:=(zM (sIf (eB2 gGt (eV 1) (xP (eV 0))) (fun _=>none) yU)
   (mG))
def b_words_at:Sf :=
   (lK)
def wF:List D->Option (List D):=fnL 2 b_words_at
theorem cP (T:Txt w K mg):FnOk P w K mg base CX0 3 T.f_words_at T.fd_words_at ["rows","row"] (spL K 2 wF) :=
 jR (k:=2) T.F_words_at zWF fun cdv A outer s H E hr =>
   (zV (f:=(sIf (eB2 gGt (eV 1) (xP (eV 0))) (fun _=>none) yU)) (g:=(mG)) (yR (yT zUx (zT 1) (wU rfl T.z_len (zT 0))) (zR tZ) zB)
     (zR (jK (zWs (qK PySem.F.plainAttrs_str PySem.F.slot_str_split PySem.F.type_str_split zWi (xO (zT 0) (jY (zT 1) zW)) (yS vK yB))))))
theorem sc_corner_of:FnScope ["text","dims","bits"] ["text","dims"] (zX vD):=⟨rfl,rfl,rfl,by decide +kernel,rfl,by decide +kernel,by decide +kernel⟩
def iQ:Sf:=(yY (xR (eV 2)))
def iX:Sf:=(zM (oO 2 (sIf (rV (eB2 gNe (xP (eV 2)) (eV 1)) (eB2 zVN (zUV (eC (.int 1))) (eV 2))) (yY (eC .non)) yU))
   (iQ))
def zZm:Sf:=(zM (xF 2 (yV (iS (eV 0)) 1 [] (gN 0) tOK (dP (eC (.str "01")) (eV 0))))
   (iX))
def b_corner_of:Sf :=
   (zZm)
def kP:List D->Option D:=fnF 3 b_corner_of
theorem zXs (T:Txt w K mg):FnOk P w K mg base CX0 1 T.f_corner_of T.fd_corner_of ["text","dims"] (spF K 2 kP) :=
 xU (k:=0) T.F_corner_of sc_corner_of fun cdv A outer s H E hr =>
   (zV (f:=(xF 2 (yV (iS (eV 0)) 1 [] (gN 0) tOK (dP (eC (.str "01")) (eV 0))))) (g:=(iX)) (pN (zX vD) ["text","dims","bits"] ["sign"] [] [] (uJ 0) 2 sc_corner_of.nd rfl rfl (zQm (zT 0)) rfl rfl rfl (by decide +kernel) (fun _ _ _ _=>(yC 0 (show(List.Nodup (α:=PySem.Str) ["sign"]) from by decide +kernel))) (fun _ _ _ _=>yJ) (fun _ _ _ _=>(zXJ (qK PySem.F.plainAttrs_str PySem.F.slot_str_find PySem.F.type_str_find zXR (cF rfl T.c_BITS) (yS (zT 0) yB)))))
     (zV (f:=(oO 2 (sIf (rV (eB2 gNe (xP (eV 2)) (eV 1)) (eB2 zVN (zUV (eC (.int 1))) (eV 2))) (yY (eC .non)) yU))) (g:=(iQ)) (sM 2 (yR (cN (rT (yT zZl (wU rfl T.z_len (zT 2)) (zT 1)) (rM (yT zSj (zUO zW) (zT 2))))) (zR (zF sV)) zB))
     (zR (zF (wR rfl T.z_tuple (zT 2))))))
theorem sc_turn_of:FnScope ["text","dims","flips","axes"] ["text","dims"] (zX tK):=⟨rfl,rfl,rfl,by decide +kernel,rfl,by decide +kernel,by decide +kernel⟩
def dD:Sf:=(yY (zXI (eV 3) (eV 2)))
def cR:Sf:=(zM (oO 2 (oO 3 (sIf (rV (eB2 zVN (zUV (eC (.int 1))) (eV 2)) (eB2 eR (eL (bZ (iL (eV 3)))) (eL (zYm (eV 1))))) (yY (eC .non)) yU)))
   (dD))
def dI:Sf:=(zM (xF 3 (yV (iS (zYx (eV 0) (eC (.int 1)) (eC (.int 2)))) 1 [] (gN 0) tOK (dP (eC (.str "xyz")) (eV 0))))
   (cR))
def dJ:Sf:=(zM (xF 2 (yV (iS (zYx (eV 0) (eC (.int 0)) (eC (.int 2)))) 1 [] (gN 0) tOK (dP (eC (.str "+-")) (eV 0))))
   (dI))
def zW2:Sf:=(zM (sIf (eB2 eR (xP (eV 0)) (pK (eC (.int 2)) (eV 1))) (yY (eC .non)) yU)
   (dJ))
def b_turn_of:Sf :=
   (zW2)
def eQ:List D->Option D:=fnF 4 b_turn_of
theorem zVR (T:Txt w K mg):FnOk P w K mg base CX0 1 T.f_turn_of T.fd_turn_of ["text","dims"] (spF K 2 eQ) :=
 xU (k:=0) T.F_turn_of sc_turn_of fun cdv A outer s H E hr =>
   (zV (f:=(sIf (eB2 eR (xP (eV 0)) (pK (eC (.int 2)) (eV 1))) (yY (eC .non)) yU)) (g:=(dJ)) (yR (yT (bU hr) (wU rfl T.z_len (zT 0)) (nS zW (zT 1))) (zR (zF sV)) zB)
     (zV (f:=(xF 2 (yV (iS (zYx (eV 0) (eC (.int 0)) (eC (.int 2)))) 1 [] (gN 0) tOK (dP (eC (.str "+-")) (eV 0))))) (g:=(dI)) (pN (zX tK) ["text","dims","flips","axes"] ["sign"] [] [] (uJ 0) 2 sc_turn_of.nd rfl rfl (zQm (zWg (zT 0) zW zW)) rfl rfl rfl (by decide +kernel) (fun _ _ _ _=>(yC 0 (show(List.Nodup (α:=PySem.Str) ["sign"]) from by decide +kernel))) (fun _ _ _ _=>yJ) (fun _ _ _ _=>(zXJ (qK PySem.F.plainAttrs_str PySem.F.slot_str_find PySem.F.type_str_find zXR (cF rfl T.c_FLIPS) (yS (zT 0) yB)))))
     (zV (f:=(xF 3 (yV (iS (zYx (eV 0) (eC (.int 1)) (eC (.int 2)))) 1 [] (gN 0) tOK (dP (eC (.str "xyz")) (eV 0))))) (g:=(cR)) (pN (zX tK) ["text","dims","flips","axes"] ["letter"] [] [] (uJ 0) 3 sc_turn_of.nd rfl rfl (zQm (zWg (zT 0) zW zW)) rfl rfl rfl (by decide +kernel) (fun _ _ _ _=>(yC 0 (show(List.Nodup (α:=PySem.Str) ["letter"]) from by decide +kernel))) (fun _ _ _ _=>yJ) (fun _ _ _ _=>(zXJ (qK PySem.F.plainAttrs_str PySem.F.slot_str_find PySem.F.type_str_find zXR (cF rfl T.c_AXES) (yS (zT 0) yB)))))
     (zV (f:=(oO 2 (oO 3 (sIf (rV (eB2 zVN (zUV (eC (.int 1))) (eV 2)) (eB2 eR (eL (bZ (iL (eV 3)))) (eL (zYm (eV 1))))) (yY (eC .non)) yU)))) (g:=(dD)) (sM 2 (sM 3 (yR (cN (rT (yT zSj (zUO zW) (zT 2)) (rM (yT (bU hr) (vP (zTF rfl T.z_sorted (fV (zT 3)))) (vP (zRz rfl rfl T.z_list rfl T.z_range (zT 1))))))) (zR (zF sV)) zB)))
     (zR (zF (zTA rfl rfl T.z_tuple rfl T.z_zip (zT 3) (zT 2))))))))
theorem sc_read_part:FnScope ["words","dims","row","back","corner","turn"] ["words","dims","row"] (zX tO):=⟨rfl,rfl,rfl,by decide +kernel,rfl,by decide +kernel,by decide +kernel⟩
def iV:Sf:=(yY (bR "Part" ["corner","turn","back"] 3 zUt (zZ (eV 4) (zZ (eV 5) (zZ (eV 3) zS)))))
def iU:Sf:=(zM (sIf (rV (eB2 pQ (eV 4) (eC .non)) (eB2 pQ (eV 5) (eC .non))) (fun _=>none) yU)
   (iV))
def jB:Sf:=(zM (zK 5 (zO 2 eQ (zZ (eIx (eV 0) (eC (.int 2))) (zZ (eV 1) zS))))
   (iU))
def iP:Sf:=(zM (zK 4 (zO 2 kP (zZ (eIx (eV 0) (eC (.int 1))) (zZ (eV 1) zS))))
   (jB))
def iY:Sf:=(zM (sIf (rV (eB2 eR (eIx (eV 0) (eC (.int 0))) (eC (.str "part"))) (eB2 eR (xP (eV 0)) (eIf (tB1 (eV 3)) (eC (.int 4)) (eC (.int 3))))) (fun _=>none) yU)
   (iP))
def zZ2:Sf:=(zM (zK 3 (xJ (eB2 zXO (eL (lJ (eV 0) (qM (eC (.int 3))) oNo)) (eL (yO (zZ (eC (.str "back")) zS))))))
   (iY))
def b_read_part:Sf :=
   (zZ2)
def y0:List D->Option D:=fnF 6 b_read_part
theorem zXr (T:Txt w K mg):FnOk P w K mg base CX0 3 T.f_read_part T.fd_read_part ["words","dims","row"] (spF K 3 y0) :=
 xU (k:=2) T.F_read_part sc_read_part fun cdv A outer s H E hr =>
   (zV (f:=(zK 3 (xJ (eB2 zXO (eL (lJ (eV 0) (qM (eC (.int 3))) oNo)) (eL (yO (zZ (eC (.str "back")) zS))))))) (g:=(iY)) (zL 3 sc_read_part.nd (uM (zV3 hr) (vP (zXj (zT 0) (zYM zW) zNT)) (vP (xX (zY vK zU)))))
     (zV (f:=(sIf (rV (eB2 eR (eIx (eV 0) (eC (.int 0))) (eC (.str "part"))) (eB2 eR (xP (eV 0)) (eIf (tB1 (eV 3)) (eC (.int 4)) (eC (.int 3))))) (fun _=>none) yU)) (g:=(iP)) (yR (cN (rT (yT (bU hr) (xO (zT 0) zW) vK) (rM (yT (bU hr) (wU rfl T.z_len (zT 0)) (zRn (xM (zT 3)) zW zW))))) (zR tZ) zB)
     (zV (f:=(zK 4 (zO 2 kP (zZ (eIx (eV 0) (eC (.int 1))) (zZ (eV 1) zS))))) (g:=(jB)) (zL 4 sc_read_part.nd (zJ (zXs T) (hr.mono (by omega)) T.m_corner_of T.F_corner_of.kp T.b_corner_of rfl (zY (xO (zT 0) zW) (zY (zT 1) zU))))
     (zV (f:=(zK 5 (zO 2 eQ (zZ (eIx (eV 0) (eC (.int 2))) (zZ (eV 1) zS))))) (g:=(iU)) (zL 5 sc_read_part.nd (zJ (zVR T) (hr.mono (by omega)) T.m_turn_of T.F_turn_of.kp T.b_turn_of rfl (zY (xO (zT 0) zW) (zY (zT 1) zU))))
     (zV (f:=(sIf (rV (eB2 pQ (eV 4) (eC .non)) (eB2 pQ (eV 5) (eC .non))) (fun _=>none) yU)) (g:=(iV)) (yR (cN (rT (yT lV (zT 4) sV) (rM (yT lV (zT 5) sV)))) (zR tZ) zB)
     (zR (zF (zUs T.ca_Part T.mk_Part (zRJ T) (hr.mono (by omega)) T.mc_Part T.bi_Part rfl (zY (zT 4) (zY (zT 5) (zY (zT 3) zU)))))))))))
theorem sc_full:FnScope ["dims","level","places","halving"] ["dims","level"] (zX dW):=⟨rfl,rfl,rfl,by decide +kernel,rfl,by decide +kernel,by decide +kernel⟩
def jM:Sf:=(zK 2 (pK (eV 2) (eC (.int 2))))
def zXe:Sf:=(yY (eV 2))
def bL:Sf:=(zM (wX (iR (pK (eV 0) (eV 1))) (gN 3) (jM))
   (zXe))
def zZC:Sf:=(zM (zK 2 (eC (.int 1)))
   (bL))
def b_full:Sf :=
   (zZC)
def rR:List D->Option D:=fnF 4 b_full
theorem cG (T:Txt w K mg):FnOk P w K mg base CX0 1 T.f_full T.fd_full ["dims","level"] (spF K 2 rR) :=
 xU (k:=0) T.F_full sc_full fun cdv A outer s H E hr =>
   (zV (f:=(zK 2 (eC (.int 1)))) (g:=(bL)) (zL 2 sc_full.nd zW)
     (zV (f:=(wX (iR (pK (eV 0) (eV 1))) (gN 3) (jM))) (g:=(zXe)) (vQ PassesOwn.never rfl (fE rfl T.z_range (nS (zT 0) (zT 1))) (yC 3 sc_full.nd) (zR (zL 2 sc_full.nd (nS (zT 2) zW))))
     (zR (zF (zT 2)))))
theorem sc_curve_from:FnScope ["rows","name","joined","dims","parts","seen","row","part"] ["rows"] (zX uY):=⟨rfl,rfl,rfl,by decide +kernel,rfl,by decide +kernel,by decide +kernel⟩
def qQ:Sf:=(hW 4 (eV 7))
def qP:Sf:=(zM (aJ 5 (xY "Part" "corner" (eV 7)) (eC (.bl true)))
   (qQ))
def qW:Sf:=(zM (sIf (zWV 5 (xY "Part" "corner" (eV 7))) (fun _=>none) yU)
   (qP))
def w9:Sf:=(zM (zK 7 (zO 3 y0 (zZ (eL (wZ 2 wF (zZ (eV 0) (zZ (eV 6) zS)))) (zZ (eV 3) (zZ (eV 6) zS)))))
   (qW))
def kF:Sf:=(oO 4 (yY (bR "Curve" ["name","dims","joined","parts"] 4 gK (zZ (eV 1) (zZ (eV 3) (zZ (eV 2) (zZ (eV 4) zS)))))))
def pF:Sf:=(zM (wX (iR2 (eC (.int 2)) (vT (eC (.int 2)) (zO 2 rR (zZ (eV 3) (zZ (eC (.int 1)) zS))))) (gN 6) (w9))
   (kF))
def pX:Sf:=(zM (zWY 5)
   (pF))
def pL:Sf:=(zM (xF 4 (yO zS))
   (pX))
def pA:Sf:=(zM (tJ (zO 1 rE (zZ (eL (wZ 2 wF (zZ (eV 0) (zZ (eC (.int 1)) zS)))) zS)) (gT (zN (gN 1) (zN (gN 2) (zN (gN 3) yM)))))
   (pL))
def b_curve_from:Sf :=
   (pA)
def qE:List D->Option D:=fnF 8 b_curve_from
theorem zZ6 (T:Txt w K mg):FnOk P w K mg base CX0 4 T.f_curve_from T.fd_curve_from ["rows"] (spF K 1 qE) :=
 xU (k:=3) T.F_curve_from sc_curve_from fun cdv A outer s H E hr =>
   (zV (f:=(tJ (zO 1 rE (zZ (eL (wZ 2 wF (zZ (eV 0) (zZ (eC (.int 1)) zS)))) zS)) (gT (zN (gN 1) (zN (gN 2) (zN (gN 3) yM)))))) (g:=(pL)) (sN (zJ (zXm T) (hr.mono (by omega)) T.m_read_head T.F_read_head.kp T.b_read_head rfl (zY (vP (rO (cP T) (hr.mono (by omega)) T.m_words_at T.F_words_at.kp T.b_words_at rfl (zY (zT 0) (zY zW zU)))) zU)) (oP 3 rfl (zG (yC 1 sc_curve_from.nd) (zG (yC 2 sc_curve_from.nd) (zG (yC 3 sc_curve_from.nd) xZ))) (yZ (yZ (yZ xN)))))
     (zV (f:=(xF 4 (yO zS))) (g:=(pX)) (tW 4 sc_curve_from.nd (xX zU))
     (zV (f:=(zWY 5)) (g:=(pF)) (zUF 5 sc_curve_from.nd)
     (zV (f:=(wX (iR2 (eC (.int 2)) (vT (eC (.int 2)) (zO 2 rR (zZ (eV 3) (zZ (eC (.int 1)) zS))))) (gN 6) (w9))) (g:=(kF)) (vQ PassesOwn.never rfl (zOz rfl T.z_range zW (uN zW (zJ (cG T) (hr.mono (by omega)) T.m_full T.F_full.kp T.b_full rfl (zY (zT 3) (zY zW zU))))) (yC 6 sc_curve_from.nd) (zV (f:=(zK 7 (zO 3 y0 (zZ (eL (wZ 2 wF (zZ (eV 0) (zZ (eV 6) zS)))) (zZ (eV 3) (zZ (eV 6) zS)))))) (g:=(qW)) (zL 7 sc_curve_from.nd (zJ (zXr T) (hr.mono (by omega)) T.m_read_part T.F_read_part.kp T.b_read_part rfl (zY (vP (rO (cP T) (hr.mono (by omega)) T.m_words_at T.F_words_at.kp T.b_words_at rfl (zY (zT 0) (zY (zT 6) zU)))) (zY (zT 3) (zY (zT 6) zU)))))
     (zV (f:=(sIf (zWV 5 (xY "Part" "corner" (eV 7))) (fun _=>none) yU)) (g:=(qP)) (yR (zS6 5 hr (wL T.ca_Part T.cl_Part T.n_Part_corner (zT 7))) (zR tZ) zB)
     (zV (f:=(aJ 5 (xY "Part" "corner" (eV 7)) (eC (.bl true)))) (g:=(qQ)) (zU6 5 hr uB (wL T.ca_Part T.cl_Part T.n_Part_corner (zT 7)))
     (zR (zZD 4 (qK PySem.F.plainAttrs_list PySem.F.slot_list_append PySem.F.type_list_append qB (pv 4) (yS (zT 7) yB))))))))
     (zR (sM 4 (zF (zUs T.ca_Curve T.mk_Curve (zTs T) (hr.mono (by omega)) T.mc_Curve T.bi_Curve rfl (zY (zT 1) (zY (zT 3) (zY (zT 2) (zY (zT 4) zU))))))))))))
theorem zSs:FnScope ["dims"] ["dims"] (zX lT):=⟨rfl,rfl,rfl,by decide +kernel,rfl,by decide +kernel,by decide +kernel⟩
def zTk:Sf:=(yY (xR (eL (yV (iR (eV 0)) 1 [] (gN 0) tOK (zI (zZ (eV 0) (zZ (eC (.int 0)) zS)))))))
def b_still:Sf :=
   (zTk)
def zU8:List D->Option D:=fnF 1 b_still
theorem zRG (T:Txt w K mg):FnOk P w K mg base CX0 1 T.f_still T.fd_still ["dims"] (spF K 1 zU8) :=
 xU (k:=0) T.F_still zSs fun cdv A outer s H E hr =>
   (zR (zF (wR rfl T.z_tuple (vP (xE (zX lT) ["dims"] ["axis"] [] [] (uJ 0) (fE rfl T.z_range (zT 0)) rfl rfl rfl (by decide +kernel) (fun _ _ _ _=>(yC 0 (show(List.Nodup (α:=PySem.Str) ["axis"]) from by decide +kernel))) (fun _ _ _ _=>yJ) (fun _ _ _ _=>(zH (zY (zT 0) (zY zW zU)))))))))
theorem zZW:FnScope ["dims"] ["dims"] (zX vZ):=⟨rfl,rfl,rfl,by decide +kernel,rfl,by decide +kernel,by decide +kernel⟩
def cK:Sf:=(yY (zI (zZ (zO 1 zU8 (zZ (eV 0) zS)) (zZ (eC (.bl false)) zS))))
def b_first_state:Sf :=
   (cK)
def xA:List D->Option D:=fnF 1 b_first_state
theorem oQ (T:Txt w K mg):FnOk P w K mg base CX0 2 T.f_first_state T.fd_first_state ["dims"] (spF K 1 xA) :=
 xU (k:=1) T.F_first_state zZW fun cdv A outer s H E hr =>
   (zR (zF (zH (zY (zJ (zRG T) (hr.mono (by omega)) T.m_still T.F_still.kp T.b_still rfl (zY (zT 0) zU)) (zY uB zU)))))
theorem zT8:FnScope ["curve","back","number"] ["curve","back","number"] (zX mL):=⟨rfl,rfl,rfl,by decide +kernel,rfl,by decide +kernel,by decide +kernel⟩
def zV4:Sf:=(yY (eIf (tB1 (eV 1)) (mU (mU (xP (xY "Curve" "parts" (eV 0))) (eC (.int 1))) (eV 2)) (eV 2)))
def b_walked:Sf :=
   (zV4)
def sU:List D->Option D:=fnF 3 b_walked
theorem zY3 (T:Txt w K mg):FnOk P w K mg base CX0 1 T.f_walked T.fd_walked ["curve","back","number"] (spF K 3 sU) :=
 xU (k:=0) T.F_walked zT8 fun cdv A outer s H E hr =>
   (zR (zF (zRn (xM (zT 1)) (jY (jY (wU rfl T.z_len (wL T.ca_Curve T.cl_Curve T.n_Curve_parts (zT 0))) zW) (zT 2)) (zT 2))))
theorem zSZ:FnScope ["one","other"] ["one","other"] (zX mH):=⟨rfl,rfl,rfl,by decide +kernel,rfl,by decide +kernel,by decide +kernel⟩
def zYF:Sf:=(yY (xR (eL (yV (iT (eV 0)) 2 [1] (gT (zN (gN 0) (zN (gN 1) yM))) tOK (zI (zZ (eIx (eIx (eV 2) (eV 0)) (eC (.int 0))) (zZ (zX6 (eIx (eIx (eV 2) (eV 0)) (eC (.int 1))) (eV 1)) zS)))))))
def b_after:Sf :=
   (zYF)
def oN:List D->Option D:=fnF 2 b_after
theorem zSw (T:Txt w K mg):FnOk P w K mg base CX0 1 T.f_after T.fd_after ["one","other"] (spF K 2 oN) :=
 xU (k:=0) T.F_after zSZ fun cdv A outer s H E hr =>
   (zR (zF (wR rfl T.z_tuple (vP (xE (zX mH) ["one","other"] ["axis","flip"] ["other"] [1] (zXA (xL (uJ 0) (xL (uJ 1) qI))) (zYl (zT 0)) rfl rfl rfl (by decide +kernel) (fun _ _ _ _=>(oP 2 rfl (zG (yC 0 (show(List.Nodup (α:=PySem.Str) ["axis","flip","other"]) from by decide +kernel)) (zG (yC 1 (show(List.Nodup (α:=PySem.Str) ["axis","flip","other"]) from by decide +kernel)) xZ)) (yZ (yZ xN)))) (fun _ _ _ _=>yJ) (fun _ _ _ _=>(zH (zY (xO (xO (zT 2) (zT 0)) zW) (zY (zYr (xO (xO (zT 2) (zT 0)) zW) (zT 1)) zU)))))))))
theorem zTH:FnScope ["turn","corner"] ["turn","corner"] (zX oX):=⟨rfl,rfl,rfl,by decide +kernel,rfl,by decide +kernel,by decide +kernel⟩
def zZR:Sf:=(yY (xR (eL (yV (iT (eV 0)) 2 [1] (gT (zN (gN 0) (zN (gN 1) yM))) tOK (zX6 (eIx (eV 2) (eV 0)) (eV 1))))))
def b_turned:Sf :=
   (zZR)
def tY:List D->Option D:=fnF 2 b_turned
theorem zY9 (T:Txt w K mg):FnOk P w K mg base CX0 1 T.f_turned T.fd_turned ["turn","corner"] (spF K 2 tY) :=
 xU (k:=0) T.F_turned zTH fun cdv A outer s H E hr =>
   (zR (zF (wR rfl T.z_tuple (vP (xE (zX oX) ["turn","corner"] ["axis","flip"] ["corner"] [1] (zXA (xL (uJ 0) (xL (uJ 1) qI))) (zYl (zT 0)) rfl rfl rfl (by decide +kernel) (fun _ _ _ _=>(oP 2 rfl (zG (yC 0 (show(List.Nodup (α:=PySem.Str) ["axis","flip","corner"]) from by decide +kernel)) (zG (yC 1 (show(List.Nodup (α:=PySem.Str) ["axis","flip","corner"]) from by decide +kernel)) xZ)) (yZ (yZ xN)))) (fun _ _ _ _=>yJ) (fun _ _ _ _=>(zYr (xO (zT 2) (zT 0)) (zT 1))))))))
theorem sc_part_at:FnScope ["curve","state","digit","turn","back","part","inner"] ["curve","state","digit"] (zX pZ):=⟨rfl,rfl,rfl,by decide +kernel,rfl,by decide +kernel,by decide +kernel⟩
def jO:Sf:=(yY (zI (zZ (zO 2 tY (zZ (eV 3) (zZ (xY "Part" "corner" (eV 5)) zS))) (zZ (eV 6) zS))))
def kR:Sf:=(zM (zK 6 (zI (zZ (zO 2 oN (zZ (eV 3) (zZ (xY "Part" "turn" (eV 5)) zS))) (zZ (xJ (eB2 gNe (eV 4) (xY "Part" "back" (eV 5)))) zS))))
   (jO))
def kN:Sf:=(zM (zK 5 (eIx (xY "Curve" "parts" (eV 0)) (zO 3 sU (zZ (eV 0) (zZ (eV 4) (zZ (eV 2) zS))))))
   (kR))
def zVV:Sf:=(zM (tJ (eV 1) (gT (zN (gN 3) (zN (gN 4) yM))))
   (kN))
def b_part_at:Sf :=
   (zVV)
def xK:List D->Option D:=fnF 7 b_part_at
theorem rS (T:Txt w K mg):FnOk P w K mg base CX0 2 T.f_part_at T.fd_part_at ["curve","state","digit"] (spF K 3 xK) :=
 xU (k:=1) T.F_part_at sc_part_at fun cdv A outer s H E hr =>
   (zV (f:=(tJ (eV 1) (gT (zN (gN 3) (zN (gN 4) yM))))) (g:=(kN)) (sN (zT 1) (oP 2 rfl (zG (yC 3 sc_part_at.nd) (zG (yC 4 sc_part_at.nd) xZ)) (yZ (yZ xN))))
     (zV (f:=(zK 5 (eIx (xY "Curve" "parts" (eV 0)) (zO 3 sU (zZ (eV 0) (zZ (eV 4) (zZ (eV 2) zS))))))) (g:=(kR)) (zL 5 sc_part_at.nd (xO (wL T.ca_Curve T.cl_Curve T.n_Curve_parts (zT 0)) (zJ (zY3 T) (hr.mono (by omega)) T.m_walked T.F_walked.kp T.b_walked rfl (zY (zT 0) (zY (zT 4) (zY (zT 2) zU))))))
     (zV (f:=(zK 6 (zI (zZ (zO 2 oN (zZ (eV 3) (zZ (xY "Part" "turn" (eV 5)) zS))) (zZ (xJ (eB2 gNe (eV 4) (xY "Part" "back" (eV 5)))) zS))))) (g:=(jO)) (zL 6 sc_part_at.nd (zH (zY (zJ (zSw T) (hr.mono (by omega)) T.m_after T.F_after.kp T.b_after rfl (zY (zT 3) (zY (wL T.ca_Part T.cl_Part T.n_Part_turn (zT 5)) zU))) (zY (uM zZl (zT 4) (wL T.ca_Part T.cl_Part T.n_Part_back (zT 5))) zU))))
     (zR (zF (zH (zY (zJ (zY9 T) (hr.mono (by omega)) T.m_turned T.F_turned.kp T.b_turned rfl (zY (zT 3) (zY (wL T.ca_Part T.cl_Part T.n_Part_corner (zT 5)) zU))) (zY (zT 6) zU))))))))
theorem zVM:FnScope ["one","other"] ["one","other"] (zX sD):=⟨rfl,rfl,rfl,by decide +kernel,rfl,by decide +kernel,by decide +kernel⟩
def zWA:Sf:=(yY (xJ (eB2 gEq (zS7 (yV (zQK (eV 0) (eV 1)) 2 [] (gT (zN (gN 0) (zN (gN 1) yM))) tOK (zPi (mU (eV 0) (eV 1))))) (eC (.int 1)))))
def b_next_to:Sf :=
   (zWA)
def eM:List D->Option D:=fnF 2 b_next_to
theorem zUS (T:Txt w K mg):FnOk P w K mg base CX0 1 T.f_next_to T.fd_next_to ["one","other"] (spF K 2 eM) :=
 xU (k:=0) T.F_next_to zVM fun cdv A outer s H E hr =>
   (zR (zF (uM tP (zQ9 rfl rfl T.z_sum (bE (xE (zX sD) ["one","other"] ["along","across"] [] [] (zXA (xL (uJ 0) (xL (uJ 1) qI))) (zS4 rfl T.z_zip (zT 0) (zT 1)) rfl rfl rfl (by decide +kernel) (fun _ _ _ _=>(oP 2 rfl (zG (yC 0 (show(List.Nodup (α:=PySem.Str) ["along","across"]) from by decide +kernel)) (zG (yC 1 (show(List.Nodup (α:=PySem.Str) ["along","across"]) from by decide +kernel)) xZ)) (yZ (yZ xN)))) (fun _ _ _ _=>yJ) (fun _ _ _ _=>(zP7 rfl T.z_abs (jY (zT 0) (zT 1))))))) zW)))
theorem zTX:FnScope ["place","corner"] ["place","corner"] (zX oU):=⟨rfl,rfl,rfl,by decide +kernel,rfl,by decide +kernel,by decide +kernel⟩
def zV0:Sf:=(yY (xR (eL (yV (zQK (eV 0) (eV 1)) 2 [] (gT (zN (gN 0) (zN (gN 1) yM))) tOK (vT (pK (eC (.int 2)) (eV 0)) (eV 1))))))
def b_deeper:Sf :=
   (zV0)
def sT:List D->Option D:=fnF 2 b_deeper
theorem dS (T:Txt w K mg):FnOk P w K mg base CX0 1 T.f_deeper T.fd_deeper ["place","corner"] (spF K 2 sT) :=
 xU (k:=0) T.F_deeper zTX fun cdv A outer s H E hr =>
   (zR (zF (wR rfl T.z_tuple (vP (xE (zX oU) ["place","corner"] ["along","bit"] [] [] (zXA (xL (uJ 0) (xL (uJ 1) qI))) (zS4 rfl T.z_zip (zT 0) (zT 1)) rfl rfl rfl (by decide +kernel) (fun _ _ _ _=>(oP 2 rfl (zG (yC 0 (show(List.Nodup (α:=PySem.Str) ["along","bit"]) from by decide +kernel)) (zG (yC 1 (show(List.Nodup (α:=PySem.Str) ["along","bit"]) from by decide +kernel)) xZ)) (yZ (yZ xN)))) (fun _ _ _ _=>yJ) (fun _ _ _ _=>(uN (nS zW (zT 0)) (zT 1))))))))
theorem sc_unmet_at:FnScope ["curve","first","whole","end","ending","start","starting","level","seen","corner"] ["curve","first"] (zX sB):=⟨rfl,rfl,rfl,by decide +kernel,rfl,by decide +kernel,by decide +kernel⟩
def gM:Sf:=(yY (eV 7))
def fG:Sf:=(zM (vN (tB1 (zO 2 eM (zZ (eV 3) (zZ (eV 5) zS)))) (zM (sIf (zWV 8 (zI (zZ (eV 4) (zZ (eV 6) zS)))) (yY (eC .non)) yU)
   (zM (aJ 8 (zI (zZ (eV 4) (zZ (eV 6) zS))) (eC (.bl true)))
   (zM (tJ (zO 3 xK (zZ (eV 0) (zZ (eV 4) (zZ (mU (xP (xY "Curve" "parts" (eV 0))) (eC (.int 1))) zS)))) (gT (zN (gN 9) (zN (gN 4) yM))))
   (zM (zK 3 (zO 2 sT (zZ (eV 3) (zZ (eV 9) zS))))
   (zM (tJ (zO 3 xK (zZ (eV 0) (zZ (eV 6) (zZ (eC (.int 0)) zS)))) (gT (zN (gN 9) (zN (gN 6) yM))))
   (zM (zK 5 (zO 2 sT (zZ (eV 5) (zZ (eV 9) zS))))
   (zK 7 (vT (eV 7) (eC (.int 1)))))))))) 10000)
   (gM))
def gA:Sf:=(zM (zWY 8)
   (fG))
def gL:Sf:=(zM (zK 7 (eC (.int 1)))
   (gA))
def gR:Sf:=(zM (tJ (zO 3 xK (zZ (eV 0) (zZ (eV 2) (zZ (vT (eV 1) (eC (.int 1))) zS)))) (gT (zN (gN 5) (zN (gN 6) yM))))
   (gL))
def gJ:Sf:=(zM (tJ (zO 3 xK (zZ (eV 0) (zZ (eV 2) (zZ (eV 1) zS)))) (gT (zN (gN 3) (zN (gN 4) yM))))
   (gR))
def zXy:Sf:=(zM (zK 2 (zO 1 xA (zZ (xY "Curve" "dims" (eV 0)) zS)))
   (gJ))
def b_unmet_at:Sf :=
   (zXy)
def iI:List D->Option D:=fnF 10 b_unmet_at
theorem zWf (T:Txt w K mg):FnOk P w K mg base CX0 3 T.f_unmet_at T.fd_unmet_at ["curve","first"] (spF K 2 iI) :=
 xU (k:=2) T.F_unmet_at sc_unmet_at fun cdv A outer s H E hr =>
   (zV (f:=(zK 2 (zO 1 xA (zZ (xY "Curve" "dims" (eV 0)) zS)))) (g:=(gJ)) (zL 2 sc_unmet_at.nd (zJ (oQ T) (hr.mono (by omega)) T.m_first_state T.F_first_state.kp T.b_first_state rfl (zY (wL T.ca_Curve T.cl_Curve T.n_Curve_dims (zT 0)) zU)))
     (zV (f:=(tJ (zO 3 xK (zZ (eV 0) (zZ (eV 2) (zZ (eV 1) zS)))) (gT (zN (gN 3) (zN (gN 4) yM))))) (g:=(gR)) (sN (zJ (rS T) (hr.mono (by omega)) T.m_part_at T.F_part_at.kp T.b_part_at rfl (zY (zT 0) (zY (zT 2) (zY (zT 1) zU)))) (oP 2 rfl (zG (yC 3 sc_unmet_at.nd) (zG (yC 4 sc_unmet_at.nd) xZ)) (yZ (yZ xN))))
     (zV (f:=(tJ (zO 3 xK (zZ (eV 0) (zZ (eV 2) (zZ (vT (eV 1) (eC (.int 1))) zS)))) (gT (zN (gN 5) (zN (gN 6) yM))))) (g:=(gL)) (sN (zJ (rS T) (hr.mono (by omega)) T.m_part_at T.F_part_at.kp T.b_part_at rfl (zY (zT 0) (zY (zT 2) (zY (uN (zT 1) zW) zU)))) (oP 2 rfl (zG (yC 5 sc_unmet_at.nd) (zG (yC 6 sc_unmet_at.nd) xZ)) (yZ (yZ xN))))
     (zV (f:=(zK 7 (eC (.int 1)))) (g:=(gA)) (zL 7 sc_unmet_at.nd zW)
     (zV (f:=(zWY 8)) (g:=(fG)) (zUF 8 sc_unmet_at.nd)
     (zV (f:=(vN (tB1 (zO 2 eM (zZ (eV 3) (zZ (eV 5) zS)))) (zM (sIf (zWV 8 (zI (zZ (eV 4) (zZ (eV 6) zS)))) (yY (eC .non)) yU)
   (zM (aJ 8 (zI (zZ (eV 4) (zZ (eV 6) zS))) (eC (.bl true)))
   (zM (tJ (zO 3 xK (zZ (eV 0) (zZ (eV 4) (zZ (mU (xP (xY "Curve" "parts" (eV 0))) (eC (.int 1))) zS)))) (gT (zN (gN 9) (zN (gN 4) yM))))
   (zM (zK 3 (zO 2 sT (zZ (eV 3) (zZ (eV 9) zS))))
   (zM (tJ (zO 3 xK (zZ (eV 0) (zZ (eV 6) (zZ (eC (.int 0)) zS)))) (gT (zN (gN 9) (zN (gN 6) yM))))
   (zM (zK 5 (zO 2 sT (zZ (eV 5) (zZ (eV 9) zS))))
   (zK 7 (vT (eV 7) (eC (.int 1)))))))))) 10000)) (g:=(gM)) (eG 10000 PassesOwn.never (xM (zJ (zUS T) (hr.mono (by omega)) T.m_next_to T.F_next_to.kp T.b_next_to rfl (zY (zT 3) (zY (zT 5) zU)))) (zV (yR (zS6 8 hr (zH (zY (zT 4) (zY (zT 6) zU)))) (zR (zF sV)) zB)
     (zV (zU6 8 hr uB (zH (zY (zT 4) (zY (zT 6) zU))))
     (zV (sN (zJ (rS T) (hr.mono (by omega)) T.m_part_at T.F_part_at.kp T.b_part_at rfl (zY (zT 0) (zY (zT 4) (zY (jY (wU rfl T.z_len (wL T.ca_Curve T.cl_Curve T.n_Curve_parts (zT 0))) zW) zU)))) (oP 2 rfl (zG (yC 9 sc_unmet_at.nd) (zG (yC 4 sc_unmet_at.nd) xZ)) (yZ (yZ xN))))
     (zV (zL 3 sc_unmet_at.nd (zJ (dS T) (hr.mono (by omega)) T.m_deeper T.F_deeper.kp T.b_deeper rfl (zY (zT 3) (zY (zT 9) zU))))
     (zV (sN (zJ (rS T) (hr.mono (by omega)) T.m_part_at T.F_part_at.kp T.b_part_at rfl (zY (zT 0) (zY (zT 6) (zY zW zU)))) (oP 2 rfl (zG (yC 9 sc_unmet_at.nd) (zG (yC 6 sc_unmet_at.nd) xZ)) (yZ (yZ xN))))
     (zV (zL 5 sc_unmet_at.nd (zJ (dS T) (hr.mono (by omega)) T.m_deeper T.F_deeper.kp T.b_deeper rfl (zY (zT 5) (zY (zT 9) zU))))
     (zR (zL 7 sc_unmet_at.nd (uN (zT 7) zW))))))))))
     (zR (zF (zT 7)))))))))
theorem sc_meeting_of:FnScope ["curve","levels","least"] ["curve"] (zX wS):=⟨rfl,rfl,rfl,by decide +kernel,rfl,by decide +kernel,by decide +kernel⟩
def kL:Sf:=(yY (zI (zZ (zXQ (iL (eV 1)) (eV 2)) (zZ (eV 2) zS))))
def kQ:Sf:=(zM (sIf (eB2 pQ (eV 2) (eC .non)) (yY (eC .non)) yU)
   (kL))
def jZ:Sf:=(zM (oO 1 (zK 2 (zUi (yV (iL (eV 1)) 1 [] (gN 0) (eB2 eT (eV 0) (eC .non)) (eV 0)))))
   (kQ))
def bD:Sf:=(zM (xF 1 (yV (iR (mU (xP (xY "Curve" "parts" (eV 0))) (eC (.int 1)))) 1 [0] (gN 0) tOK (zO 2 iI (zZ (eV 1) (zZ (eV 0) zS)))))
   (jZ))
def b_meeting_of:Sf :=
   (bD)
def mE:List D->Option D:=fnF 3 b_meeting_of
theorem zZp (T:Txt w K mg):FnOk P w K mg base CX0 4 T.f_meeting_of T.fd_meeting_of ["curve"] (spF K 1 mE) :=
 xU (k:=3) T.F_meeting_of sc_meeting_of fun cdv A outer s H E hr =>
   (zV (f:=(xF 1 (yV (iR (mU (xP (xY "Curve" "parts" (eV 0))) (eC (.int 1)))) 1 [0] (gN 0) tOK (zO 2 iI (zZ (eV 1) (zZ (eV 0) zS)))))) (g:=(jZ)) (pN (zX wS) ["curve","levels","least"] ["first"] ["curve"] [0] (uJ 0) 1 sc_meeting_of.nd rfl rfl (fE rfl T.z_range (jY (wU rfl T.z_len (wL T.ca_Curve T.cl_Curve T.n_Curve_parts (zT 0))) zW)) rfl rfl rfl (by decide +kernel) (fun _ _ _ _=>(yC 0 (show(List.Nodup (α:=PySem.Str) ["first","curve"]) from by decide +kernel))) (fun _ _ _ _=>yJ) (fun _ _ _ _=>(zJ (zWf T) (hr.mono (by omega)) T.m_unmet_at T.F_unmet_at.kp T.b_unmet_at rfl (zY (zT 1) (zY (zT 0) zU)))))
     (zV (f:=(oO 1 (zK 2 (zUi (yV (iL (eV 1)) 1 [] (gN 0) (eB2 eT (eV 0) (eC .non)) (eV 0)))))) (g:=(kQ)) (sM 1 (zL 2 sc_meeting_of.nd (zRb rfl rfl T.z_min (bE (xE (zX wS) ["curve","levels","least"] ["level"] [] [] (uJ 0) (zTj (zT 1)) rfl rfl rfl (by decide +kernel) (fun _ _ _ _=>(yC 0 (show(List.Nodup (α:=PySem.Str) ["level"]) from by decide +kernel))) (fun _ _ _ _=>(zTp (yT zW5 (zT 0) sV))) (fun _ _ _ _=>(zT 0)))))))
     (zV (f:=(sIf (eB2 pQ (eV 2) (eC .non)) (yY (eC .non)) yU)) (g:=(kL)) (yR (yT lV (zT 2) sV) (zR (zF sV)) zB)
     (zR (zF (zH (zY (zT6 hr (qK PySem.F.plainAttrs_list PySem.F.slot_list_index PySem.F.type_list_index (zTE hr) (fV (zT 1)) (yS (zT 2) yB))) (zY (zT 2) zU))))))))
theorem sc_fitted:FnScope ["curve","unmet","first","level"] ["curve"] (zX mQ):=⟨rfl,rfl,rfl,by decide +kernel,rfl,by decide +kernel,by decide +kernel⟩
def aU:Sf:=(yY (eV 0))
def aD:Sf:=(zM (sIf (eB2 eT (eV 1) (eC .non)) (zM (tJ (eV 1) (gT (zN (gN 2) (zN (gN 3) yM))))
   (fun _=>none)) yU)
   (aU))
def zUQ:Sf:=(zM (zK 1 (eIf (tB1 (xY "Curve" "joined" (eV 0))) (zO 1 mE (zZ (eV 0) zS)) (eC .non)))
   (aD))
def b_fitted:Sf :=
   (zUQ)
def aN:List D->Option D:=fnF 4 b_fitted
theorem zTh (T:Txt w K mg):FnOk P w K mg base CX0 5 T.f_fitted T.fd_fitted ["curve"] (spF K 1 aN) :=
 xU (k:=4) T.F_fitted sc_fitted fun cdv A outer s H E hr =>
   (zV (f:=(zK 1 (eIf (tB1 (xY "Curve" "joined" (eV 0))) (zO 1 mE (zZ (eV 0) zS)) (eC .non)))) (g:=(aD)) (zL 1 sc_fitted.nd (zRn (xM (wL T.ca_Curve T.cl_Curve T.n_Curve_joined (zT 0))) (zJ (zZp T) (hr.mono (by omega)) T.m_meeting_of T.F_meeting_of.kp T.b_meeting_of rfl (zY (zT 0) zU)) sV))
     (zV (f:=(sIf (eB2 eT (eV 1) (eC .non)) (zM (tJ (eV 1) (gT (zN (gN 2) (zN (gN 3) yM))))
   (fun _=>none)) yU)) (g:=(aU)) (yR (yT zW5 (zT 1) sV) (zV (sN (zT 1) (oP 2 rfl (zG (yC 2 sc_fitted.nd) (zG (yC 3 sc_fitted.nd) xZ)) (yZ (yZ xN))))
     (zR tZ)) zB)
     (zR (zF (zT 0)))))
theorem sc_curve_of:FnScope ["text","rows","curve","told"] ["text"] (zX sI):=⟨rfl,rfl,rfl,by decide +kernel,rfl,by decide +kernel,by decide +kernel⟩
def mF:Sf:=(yY (zO 1 aN (zZ (eV 2) zS)))
def lN:Sf:=(zM (sIf (eB2 gGt (xP (eV 1)) (eV 3)) (fun _=>none) yU)
   (mF))
def lO:Sf:=(zM (zK 3 (vT (eC (.int 1)) (xP (xY "Curve" "parts" (eV 2)))))
   (lN))
def lX:Sf:=(zM (zK 2 (zO 1 qE (zZ (eV 1) zS)))
   (lO))
def lU:Sf:=(zM (zK 1 (eL (iB (eV 0) (eC (.str "\n")))))
   (lX))
def b_curve_of:Sf :=
   (lU)
def lF:List D->Option D:=fnF 4 b_curve_of
theorem zWK (T:Txt w K mg):FnOk P w K mg base CX0 6 T.f_curve_of T.fd_curve_of ["text"] (spF K 1 lF) :=
 xU (k:=5) T.F_curve_of sc_curve_of fun cdv A outer s H E hr =>
   (zV (f:=(zK 1 (eL (iB (eV 0) (eC (.str "\n")))))) (g:=(lX)) (zL 1 sc_curve_of.nd (vP (zWs (qK PySem.F.plainAttrs_str PySem.F.slot_str_split PySem.F.type_str_split zWi (zT 0) (yS vK yB)))))
     (zV (f:=(zK 2 (zO 1 qE (zZ (eV 1) zS)))) (g:=(lO)) (zL 2 sc_curve_of.nd (zJ (zZ6 T) (hr.mono (by omega)) T.m_curve_from T.F_curve_from.kp T.b_curve_from rfl (zY (zT 1) zU)))
     (zV (f:=(zK 3 (vT (eC (.int 1)) (xP (xY "Curve" "parts" (eV 2)))))) (g:=(lN)) (zL 3 sc_curve_of.nd (uN zW (wU rfl T.z_len (wL T.ca_Curve T.cl_Curve T.n_Curve_parts (zT 2)))))
     (zV (f:=(sIf (eB2 gGt (xP (eV 1)) (eV 3)) (fun _=>none) yU)) (g:=(mF)) (yR (yT zUx (wU rfl T.z_len (zT 1)) (zT 3)) (zR tZ) zB)
     (zR (zF (zJ (zTh T) (hr.mono (by omega)) T.m_fitted T.F_fitted.kp T.b_fitted rfl (zY (zT 2) zU))))))))
theorem zZB:FnScope ["_law_script","_law_k"] ["_law_script","_law_k"] (zX vY):=⟨rfl,rfl,rfl,by decide +kernel,rfl,by decide +kernel,by decide +kernel⟩
def lD:Sf:=(yY (eC (.int 0)))
def qU:Sf:=(zM (sIf (eB2 gLt (eV 1) (xP (eV 0))) (yY (eIx (eV 0) (eV 1))) yU)
   (lD))
def b_law_cell_at:Sf :=
   (qU)
def w6:List D->Option D:=fnF 2 b_law_cell_at
theorem jP (T:Txt w K mg):FnOk P w K mg base CX0 1 T.f_law_cell_at T.fd_law_cell_at ["_law_script","_law_k"] (spF K 2 w6) :=
 xU (k:=0) T.F_law_cell_at zZB fun cdv A outer s H E hr =>
   (zV (f:=(sIf (eB2 gLt (eV 1) (xP (eV 0))) (yY (eIx (eV 0) (eV 1))) yU)) (g:=(lD)) (yR (yT zU7 (zT 1) (wU rfl T.z_len (zT 0))) (zR (zF (xO (zT 0) (zT 1)))) zB)
     (zR (zF zW)))
theorem sc_law_text:FnScope ["_law_dims","_law_joined_here","_law_parts","_law_rows","_law_corner","_law_turn_here","_law_back","_law_signs","_law_row"] ["_law_dims","_law_joined_here","_law_parts"] (zX vJ):=⟨rfl,rfl,rfl,by decide +kernel,rfl,by decide +kernel,by decide +kernel⟩
def mV:Sf:=(hW 3 (eV 8))
def mZ:Sf:=(zM (sIf (tB1 (eV 6)) (zK 8 (yD (eV 8) (eC (.str " back")))) yU)
   (mV))
def nQ:Sf:=(zM (zK 8 (yD (yD (yD (eC (.str "part ")) (sQ (eC (.str "")) (yV (iT (eV 4)) 1 [] (gN 0) tOK (rZ (eV 0))))) (eC (.str " "))) (eV 7)))
   (mZ))
def vX:Sf:=(zM (zK 7 (sQ (eC (.str "")) (yV (iT (eV 5)) 2 [] (gT (zN (gN 0) (zN (gN 1) yM))) tOK (yD (eIx (eC (.str "+-")) (eV 1)) (eIx (eC (.str "xyz")) (eV 0))))))
   (nQ))
def lZ:Sf:=(oO 3 (yY (sQ (eC (.str "\n")) (iL (eV 3)))))
def lH:Sf:=(zM (wX (iL (eV 2)) (gT (zN (gN 4) (zN (gN 5) (zN (gN 6) yM)))) (vX))
   (lZ))
def mB:Sf:=(zM (xF 3 (yO (zZ (yD (yD (yD (eC (.str "curve fold ")) (eIx (eL (yO (zZ (eC (.str "loose")) (zZ (eC (.str "joined")) zS)))) (hZ (eV 1)))) (eC (.str " "))) (rZ (eV 0))) zS)))
   (lH))
def b_law_text:Sf :=
   (mB)
def lR:List D->Option D:=fnF 9 b_law_text
theorem zW8 (T:Txt w K mg):FnOk P w K mg base CX0 1 T.f_law_text T.fd_law_text ["_law_dims","_law_joined_here","_law_parts"] (spF K 3 lR) :=
 xU (k:=0) T.F_law_text sc_law_text fun cdv A outer s H E hr =>
   (zV (f:=(xF 3 (yO (zZ (yD (yD (yD (eC (.str "curve fold ")) (eIx (eL (yO (zZ (eC (.str "loose")) (zZ (eC (.str "joined")) zS)))) (hZ (eV 1)))) (eC (.str " "))) (rZ (eV 0))) zS)))) (g:=(lH)) (tW 3 sc_law_text.nd (xX (zY (oF (oF (oF vK (xO (vP (xX (zY vK (zY vK zU)))) (zWP rfl T.z_int (zT 1)))) vK) (zWh rfl T.z_str (zT 0))) zU)))
     (zV (f:=(wX (iL (eV 2)) (gT (zN (gN 4) (zN (gN 5) (zN (gN 6) yM)))) (vX))) (g:=(lZ)) (vQ PassesOwn.never rfl (zTj (zT 2)) (oP 3 rfl (zG (yC 4 sc_law_text.nd) (zG (yC 5 sc_law_text.nd) (zG (yC 6 sc_law_text.nd) xZ))) (yZ (yZ (yZ xN)))) (zV (f:=(zK 7 (sQ (eC (.str "")) (yV (iT (eV 5)) 2 [] (gT (zN (gN 0) (zN (gN 1) yM))) tOK (yD (eIx (eC (.str "+-")) (eV 1)) (eIx (eC (.str "xyz")) (eV 0))))))) (g:=(nQ)) (zL 7 sc_law_text.nd (zXP (qK PySem.F.plainAttrs_str PySem.F.slot_str_join PySem.F.type_str_join zXS vK (yS (bE (xE (zX vJ) ["_law_dims","_law_joined_here","_law_parts","_law_rows","_law_corner","_law_turn_here","_law_back","_law_signs","_law_row"] ["_law_axis","_law_flip"] [] [] (zXA (xL (uJ 0) (xL (uJ 1) qI))) (zYl (zT 5)) rfl rfl rfl (by decide +kernel) (fun _ _ _ _=>(oP 2 rfl (zG (yC 0 (show(List.Nodup (α:=PySem.Str) ["_law_axis","_law_flip"]) from by decide +kernel)) (zG (yC 1 (show(List.Nodup (α:=PySem.Str) ["_law_axis","_law_flip"]) from by decide +kernel)) xZ)) (yZ (yZ xN)))) (fun _ _ _ _=>yJ) (fun _ _ _ _=>(oF (xO vK (zT 1)) (xO vK (zT 0)))))) yB))))
     (zV (f:=(zK 8 (yD (yD (yD (eC (.str "part ")) (sQ (eC (.str "")) (yV (iT (eV 4)) 1 [] (gN 0) tOK (rZ (eV 0))))) (eC (.str " "))) (eV 7)))) (g:=(mZ)) (zL 8 sc_law_text.nd (oF (oF (oF vK (zXP (qK PySem.F.plainAttrs_str PySem.F.slot_str_join PySem.F.type_str_join zXS vK (yS (bE (xE (zX vJ) ["_law_dims","_law_joined_here","_law_parts","_law_rows","_law_corner","_law_turn_here","_law_back","_law_signs","_law_row"] ["_law_bit"] [] [] (uJ 0) (zYl (zT 4)) rfl rfl rfl (by decide +kernel) (fun _ _ _ _=>(yC 0 (show(List.Nodup (α:=PySem.Str) ["_law_bit"]) from by decide +kernel))) (fun _ _ _ _=>yJ) (fun _ _ _ _=>(zWh rfl T.z_str (zT 0))))) yB)))) vK) (zT 7)))
     (zV (f:=(sIf (tB1 (eV 6)) (zK 8 (yD (eV 8) (eC (.str " back")))) yU)) (g:=(mV)) (yR (xM (zT 6)) (zR (zL 8 sc_law_text.nd (oF (zT 8) vK))) zB)
     (zR (zZD 3 (qK PySem.F.plainAttrs_list PySem.F.slot_list_append PySem.F.type_list_append qB (pv 3) (yS (zT 8) yB))))))))
     (zR (sM 3 (zF (zXP (qK PySem.F.plainAttrs_str PySem.F.slot_str_join PySem.F.type_str_join zXS vK (yS (fV (zT 3)) yB))))))))
theorem zX8:FnScope ["_law_number_here"] ["_law_number_here"] (zX tR):=⟨rfl,rfl,rfl,by decide +kernel,rfl,by decide +kernel,by decide +kernel⟩
def nI:Sf:=(yY (yG (vV (eV 0) (eC (.int 6))) (eC (.int 13))))
def mY:Sf:=(zM (sIf (eB2 gEq (yG (eV 0) (eC (.int 6))) (eC (.int 0))) (yY (yG (vV (eV 0) (eC (.int 6))) (eC (.int 61)))) yU)
   (nI))
def b_law_level:Sf :=
   (mY)
def oK:List D->Option D:=fnF 1 b_law_level
theorem zXD (T:Txt w K mg):FnOk P w K mg base CX0 1 T.f_law_level T.fd_law_level ["_law_number_here"] (spF K 1 oK) :=
 xU (k:=0) T.F_law_level zX8 fun cdv A outer s H E hr =>
   (zV (f:=(sIf (eB2 gEq (yG (eV 0) (eC (.int 6))) (eC (.int 0))) (yY (yG (vV (eV 0) (eC (.int 6))) (eC (.int 61)))) yU)) (g:=(nI)) (yR (yT tP (xQ (zT 0) zW) zW) (zR (zF (xQ (uL (zT 0) zW) zW))) zB)
     (zR (zF (xQ (uL (zT 0) zW) zW))))
theorem sc_law_number:FnScope ["_law_cell","_law_dims","_law_level_here","_law_base_here","_law_k","_law_pick","_law_big"] ["_law_cell","_law_dims","_law_level_here"] (zX uZ):=⟨rfl,rfl,rfl,by decide +kernel,rfl,by decide +kernel,by decide +kernel⟩
def wA:Sf:=(zK 3 (mJ (eV 3) (eIx (eL (yO (zZ (eC (.int 4)) (zZ (eC (.int 8)) zS)))) (mU (eV 1) (eC (.int 2))))))
def kA:Sf:=(yY (eV 6))
def pD:Sf:=(zM (sIf (eB2 gEq (eV 5) (eC (.int 1))) (yY (mU (eV 3) (eC (.int 1)))) yU)
   (kA))
def sW:Sf:=(zM (sIf (eB2 gEq (eV 5) (eC (.int 0))) (yY (eC (.int 0))) yU)
   (pD))
def oW:Sf:=(zM (sIf (eB2 gGe (eV 0) (hJ (eC (.int 10)) (eC (.int 12)))) (zM (zK 5 (yG (yG (aF (eV 0) (eC (.int 30))) (eC (.int 1024))) (eC (.int 5))))
   (zK 6 (yG (aF (eV 0) (eC (.int 40))) (eV 3)))) yU)
   (sW))
def pW:Sf:=(zM (zK 6 (yG (mJ (eV 0) (hJ (eC (.int 7046029254386353131)) (eC (.int 3)))) (eV 3)))
   (oW))
def pG:Sf:=(zM (zK 5 (yG (eV 0) (eC (.int 5))))
   (pW))
def pO:Sf:=(zM (wX (iR (eV 2)) (gN 4) (wA))
   (pG))
def pJ:Sf:=(zM (zK 3 (eC (.int 1)))
   (pO))
def b_law_number:Sf :=
   (pJ)
def uW:List D->Option D:=fnF 7 b_law_number
theorem iJ (T:Txt w K mg):FnOk P w K mg base CX0 1 T.f_law_number T.fd_law_number ["_law_cell","_law_dims","_law_level_here"] (spF K 3 uW) :=
 xU (k:=0) T.F_law_number sc_law_number fun cdv A outer s H E hr =>
   (zV (f:=(zK 3 (eC (.int 1)))) (g:=(pO)) (zL 3 sc_law_number.nd zW)
     (zV (f:=(wX (iR (eV 2)) (gN 4) (wA))) (g:=(pG)) (vQ PassesOwn.never rfl (fE rfl T.z_range (zT 2)) (yC 4 sc_law_number.nd) (zR (zL 3 sc_law_number.nd (gU (zT 3) (xO (vP (xX (zY zW (zY zW zU)))) (jY (zT 1) zW))))))
     (zV (f:=(zK 5 (yG (eV 0) (eC (.int 5))))) (g:=(pW)) (zL 5 sc_law_number.nd (xQ (zT 0) zW))
     (zV (f:=(zK 6 (yG (mJ (eV 0) (hJ (eC (.int 7046029254386353131)) (eC (.int 3)))) (eV 3)))) (g:=(oW)) (zL 6 sc_law_number.nd (xQ (gU (zT 0) (zZU zW zW)) (zT 3)))
     (zV (f:=(sIf (eB2 gGe (eV 0) (hJ (eC (.int 10)) (eC (.int 12)))) (zM (zK 5 (yG (yG (aF (eV 0) (eC (.int 30))) (eC (.int 1024))) (eC (.int 5))))
   (zK 6 (yG (aF (eV 0) (eC (.int 40))) (eV 3)))) yU)) (g:=(sW)) (yR (yT zSB (zT 0) (zZU zW zW)) (zV (zL 5 sc_law_number.nd (xQ (xQ (zXl (zT 0) zW) zW) zW))
     (zR (zL 6 sc_law_number.nd (xQ (zXl (zT 0) zW) (zT 3))))) zB)
     (zV (f:=(sIf (eB2 gEq (eV 5) (eC (.int 0))) (yY (eC (.int 0))) yU)) (g:=(pD)) (yR (yT tP (zT 5) zW) (zR (zF zW)) zB)
     (zV (f:=(sIf (eB2 gEq (eV 5) (eC (.int 1))) (yY (mU (eV 3) (eC (.int 1)))) yU)) (g:=(kA)) (yR (yT tP (zT 5) zW) (zR (zF (jY (zT 3) zW))) zB)
     (zR (zF (zT 6))))))))))
theorem sc_digits_of:FnScope ["number","base","many","digits","step"] ["number","base","many"] (zX tM):=⟨rfl,rfl,rfl,by decide +kernel,rfl,by decide +kernel,by decide +kernel⟩
def pP:Sf:=(zK 0 (vV (eV 0) (eV 1)))
def vM:Sf:=(zM (hW 3 (yG (eV 0) (eV 1)))
   (pP))
def nF:Sf:=(oO 3 (qL (zSk (iL (eV 3)) (zUV (eC (.int 1))))))
def nN:Sf:=(zM (wX (iR (eV 2)) (gN 4) (vM))
   (nF))
def nX:Sf:=(zM (xF 3 (yO zS))
   (nN))
def b_digits_of:Sf :=
   (nX)
def oC:List D->Option (List D):=fnL 5 b_digits_of
theorem zX7 (T:Txt w K mg):FnOk P w K mg base CX0 1 T.f_digits_of T.fd_digits_of ["number","base","many"] (spL K 3 oC) :=
 jR (k:=0) T.F_digits_of sc_digits_of fun cdv A outer s H E hr =>
   (zV (f:=(xF 3 (yO zS))) (g:=(nN)) (tW 3 sc_digits_of.nd (xX zU))
     (zV (f:=(wX (iR (eV 2)) (gN 4) (vM))) (g:=(nF)) (vQ PassesOwn.never rfl (fE rfl T.z_range (zT 2)) (yC 4 sc_digits_of.nd) (zV (f:=(hW 3 (yG (eV 0) (eV 1)))) (g:=(pP)) (zZD 3 (qK PySem.F.plainAttrs_list PySem.F.slot_list_append PySem.F.type_list_append qB (pv 3) (yS (xQ (zT 0) (zT 1)) yB)))
     (zR (zL 0 sc_digits_of.nd (uL (zT 0) (zT 1))))))
     (zR (sM 3 (jK (zRj (fV (zT 3)) (zUO zW)))))))
theorem sc_place_at:FnScope ["curve","level","number","state","place","digit","corner"] ["curve","level","number"] (zX rW):=⟨rfl,rfl,rfl,by decide +kernel,rfl,by decide +kernel,by decide +kernel⟩
def nK:Sf:=(zK 4 (zO 2 sT (zZ (eV 4) (zZ (eV 6) zS))))
def rQ:Sf:=(zM (tJ (zO 3 xK (zZ (eV 0) (zZ (eV 3) (zZ (eV 5) zS)))) (gT (zN (gN 6) (zN (gN 3) yM))))
   (nK))
def gF:Sf:=(yY (eV 4))
def lY:Sf:=(zM (wX (wZ 3 oC (zZ (eV 2) (zZ (xP (xY "Curve" "parts" (eV 0))) (zZ (eV 1) zS)))) (gN 5) (rQ))
   (gF))
def mC:Sf:=(zM (zK 4 (zWZ (zI (zZ (eC (.int 0)) zS)) (xY "Curve" "dims" (eV 0))))
   (lY))
def lL:Sf:=(zM (zK 3 (zO 1 xA (zZ (xY "Curve" "dims" (eV 0)) zS)))
   (mC))
def lM:Sf:=(zM (sIf (xS (eB3 gLe gLt (eC (.int 0)) (eV 2) (zO 2 rR (zZ (xY "Curve" "dims" (eV 0)) (zZ (eV 1) zS))))) (fun _=>none) yU)
   (lL))
def b_place_at:Sf :=
   (lM)
def sH:List D->Option D:=fnF 7 b_place_at
theorem dE (T:Txt w K mg):FnOk P w K mg base CX0 3 T.f_place_at T.fd_place_at ["curve","level","number"] (spF K 3 sH) :=
 xU (k:=2) T.F_place_at sc_place_at fun cdv A outer s H E hr =>
   (zV (f:=(sIf (xS (eB3 gLe gLt (eC (.int 0)) (eV 2) (zO 2 rR (zZ (xY "Curve" "dims" (eV 0)) (zZ (eV 1) zS))))) (fun _=>none) yU)) (g:=(lL)) (yR (vR (eZ aR zU7 zW (zT 2) (zJ (cG T) (hr.mono (by omega)) T.m_full T.F_full.kp T.b_full rfl (zY (wL T.ca_Curve T.cl_Curve T.n_Curve_dims (zT 0)) (zY (zT 1) zU))))) (zR tZ) zB)
     (zV (f:=(zK 3 (zO 1 xA (zZ (xY "Curve" "dims" (eV 0)) zS)))) (g:=(mC)) (zL 3 sc_place_at.nd (zJ (oQ T) (hr.mono (by omega)) T.m_first_state T.F_first_state.kp T.b_first_state rfl (zY (wL T.ca_Curve T.cl_Curve T.n_Curve_dims (zT 0)) zU)))
     (zV (f:=(zK 4 (zWZ (zI (zZ (eC (.int 0)) zS)) (xY "Curve" "dims" (eV 0))))) (g:=(lY)) (zL 4 sc_place_at.nd (zQ5 (zH (zY zW zU)) (wL T.ca_Curve T.cl_Curve T.n_Curve_dims (zT 0))))
     (zV (f:=(wX (wZ 3 oC (zZ (eV 2) (zZ (xP (xY "Curve" "parts" (eV 0))) (zZ (eV 1) zS)))) (gN 5) (rQ))) (g:=(gF)) (vQ PassesOwn.never rfl (zPT (rO (zX7 T) (hr.mono (by omega)) T.m_digits_of T.F_digits_of.kp T.b_digits_of rfl (zY (zT 2) (zY (wU rfl T.z_len (wL T.ca_Curve T.cl_Curve T.n_Curve_parts (zT 0))) (zY (zT 1) zU))))) (yC 5 sc_place_at.nd) (zV (f:=(tJ (zO 3 xK (zZ (eV 0) (zZ (eV 3) (zZ (eV 5) zS)))) (gT (zN (gN 6) (zN (gN 3) yM))))) (g:=(nK)) (sN (zJ (rS T) (hr.mono (by omega)) T.m_part_at T.F_part_at.kp T.b_part_at rfl (zY (zT 0) (zY (zT 3) (zY (zT 5) zU)))) (oP 2 rfl (zG (yC 6 sc_place_at.nd) (zG (yC 3 sc_place_at.nd) xZ)) (yZ (yZ xN))))
     (zR (zL 4 sc_place_at.nd (zJ (dS T) (hr.mono (by omega)) T.m_deeper T.F_deeper.kp T.b_deeper rfl (zY (zT 4) (zY (zT 6) zU)))))))
     (zR (zF (zT 4)))))))
theorem sc_law_place:FnScope ["_law_cell","_law_dims","_law_level_here","_law_side","_law_k"] ["_law_cell","_law_dims","_law_level_here"] (zX wH):=⟨rfl,rfl,rfl,by decide +kernel,rfl,by decide +kernel,by decide +kernel⟩
def pU:Sf:=(zK 3 (vT (eV 3) (eV 3)))
def nW:Sf:=(yY (xR (eL (yV (iR (eV 1)) 1 [3,0] (gN 0) tOK (yG (mJ (eV 2) (hJ (vT (eC (.int 7046029254386353131)) (mJ (eC (.int 2)) (eV 0))) (eC (.int 2)))) (eV 1))))))
def uD:Sf:=(zM (sIf (eB2 gGe (eV 0) (hJ (eC (.int 10)) (eC (.int 12)))) (yY (xR (eL (yV (iR (eV 1)) 1 [3,0,2] (gN 0) tOK (yG (aF (eV 2) (vT (eC (.int 220)) (mJ (eV 3) (eV 0)))) (eV 1)))))) yU)
   (nW))
def nU:Sf:=(zM (wX (iR (eV 2)) (gN 4) (pU))
   (uD))
def nP:Sf:=(zM (zK 3 (eC (.int 1)))
   (nU))
def b_law_place:Sf :=
   (nP)
def rD:List D->Option D:=fnF 5 b_law_place
theorem zXw (T:Txt w K mg):FnOk P w K mg base CX0 1 T.f_law_place T.fd_law_place ["_law_cell","_law_dims","_law_level_here"] (spF K 3 rD) :=
 xU (k:=0) T.F_law_place sc_law_place fun cdv A outer s H E hr =>
   (zV (f:=(zK 3 (eC (.int 1)))) (g:=(nU)) (zL 3 sc_law_place.nd zW)
     (zV (f:=(wX (iR (eV 2)) (gN 4) (pU))) (g:=(uD)) (vQ PassesOwn.never rfl (fE rfl T.z_range (zT 2)) (yC 4 sc_law_place.nd) (zR (zL 3 sc_law_place.nd (uN (zT 3) (zT 3)))))
     (zV (f:=(sIf (eB2 gGe (eV 0) (hJ (eC (.int 10)) (eC (.int 12)))) (yY (xR (eL (yV (iR (eV 1)) 1 [3,0,2] (gN 0) tOK (yG (aF (eV 2) (vT (eC (.int 220)) (mJ (eV 3) (eV 0)))) (eV 1)))))) yU)) (g:=(nW)) (yR (yT zSB (zT 0) (zZU zW zW)) (zR (zF (wR rfl T.z_tuple (vP (xE (zX wH) ["_law_cell","_law_dims","_law_level_here","_law_side","_law_k"] ["_law_k"] ["_law_side","_law_cell","_law_level_here"] [3,0,2] (uJ 0) (fE rfl T.z_range (zT 1)) rfl rfl rfl (by decide +kernel) (fun _ _ _ _=>(yC 0 (show(List.Nodup (α:=PySem.Str) ["_law_k","_law_side","_law_cell","_law_level_here"]) from by decide +kernel))) (fun _ _ _ _=>yJ) (fun _ _ _ _=>(xQ (zXl (zT 2) (uN zW (gU (zT 3) (zT 0)))) (zT 1)))))))) zB)
     (zR (zF (wR rfl T.z_tuple (vP (xE (zX wH) ["_law_cell","_law_dims","_law_level_here","_law_side","_law_k"] ["_law_k"] ["_law_side","_law_cell"] [3,0] (uJ 0) (fE rfl T.z_range (zT 1)) rfl rfl rfl (by decide +kernel) (fun _ _ _ _=>(yC 0 (show(List.Nodup (α:=PySem.Str) ["_law_k","_law_side","_law_cell"]) from by decide +kernel))) (fun _ _ _ _=>yJ) (fun _ _ _ _=>(xQ (gU (zT 2) (zZU (uN zW (gU zW (zT 0))) zW)) (zT 1)))))))))))
theorem sc_has_place:FnScope ["dims","level","place","side"] ["dims","level","place"] (zX vE):=⟨rfl,rfl,rfl,by decide +kernel,rfl,by decide +kernel,by decide +kernel⟩
def mX:Sf:=(yY (kT (xJ (eB2 gEq (xP (eV 2)) (eV 0))) (zTZ (eL (yV (iT (eV 2)) 1 [3] (gN 0) tOK (xJ (eB3 gLe gLt (eC (.int 0)) (eV 0) (eV 1))))))))
def nH:Sf:=(zM (zK 3 (zO 2 rR (zZ (eC (.int 1)) (zZ (eV 1) zS))))
   (mX))
def b_has_place:Sf :=
   (nH)
def oJ:List D->Option D:=fnF 4 b_has_place
theorem zYc (T:Txt w K mg):FnOk P w K mg base CX0 2 T.f_has_place T.fd_has_place ["dims","level","place"] (spF K 3 oJ) :=
 xU (k:=1) T.F_has_place sc_has_place fun cdv A outer s H E hr =>
   (zV (f:=(zK 3 (zO 2 rR (zZ (eC (.int 1)) (zZ (eV 1) zS))))) (g:=(mX)) (zL 3 sc_has_place.nd (zJ (cG T) (hr.mono (by omega)) T.m_full T.F_full.kp T.b_full rfl (zY zW (zY (zT 1) zU))))
     (zR (zF (bP (uM tP (wU rfl T.z_len (zT 2)) (zT 0)) (zX1 (zSm rfl rfl T.z_all (vP (xE (zX vE) ["dims","level","place","side"] ["along"] ["side"] [3] (uJ 0) (zYl (zT 2)) rfl rfl rfl (by decide +kernel) (fun _ _ _ _=>(yC 0 (show(List.Nodup (α:=PySem.Str) ["along","side"]) from by decide +kernel))) (fun _ _ _ _=>yJ) (fun _ _ _ _=>(zWW aR zU7 zW (zT 0) (zT 1)))))))))))
theorem zXX:FnScope ["dims","level","place"] ["dims","level","place"] (zX tS):=⟨rfl,rfl,rfl,by decide +kernel,rfl,by decide +kernel,by decide +kernel⟩
def nV:Sf:=(sIf (xS (tB1 (zO 3 oJ (zZ (eV 0) (zZ (eV 1) (zZ (eV 2) zS)))))) (fun _=>none) yU)
def b_ask_place:Sf :=
   (nV)
def rF:List D->Option D:=fnF 3 b_ask_place
theorem zXB (T:Txt w K mg):FnOk P w K mg base CX0 3 T.f_ask_place T.fd_ask_place ["dims","level","place"] (spF K 3 rF) :=
 xU (k:=2) T.F_ask_place zXX fun cdv A outer s H E hr =>
   (zR (yR (vR (xM (zJ (zYc T) (hr.mono (by omega)) T.m_has_place T.F_has_place.kp T.b_has_place rfl (zY (zT 0) (zY (zT 1) (zY (zT 2) zU)))))) (zR tZ) zB))
theorem sc_undone:FnScope ["turn","pairs","bit","axis","flip"] ["turn"] (zX mT):=⟨rfl,rfl,rfl,by decide +kernel,rfl,by decide +kernel,by decide +kernel⟩
def dH:Sf:=(iK 1 (eV 3) (zI (zZ (eV 2) (zZ (eV 4) zS))))
def dA:Sf:=(zM (tJ (eIx (eV 0) (eV 2)) (gT (zN (gN 3) (zN (gN 4) yM))))
   (dH))
def bH:Sf:=(oO 1 (yY (xR (eV 1))))
def bC:Sf:=(zM (wX (iR (xP (eV 0))) (gN 2) (dA))
   (bH))
def zVp:Sf:=(zM (xF 1 (gE (eV 0)))
   (bC))
def b_undone:Sf :=
   (zVp)
def pT:List D->Option D:=fnF 5 b_undone
theorem zTf (T:Txt w K mg):FnOk P w K mg base CX0 1 T.f_undone T.fd_undone ["turn"] (spF K 1 pT) :=
 xU (k:=0) T.F_undone sc_undone fun cdv A outer s H E hr =>
   (zV (f:=(xF 1 (gE (eV 0)))) (g:=(bC)) (tW 1 sc_undone.nd (zZh rfl T.z_list (zT 0)))
     (zV (f:=(wX (iR (xP (eV 0))) (gN 2) (dA))) (g:=(bH)) (vQ PassesOwn.never rfl (fE rfl T.z_range (wU rfl T.z_len (zT 0))) (yC 2 sc_undone.nd) (zV (f:=(tJ (eIx (eV 0) (eV 2)) (gT (zN (gN 3) (zN (gN 4) yM))))) (g:=(dH)) (sN (xO (zT 0) (zT 2)) (oP 2 rfl (zG (yC 3 sc_undone.nd) (zG (yC 4 sc_undone.nd) xZ)) (yZ (yZ xN))))
     (zR (bX 1 (zH (zY (zT 2) (zY (zT 4) zU))) (zT 3)))))
     (zR (sM 1 (zF (wR rfl T.z_tuple (zT 1)))))))
theorem sc_digit_at:FnScope ["curve","state","corner","turn","back","own","corners"] ["curve","state","corner"] (zX tU):=⟨rfl,rfl,rfl,by decide +kernel,rfl,by decide +kernel,by decide +kernel⟩
def lS:Sf:=(oO 6 (yY (zO 3 sU (zZ (eV 0) (zZ (eV 4) (zZ (aB (iL (eV 6)) (eV 5)) zS))))))
def mI:Sf:=(zM (xF 6 (yV (iL (xY "Curve" "parts" (eV 0))) 1 [] (gN 0) tOK (xY "Part" "corner" (eV 0))))
   (lS))
def lG:Sf:=(zM (zK 5 (zO 2 tY (zZ (zO 1 pT (zZ (eV 3) zS)) (zZ (eV 2) zS))))
   (mI))
def zXW:Sf:=(zM (tJ (eV 1) (gT (zN (gN 3) (zN (gN 4) yM))))
   (lG))
def b_digit_at:Sf :=
   (zXW)
def pI:List D->Option D:=fnF 7 b_digit_at
theorem zWj (T:Txt w K mg):FnOk P w K mg base CX0 2 T.f_digit_at T.fd_digit_at ["curve","state","corner"] (spF K 3 pI) :=
 xU (k:=1) T.F_digit_at sc_digit_at fun cdv A outer s H E hr =>
   (zV (f:=(tJ (eV 1) (gT (zN (gN 3) (zN (gN 4) yM))))) (g:=(lG)) (sN (zT 1) (oP 2 rfl (zG (yC 3 sc_digit_at.nd) (zG (yC 4 sc_digit_at.nd) xZ)) (yZ (yZ xN))))
     (zV (f:=(zK 5 (zO 2 tY (zZ (zO 1 pT (zZ (eV 3) zS)) (zZ (eV 2) zS))))) (g:=(mI)) (zL 5 sc_digit_at.nd (zJ (zY9 T) (hr.mono (by omega)) T.m_turned T.F_turned.kp T.b_turned rfl (zY (zJ (zTf T) (hr.mono (by omega)) T.m_undone T.F_undone.kp T.b_undone rfl (zY (zT 3) zU)) (zY (zT 2) zU))))
     (zV (f:=(xF 6 (yV (iL (xY "Curve" "parts" (eV 0))) 1 [] (gN 0) tOK (xY "Part" "corner" (eV 0))))) (g:=(lS)) (pN (zX tU) ["curve","state","corner","turn","back","own","corners"] ["part"] [] [] (uJ 0) 6 sc_digit_at.nd rfl rfl (zTj (wL T.ca_Curve T.cl_Curve T.n_Curve_parts (zT 0))) rfl rfl rfl (by decide +kernel) (fun _ _ _ _=>(yC 0 (show(List.Nodup (α:=PySem.Str) ["part"]) from by decide +kernel))) (fun _ _ _ _=>yJ) (fun _ _ _ _=>(wL T.ca_Part T.cl_Part T.n_Part_corner (zT 0))))
     (zR (sM 6 (zF (zJ (zY3 T) (hr.mono (by omega)) T.m_walked T.F_walked.kp T.b_walked rfl (zY (zT 0) (zY (zT 4) (zY (zS9 hr (qK PySem.F.plainAttrs_list PySem.F.slot_list_index PySem.F.type_list_index (zRS hr) (fV (zT 6)) (yS (zT 5) yB))) zU))))))))))
theorem sc_number_at:FnScope ["curve","level","place","state","number","half","corner","digit"] ["curve","level","place"] (zX vL):=⟨rfl,rfl,rfl,by decide +kernel,rfl,by decide +kernel,by decide +kernel⟩
def nZ:Sf:=(yY (eV 4))
def nE:Sf:=(zM (vN (eB2 gGt (eV 5) (eC (.int 0))) (zM (zK 6 (xR (eL (yV (iT (eV 2)) 1 [5] (gN 0) tOK (yG (kZ (eV 0) (eV 1)) (eC (.int 2)))))))
   (zM (zK 7 (zO 3 pI (zZ (eV 0) (zZ (eV 3) (zZ (eV 6) zS)))))
   (zM (zK 4 (vT (pK (eV 4) (xP (xY "Curve" "parts" (eV 0)))) (eV 7)))
   (zM (zK 3 (eIx (zO 3 xK (zZ (eV 0) (zZ (eV 3) (zZ (eV 7) zS)))) (eC (.int 1))))
   (zK 5 (kZ (eV 5) (eC (.int 2)))))))) 100)
   (nZ))
def nJ:Sf:=(zM (zK 5 (kZ (zO 2 rR (zZ (eC (.int 1)) (zZ (eV 1) zS))) (eC (.int 2))))
   (nE))
def nR:Sf:=(zM (zK 4 (eC (.int 0)))
   (nJ))
def nC:Sf:=(zM (zK 3 (zO 1 xA (zZ (xY "Curve" "dims" (eV 0)) zS)))
   (nR))
def nY:Sf:=(zM (zXb (zO 3 rF (zZ (xY "Curve" "dims" (eV 0)) (zZ (eV 1) (zZ (eV 2) zS)))))
   (nC))
def b_number_at:Sf :=
   (nY)
def vO:List D->Option D:=fnF 8 b_number_at
theorem gS (T:Txt w K mg):FnOk P w K mg base CX0 4 T.f_number_at T.fd_number_at ["curve","level","place"] (spF K 3 vO) :=
 xU (k:=3) T.F_number_at sc_number_at fun cdv A outer s H E hr =>
   (zV (f:=(zXb (zO 3 rF (zZ (xY "Curve" "dims" (eV 0)) (zZ (eV 1) (zZ (eV 2) zS)))))) (g:=(nC)) (zSq (zJ (zXB T) (hr.mono (by omega)) T.m_ask_place T.F_ask_place.kp T.b_ask_place rfl (zY (wL T.ca_Curve T.cl_Curve T.n_Curve_dims (zT 0)) (zY (zT 1) (zY (zT 2) zU)))))
     (zV (f:=(zK 3 (zO 1 xA (zZ (xY "Curve" "dims" (eV 0)) zS)))) (g:=(nR)) (zL 3 sc_number_at.nd (zJ (oQ T) (hr.mono (by omega)) T.m_first_state T.F_first_state.kp T.b_first_state rfl (zY (wL T.ca_Curve T.cl_Curve T.n_Curve_dims (zT 0)) zU)))
     (zV (f:=(zK 4 (eC (.int 0)))) (g:=(nJ)) (zL 4 sc_number_at.nd zW)
     (zV (f:=(zK 5 (kZ (zO 2 rR (zZ (eC (.int 1)) (zZ (eV 1) zS))) (eC (.int 2))))) (g:=(nE)) (zL 5 sc_number_at.nd (zYg (zJ (cG T) (hr.mono (by omega)) T.m_full T.F_full.kp T.b_full rfl (zY zW (zY (zT 1) zU))) zW))
     (zV (f:=(vN (eB2 gGt (eV 5) (eC (.int 0))) (zM (zK 6 (xR (eL (yV (iT (eV 2)) 1 [5] (gN 0) tOK (yG (kZ (eV 0) (eV 1)) (eC (.int 2)))))))
   (zM (zK 7 (zO 3 pI (zZ (eV 0) (zZ (eV 3) (zZ (eV 6) zS)))))
   (zM (zK 4 (vT (pK (eV 4) (xP (xY "Curve" "parts" (eV 0)))) (eV 7)))
   (zM (zK 3 (eIx (zO 3 xK (zZ (eV 0) (zZ (eV 3) (zZ (eV 7) zS)))) (eC (.int 1))))
   (zK 5 (kZ (eV 5) (eC (.int 2)))))))) 100)) (g:=(nZ)) (eG 100 PassesOwn.never (yT zUx (zT 5) zW) (zV (zL 6 sc_number_at.nd (wR rfl T.z_tuple (vP (xE (zX vL) ["curve","level","place","state","number","half","corner","digit"] ["along"] ["half"] [5] (uJ 0) (zYl (zT 2)) rfl rfl rfl (by decide +kernel) (fun _ _ _ _=>(yC 0 (show(List.Nodup (α:=PySem.Str) ["along","half"]) from by decide +kernel))) (fun _ _ _ _=>yJ) (fun _ _ _ _=>(xQ (zYg (zT 0) (zT 1)) zW))))))
     (zV (zL 7 sc_number_at.nd (zJ (zWj T) (hr.mono (by omega)) T.m_digit_at T.F_digit_at.kp T.b_digit_at rfl (zY (zT 0) (zY (zT 3) (zY (zT 6) zU)))))
     (zV (zL 4 sc_number_at.nd (uN (nS (zT 4) (wU rfl T.z_len (wL T.ca_Curve T.cl_Curve T.n_Curve_parts (zT 0)))) (zT 7)))
     (zV (zL 3 sc_number_at.nd (xO (zJ (rS T) (hr.mono (by omega)) T.m_part_at T.F_part_at.kp T.b_part_at rfl (zY (zT 0) (zY (zT 3) (zY (zT 7) zU)))) zW))
     (zR (zL 5 sc_number_at.nd (zYg (zT 5) zW))))))))
     (zR (zF (zT 4))))))))
theorem sc_law_same:FnScope ["_law_found","_law_due","_law_k"] ["_law_found","_law_due"] (zX rY):=⟨rfl,rfl,rfl,by decide +kernel,rfl,by decide +kernel,by decide +kernel⟩
def uC (self:List D->Option D):Sf:=(sIf (xS (tB1 (zO 2 self (zZ (eIx (eV 0) (eV 2)) (zZ (eIx (eV 1) (eV 2)) zS))))) (yY (eC (.bl false))) yU)
def lP (self:List D->Option D):Sf:=(yY (eC (.bl true)))
def sZ (self:List D->Option D):Sf:=(zM (wX (iR (xP (eV 1))) (gN 2) (uC self))
   (lP self))
def qF (self:List D->Option D):Sf:=(zM (sIf (eB2 gNe (xP (eV 0)) (xP (eV 1))) (yY (eC (.bl false))) yU)
   (sZ self))
def qH (self:List D->Option D):Sf:=(zM (sIf (dC (tB1 (uA oG (eV 1))) (xS (tB1 (uA oG (eV 0))))) (yY (eC (.bl false))) yU)
   (qF self))
def qG (self:List D->Option D):Sf:=(zM (sIf (dC (tB1 (uA lC (eV 1))) (xS (tB1 (uA lC (eV 0))))) (yY (eC (.bl false))) yU)
   (qH self))
def sX (self:List D->Option D):Sf:=(zM (sIf (tB1 (uA mP (eV 1))) (yY (kT (uA mP (eV 0)) (xJ (eB2 gEq (eV 0) (eV 1))))) yU)
   (qG self))
def uV (self:List D->Option D):Sf:=(zM (sIf (tB1 (uA isInt (eV 1))) (yY (kT (uA isInt (eV 0)) (kT (xJ (xS (tB1 (uA qN (eV 0))))) (xJ (eB2 gEq (eV 0) (eV 1)))))) yU)
   (sX self))
def uT (self:List D->Option D):Sf:=(zM (sIf (eB2 pQ (eV 1) (eC (.bl false))) (yY (xJ (eB2 pQ (eV 0) (eC (.bl false))))) yU)
   (uV self))
def uX (self:List D->Option D):Sf:=(zM (sIf (eB2 pQ (eV 1) (eC (.bl true))) (yY (xJ (eB2 pQ (eV 0) (eC (.bl true))))) yU)
   (uT self))
def xD (self:List D->Option D):Sf:=(zM (sIf (eB2 pQ (eV 1) (eC .non)) (yY (xJ (eB2 pQ (eV 0) (eC .non)))) yU)
   (uX self))
def b_law_same (self:List D->Option D):Sf :=
   (xD self)
def yX:Nat->List D->Option D
 | 0,_=>none
 | n+1,ds=>fnF 3 (b_law_same (yX n)) ds
abbrev rX:List D->Option D:=yX 3
theorem fO (T:Txt w K mg):∀n:Nat,FnOk P w K mg base CX0 (1+n) T.f_law_same T.fd_law_same ["_law_found","_law_due"] (spF K 2 (yX n))
 | 0=>zRv
 | n+1=>by
   have IH:=fO T n
   exact xU (k:=1+n) (body:=b_law_same (yX n)) T.F_law_same sc_law_same fun cdv A outer s H E hr=>(zV (f:=(sIf (eB2 pQ (eV 1) (eC .non)) (yY (xJ (eB2 pQ (eV 0) (eC .non)))) yU)) (g:=(uX (yX n))) (yR (yT lV (zT 1) sV) (zR (zF (uM lV (zT 0) sV))) zB)
     (zV (f:=(sIf (eB2 pQ (eV 1) (eC (.bl true))) (yY (xJ (eB2 pQ (eV 0) (eC (.bl true))))) yU)) (g:=(uT (yX n))) (yR (yT lV (zT 1) uB) (zR (zF (uM lV (zT 0) uB))) zB)
     (zV (f:=(sIf (eB2 pQ (eV 1) (eC (.bl false))) (yY (xJ (eB2 pQ (eV 0) (eC (.bl false))))) yU)) (g:=(uV (yX n))) (yR (yT lV (zT 1) uB) (zR (zF (uM lV (zT 0) uB))) zB)
     (zV (f:=(sIf (tB1 (uA isInt (eV 1))) (yY (kT (uA isInt (eV 0)) (kT (xJ (xS (tB1 (uA qN (eV 0))))) (xJ (eB2 gEq (eV 0) (eV 1)))))) yU)) (g:=(sX (yX n))) (yR (xM (tD (T:="int") (TT:="int") rfl zX3 rfl T.z_isinstance rfl T.z_int (zT 1))) (zR (zF (bP (tD (T:="int") (TT:="int") rfl zX3 rfl T.z_isinstance rfl T.z_int (zT 0)) (bP (zRR (tD (T:="bool") (TT:="bool") rfl zXz rfl T.z_isinstance rfl T.z_bool (zT 0))) (zX1 (uM tP (zT 0) (zT 1))))))) zB)
     (zV (f:=(sIf (tB1 (uA mP (eV 1))) (yY (kT (uA mP (eV 0)) (xJ (eB2 gEq (eV 0) (eV 1))))) yU)) (g:=(qG (yX n))) (yR (xM (tD (T:="str") (TT:="str") rfl zSD rfl T.z_isinstance rfl T.z_str (zT 1))) (zR (zF (bP (tD (T:="str") (TT:="str") rfl zSD rfl T.z_isinstance rfl T.z_str (zT 0)) (zX1 (uM tP (zT 0) (zT 1)))))) zB)
     (zV (f:=(sIf (dC (tB1 (uA lC (eV 1))) (xS (tB1 (uA lC (eV 0))))) (yY (eC (.bl false))) yU)) (g:=(qH (yX n))) (yR (cN (zUB (xM (tD (T:="list") (TT:="list") rfl zSn rfl T.z_isinstance rfl T.z_list (zT 1))) (zW9 (vR (xM (tD (T:="list") (TT:="list") rfl zSn rfl T.z_isinstance rfl T.z_list (zT 0))))))) (zR (zF uB)) zB)
     (zV (f:=(sIf (dC (tB1 (uA oG (eV 1))) (xS (tB1 (uA oG (eV 0))))) (yY (eC (.bl false))) yU)) (g:=(qF (yX n))) (yR (cN (zUB (xM (tD (T:="tuple") (TT:="tuple") rfl zVC rfl T.z_isinstance rfl T.z_tuple (zT 1))) (zW9 (vR (xM (tD (T:="tuple") (TT:="tuple") rfl zVC rfl T.z_isinstance rfl T.z_tuple (zT 0))))))) (zR (zF uB)) zB)
     (zV (f:=(sIf (eB2 gNe (xP (eV 0)) (xP (eV 1))) (yY (eC (.bl false))) yU)) (g:=(sZ (yX n))) (yR (yT zZl (wU rfl T.z_len (zT 0)) (wU rfl T.z_len (zT 1))) (zR (zF uB)) zB)
     (zV (f:=(wX (iR (xP (eV 1))) (gN 2) (uC (yX n)))) (g:=(lP (yX n))) (vQ PassesOwn.never rfl (fE rfl T.z_range (wU rfl T.z_len (zT 1))) (yC 2 sc_law_same.nd) (zR (yR (vR (xM (zJ IH (hr.mono (by omega)) T.m_law_same T.F_law_same.kp T.b_law_same rfl (zY (xO (zT 0) (zT 2)) (zY (xO (zT 1) (zT 2)) zU))))) (zR (zF uB)) zB)))
     (zR (zF uB)))))))))))
theorem cV (T:Txt w K mg):FnOk P w K mg base CX0 4 T.f_law_same T.fd_law_same ["_law_found","_law_due"] (spF K 2 rX):=fO T 3
theorem sc_law_on:FnScope ["_law_place_here","_law_dims","_law_side","_law_each"] ["_law_place_here","_law_dims","_law_side"] (zX mO):=⟨rfl,rfl,rfl,by decide +kernel,rfl,by decide +kernel,by decide +kernel⟩
def oB:Sf:=(sIf (rV (xS (tB1 (uA isInt (eV 3)))) (rV (tB1 (uA qN (eV 3))) (xS (eB3 gLe gLt (eC (.int 0)) (eV 3) (eV 2))))) (yY (eC (.bl false))) yU)
def bM:Sf:=(yY (eC (.bl true)))
def gY:Sf:=(zM (wX (iT (eV 0)) (gN 3) (oB))
   (bM))
def iD:Sf:=(zM (sIf (rV (xS (tB1 (uA oG (eV 0)))) (eB2 gNe (xP (eV 0)) (eV 1))) (yY (eC (.bl false))) yU)
   (gY))
def b_law_on:Sf :=
   (iD)
def fB:List D->Option D:=fnF 4 b_law_on
theorem zTd (T:Txt w K mg):FnOk P w K mg base CX0 1 T.f_law_on T.fd_law_on ["_law_place_here","_law_dims","_law_side"] (spF K 3 fB) :=
 xU (k:=0) T.F_law_on sc_law_on fun cdv A outer s H E hr =>
   (zV (f:=(sIf (rV (xS (tB1 (uA oG (eV 0)))) (eB2 gNe (xP (eV 0)) (eV 1))) (yY (eC (.bl false))) yU)) (g:=(gY)) (yR (cN (rT (vR (xM (tD (T:="tuple") (TT:="tuple") rfl zVC rfl T.z_isinstance rfl T.z_tuple (zT 0)))) (rM (yT zZl (wU rfl T.z_len (zT 0)) (zT 1))))) (zR (zF uB)) zB)
     (zV (f:=(wX (iT (eV 0)) (gN 3) (oB))) (g:=(bM)) (vQ PassesOwn.never rfl (zYl (zT 0)) (yC 3 sc_law_on.nd) (zR (yR (cN (rT (vR (xM (tD (T:="int") (TT:="int") rfl zX3 rfl T.z_isinstance rfl T.z_int (zT 3)))) (rT (xM (tD (T:="bool") (TT:="bool") rfl zXz rfl T.z_isinstance rfl T.z_bool (zT 3))) (rM (vR (eZ aR zU7 zW (zT 3) (zT 2))))))) (zR (zF uB)) zB)))
     (zR (zF uB))))
theorem sc_law_undone_both:FnScope ["_law_curve","_law_dims","_law_level_here","_law_cell","_law_side","_law_k","_law_most","_law_asked","_law_place_here","_law_other","_law_number_here"] ["_law_curve","_law_dims","_law_level_here","_law_cell"] (zX xG):=⟨rfl,rfl,rfl,by decide +kernel,rfl,by decide +kernel,by decide +kernel⟩
def vI:Sf:=(zK 4 (vT (eV 4) (eV 4)))
def vC:Sf:=(yY (zO 2 rX (zZ (zO 3 sH (zZ (eV 0) (zZ (eV 2) (zZ (eV 10) zS)))) (zZ (eV 9) zS))))
def uQ:Sf:=(zM (sIf (eB2 eR (xJ (eB2 zXO (eV 10) (eV 7))) (xJ (eB2 zXO (eV 9) (eV 8)))) (yY (eC (.bl false))) yU)
   (vC))
def uP:Sf:=(zM (sIf (rV (xS (tB1 (uA isInt (eV 10)))) (rV (tB1 (uA qN (eV 10))) (xS (eB3 gLe gLe (eC (.int 0)) (eV 10) (eV 6))))) (yY (eC (.bl false))) yU)
   (uQ))
def uR:Sf:=(zM (zK 10 (zO 3 vO (zZ (eV 0) (zZ (eV 2) (zZ (eV 9) zS)))))
   (uP))
def uK:Sf:=(zM (zK 9 (zO 3 rD (zZ (eV 3) (zZ (eV 1) (zZ (eV 2) zS)))))
   (uR))
def uI:Sf:=(zM (sIf (rV (xS (tB1 (zO 3 fB (zZ (eV 8) (zZ (eV 1) (zZ (eV 4) zS)))))) (xS (tB1 (zO 2 rX (zZ (zO 3 vO (zZ (eV 0) (zZ (eV 2) (zZ (eV 8) zS)))) (zZ (eV 7) zS)))))) (yY (eC (.bl false))) yU)
   (uK))
def uS:Sf:=(zM (zK 8 (zO 3 sH (zZ (eV 0) (zZ (eV 2) (zZ (eV 7) zS)))))
   (uI))
def uF:Sf:=(zM (zK 7 (zO 3 uW (zZ (eV 3) (zZ (eV 1) (zZ (eV 2) zS)))))
   (uS))
def uO:Sf:=(zM (zK 6 (zO 3 uW (zZ (eC (.int 1)) (zZ (eV 1) (zZ (eV 2) zS)))))
   (uF))
def uH:Sf:=(zM (wX (iR (eV 2)) (gN 5) (vI))
   (uO))
def uG:Sf:=(zM (zK 4 (eC (.int 1)))
   (uH))
def b_law_undone_both:Sf :=
   (uG)
def wO:List D->Option D:=fnF 11 b_law_undone_both
theorem iF (T:Txt w K mg):FnOk P w K mg base CX0 5 T.f_law_undone_both T.fd_law_undone_both ["_law_curve","_law_dims","_law_level_here","_law_cell"] (spF K 4 wO) :=
 xU (k:=4) T.F_law_undone_both sc_law_undone_both fun cdv A outer s H E hr =>
   (zV (f:=(zK 4 (eC (.int 1)))) (g:=(uH)) (zL 4 sc_law_undone_both.nd zW)
     (zV (f:=(wX (iR (eV 2)) (gN 5) (vI))) (g:=(uO)) (vQ PassesOwn.never rfl (fE rfl T.z_range (zT 2)) (yC 5 sc_law_undone_both.nd) (zR (zL 4 sc_law_undone_both.nd (uN (zT 4) (zT 4)))))
     (zV (f:=(zK 6 (zO 3 uW (zZ (eC (.int 1)) (zZ (eV 1) (zZ (eV 2) zS)))))) (g:=(uF)) (zL 6 sc_law_undone_both.nd (zJ (iJ T) (hr.mono (by omega)) T.m_law_number T.F_law_number.kp T.b_law_number rfl (zY zW (zY (zT 1) (zY (zT 2) zU)))))
     (zV (f:=(zK 7 (zO 3 uW (zZ (eV 3) (zZ (eV 1) (zZ (eV 2) zS)))))) (g:=(uS)) (zL 7 sc_law_undone_both.nd (zJ (iJ T) (hr.mono (by omega)) T.m_law_number T.F_law_number.kp T.b_law_number rfl (zY (zT 3) (zY (zT 1) (zY (zT 2) zU)))))
     (zV (f:=(zK 8 (zO 3 sH (zZ (eV 0) (zZ (eV 2) (zZ (eV 7) zS)))))) (g:=(uI)) (zL 8 sc_law_undone_both.nd (zJ (dE T) (hr.mono (by omega)) T.m_place_at T.F_place_at.kp T.b_place_at rfl (zY (zT 0) (zY (zT 2) (zY (zT 7) zU)))))
     (zV (f:=(sIf (rV (xS (tB1 (zO 3 fB (zZ (eV 8) (zZ (eV 1) (zZ (eV 4) zS)))))) (xS (tB1 (zO 2 rX (zZ (zO 3 vO (zZ (eV 0) (zZ (eV 2) (zZ (eV 8) zS)))) (zZ (eV 7) zS)))))) (yY (eC (.bl false))) yU)) (g:=(uK)) (yR (cN (rT (vR (xM (zJ (zTd T) (hr.mono (by omega)) T.m_law_on T.F_law_on.kp T.b_law_on rfl (zY (zT 8) (zY (zT 1) (zY (zT 4) zU)))))) (rM (vR (xM (zJ (cV T) (hr.mono (by omega)) T.m_law_same T.F_law_same.kp T.b_law_same rfl (zY (zJ (gS T) (hr.mono (by omega)) T.m_number_at T.F_number_at.kp T.b_number_at rfl (zY (zT 0) (zY (zT 2) (zY (zT 8) zU)))) (zY (zT 7) zU)))))))) (zR (zF uB)) zB)
     (zV (f:=(zK 9 (zO 3 rD (zZ (eV 3) (zZ (eV 1) (zZ (eV 2) zS)))))) (g:=(uR)) (zL 9 sc_law_undone_both.nd (zJ (zXw T) (hr.mono (by omega)) T.m_law_place T.F_law_place.kp T.b_law_place rfl (zY (zT 3) (zY (zT 1) (zY (zT 2) zU)))))
     (zV (f:=(zK 10 (zO 3 vO (zZ (eV 0) (zZ (eV 2) (zZ (eV 9) zS)))))) (g:=(uP)) (zL 10 sc_law_undone_both.nd (zJ (gS T) (hr.mono (by omega)) T.m_number_at T.F_number_at.kp T.b_number_at rfl (zY (zT 0) (zY (zT 2) (zY (zT 9) zU)))))
     (zV (f:=(sIf (rV (xS (tB1 (uA isInt (eV 10)))) (rV (tB1 (uA qN (eV 10))) (xS (eB3 gLe gLe (eC (.int 0)) (eV 10) (eV 6))))) (yY (eC (.bl false))) yU)) (g:=(uQ)) (yR (cN (rT (vR (xM (tD (T:="int") (TT:="int") rfl zX3 rfl T.z_isinstance rfl T.z_int (zT 10)))) (rT (xM (tD (T:="bool") (TT:="bool") rfl zXz rfl T.z_isinstance rfl T.z_bool (zT 10))) (rM (vR (eZ aR aR zW (zT 10) (zT 6))))))) (zR (zF uB)) zB)
     (zV (f:=(sIf (eB2 eR (xJ (eB2 zXO (eV 10) (eV 7))) (xJ (eB2 zXO (eV 9) (eV 8)))) (yY (eC (.bl false))) yU)) (g:=(vC)) (yR (yT (bU hr) (uM (zV3 hr) (zT 10) (zT 7)) (uM (zV3 hr) (zT 9) (zT 8))) (zR (zF uB)) zB)
     (zR (zF (zJ (cV T) (hr.mono (by omega)) T.m_law_same T.F_law_same.kp T.b_law_same rfl (zY (zJ (dE T) (hr.mono (by omega)) T.m_place_at T.F_place_at.kp T.b_place_at rfl (zY (zT 0) (zY (zT 2) (zY (zT 10) zU)))) (zY (zT 9) zU)))))))))))))))
theorem sc_law:FnScope ["_law_script","_law_number_here","_law_dims","_law_parts","_law_curve","_law_spent","_law_cell","_law_level_here"] ["_law_script"] (zX fS):=⟨rfl,rfl,rfl,by decide +kernel,rfl,by decide +kernel,by decide +kernel⟩
def aC:Sf:=(sIf (xS (tB1 (zO 4 wO (zZ (eV 4) (zZ (eV 2) (zZ (eV 7) (zZ (eV 6) zS))))))) (yY (eC (.bl false))) yU)
def fY:Sf:=(zM (zK 5 (vT (eV 5) (eV 7)))
   (aC))
def aY:Sf:=(zM (sIf (eB2 gGt (eV 5) (eC (.int 700))) (zK 7 (yG (eV 7) (eC (.int 6)))) yU)
   (fY))
def kG:Sf:=(zM (zK 7 (zO 1 oK (zZ (zO 3 xW (zZ (eV 6) (zZ (eC (.int 0)) (zZ (eC (.int 48271)) zS)))) zS)))
   (aY))
def zXt:Sf:=(yY (eC (.bl true)))
def zXT:Sf:=(zM (wX (hG (lJ (eV 0) (qM (eC (.int 2))) (qM (eC (.int 62)))) (yO (zZ (eC (.int 17)) zS))) (gN 6) (kG))
   (zXt))
def cB:Sf:=(zM (zK 5 (eC (.int 0)))
   (zXT))
def zYu:Sf:=(zM (zK 4 (zO 1 lF (zZ (zO 3 lR (zZ (eV 2) (zZ (eC (.bl false)) (zZ (eV 3) zS)))) zS)))
   (cB))
def zYe:Sf:=(zM (zK 3 (eL (wZ 2 oI (zZ (eV 2) (zZ (zO 2 w6 (zZ (eV 0) (zZ (eC (.int 1)) zS))) zS)))))
   (zYu))
def zXZ:Sf:=(zM (zK 2 (vT (eC (.int 2)) (yG (eV 1) (eC (.int 2)))))
   (zYe))
def zXG:Sf:=(zM (zK 1 (zO 3 xW (zZ (zO 2 w6 (zZ (eV 0) (zZ (eC (.int 0)) zS))) (zZ (eC (.int 0)) (zZ (eC (.int 69621)) zS)))))
   (zXZ))
def zSl:Sf :=
   (zXG)
def zYX:List D->Option D:=fnF 8 zSl
theorem zO8 (T:Txt w K mg):FnOk P w K mg base CX0 7 T.f_law T.fd_law ["_law_script"] (spF K 1 zYX) :=
 xU (k:=6) T.F_law sc_law fun cdv A outer s H E hr =>
   (zV (f:=(zK 1 (zO 3 xW (zZ (zO 2 w6 (zZ (eV 0) (zZ (eC (.int 0)) zS))) (zZ (eC (.int 0)) (zZ (eC (.int 69621)) zS)))))) (g:=(zXZ)) (zL 1 sc_law.nd (zJ (sA T) (hr.mono (by omega)) T.m_law_cut T.F_law_cut.kp T.b_law_cut rfl (zY (zJ (jP T) (hr.mono (by omega)) T.m_law_cell_at T.F_law_cell_at.kp T.b_law_cell_at rfl (zY (zT 0) (zY zW zU))) (zY zW (zY zW zU)))))
     (zV (f:=(zK 2 (vT (eC (.int 2)) (yG (eV 1) (eC (.int 2)))))) (g:=(zYe)) (zL 2 sc_law.nd (uN zW (xQ (zT 1) zW)))
     (zV (f:=(zK 3 (eL (wZ 2 oI (zZ (eV 2) (zZ (zO 2 w6 (zZ (eV 0) (zZ (eC (.int 1)) zS))) zS)))))) (g:=(zYu)) (zL 3 sc_law.nd (vP (rO (zYh T) (hr.mono (by omega)) T.m_law_drawn T.F_law_drawn.kp T.b_law_drawn rfl (zY (zT 2) (zY (zJ (jP T) (hr.mono (by omega)) T.m_law_cell_at T.F_law_cell_at.kp T.b_law_cell_at rfl (zY (zT 0) (zY zW zU))) zU)))))
     (zV (f:=(zK 4 (zO 1 lF (zZ (zO 3 lR (zZ (eV 2) (zZ (eC (.bl false)) (zZ (eV 3) zS)))) zS)))) (g:=(cB)) (zL 4 sc_law.nd (zJ (zWK T) (hr.mono (by omega)) T.m_curve_of T.F_curve_of.kp T.b_curve_of rfl (zY (zJ (zW8 T) (hr.mono (by omega)) T.m_law_text T.F_law_text.kp T.b_law_text rfl (zY (zT 2) (zY uB (zY (zT 3) zU)))) zU)))
     (zV (f:=(zK 5 (eC (.int 0)))) (g:=(zXT)) (zL 5 sc_law.nd zW)
     (zV (f:=(wX (hG (lJ (eV 0) (qM (eC (.int 2))) (qM (eC (.int 62)))) (yO (zZ (eC (.int 17)) zS))) (gN 6) (kG))) (g:=(zXt)) (vQ PassesOwn.never rfl (zPT (zRK (zXj (zT 0) (zYM zW) (zYM zW)) (xX (zY zW zU)))) (yC 6 sc_law.nd) (zV (f:=(zK 7 (zO 1 oK (zZ (zO 3 xW (zZ (eV 6) (zZ (eC (.int 0)) (zZ (eC (.int 48271)) zS)))) zS)))) (g:=(aY)) (zL 7 sc_law.nd (zJ (zXD T) (hr.mono (by omega)) T.m_law_level T.F_law_level.kp T.b_law_level rfl (zY (zJ (sA T) (hr.mono (by omega)) T.m_law_cut T.F_law_cut.kp T.b_law_cut rfl (zY (zT 6) (zY zW (zY zW zU)))) zU)))
     (zV (f:=(sIf (eB2 gGt (eV 5) (eC (.int 700))) (zK 7 (yG (eV 7) (eC (.int 6)))) yU)) (g:=(fY)) (yR (yT zUx (zT 5) zW) (zR (zL 7 sc_law.nd (xQ (zT 7) zW))) zB)
     (zV (f:=(zK 5 (vT (eV 5) (eV 7)))) (g:=(aC)) (zL 5 sc_law.nd (uN (zT 5) (zT 7)))
     (zR (yR (vR (xM (zJ (iF T) (hr.mono (by omega)) T.m_law_undone_both T.F_law_undone_both.kp T.b_law_undone_both rfl (zY (zT 4) (zY (zT 2) (zY (zT 7) (zY (zT 6) zU))))))) (zR (zF uB)) zB))))))
     (zR (zF uB))))))))
end
open PySem.W
theorem zOP {l:OpenLaw}{w:World}{K:Frag}{h:Heap}{mg:Str->Option Value}{fa:Addr}
   {f0:Addr} {od0 an0:Option Addr} {sl0:Array (Option Value)} {oc0 kV0 dc0 pm0 cd0 ct0:Value}
   {f1:Addr} {od1 an1:Option Addr} {sl1:Array (Option Value)} {oc1 kV1 dc1 pm1 cd1 ct1:Value}
   {f2:Addr} {od2 an2:Option Addr} {sl2:Array (Option Value)} {oc2 kV2 dc2 pm2 cd2 ct2:Value}
   {f3:Addr} {od3 an3:Option Addr} {sl3:Array (Option Value)} {oc3 kV3 dc3 pm3 cd3 ct3:Value}
   {f4:Addr} {od4 an4:Option Addr} {sl4:Array (Option Value)} {oc4 kV4 dc4 pm4 cd4 ct4:Value}
   {f5:Addr} {od5 an5:Option Addr} {sl5:Array (Option Value)} {oc5 kV5 dc5 pm5 cd5 ct5:Value}
   {f6:Addr} {od6 an6:Option Addr} {sl6:Array (Option Value)} {oc6 kV6 dc6 pm6 cd6 ct6:Value}
   {f7:Addr} {od7 an7:Option Addr} {sl7:Array (Option Value)} {oc7 kV7 dc7 pm7 cd7 ct7:Value}
   {f8:Addr} {od8 an8:Option Addr} {sl8:Array (Option Value)} {oc8 kV8 dc8 pm8 cd8 ct8:Value}
   {f9:Addr} {od9 an9:Option Addr} {sl9:Array (Option Value)} {oc9 kV9 dc9 pm9 cd9 ct9:Value}
   {f10:Addr} {od10 an10:Option Addr} {sl10:Array (Option Value)} {oc10 kV10 dc10 pm10 cd10 ct10:Value}
   {f11:Addr} {od11 an11:Option Addr} {sl11:Array (Option Value)} {oc11 kV11 dc11 pm11 cd11 ct11:Value}
   {f12:Addr} {od12 an12:Option Addr} {sl12:Array (Option Value)} {oc12 kV12 dc12 pm12 cd12 ct12:Value}
   {f13:Addr} {od13 an13:Option Addr} {sl13:Array (Option Value)} {oc13 kV13 dc13 pm13 cd13 ct13:Value}
   {f14:Addr} {od14 an14:Option Addr} {sl14:Array (Option Value)} {oc14 kV14 dc14 pm14 cd14 ct14:Value}
   {f15:Addr} {od15 an15:Option Addr} {sl15:Array (Option Value)} {oc15 kV15 dc15 pm15 cd15 ct15:Value}
   {f16:Addr} {od16 an16:Option Addr} {sl16:Array (Option Value)} {oc16 kV16 dc16 pm16 cd16 ct16:Value}
   {f17:Addr} {od17 an17:Option Addr} {sl17:Array (Option Value)} {oc17 kV17 dc17 pm17 cd17 ct17:Value}
   {f18:Addr} {od18 an18:Option Addr} {sl18:Array (Option Value)} {oc18 kV18 dc18 pm18 cd18 ct18:Value}
   {f19:Addr} {od19 an19:Option Addr} {sl19:Array (Option Value)} {oc19 kV19 dc19 pm19 cd19 ct19:Value}
   {f20:Addr} {od20 an20:Option Addr} {sl20:Array (Option Value)} {oc20 kV20 dc20 pm20 cd20 ct20:Value}
   {f21:Addr} {od21 an21:Option Addr} {sl21:Array (Option Value)} {oc21 kV21 dc21 pm21 cd21 ct21:Value}
   {f22:Addr} {od22 an22:Option Addr} {sl22:Array (Option Value)} {oc22 kV22 dc22 pm22 cd22 ct22:Value}
   {f23:Addr} {od23 an23:Option Addr} {sl23:Array (Option Value)} {oc23 kV23 dc23 pm23 cd23 ct23:Value}
   {f24:Addr} {od24 an24:Option Addr} {sl24:Array (Option Value)} {oc24 kV24 dc24 pm24 cd24 ct24:Value}
   {f25:Addr} {od25 an25:Option Addr} {sl25:Array (Option Value)} {oc25 kV25 dc25 pm25 cd25 ct25:Value}
   {f26:Addr} {od26 an26:Option Addr} {sl26:Array (Option Value)} {oc26 kV26 dc26 pm26 cd26 ct26:Value}
   {f27:Addr} {od27 an27:Option Addr} {sl27:Array (Option Value)} {oc27 kV27 dc27 pm27 cd27 ct27:Value}
   {f28:Addr} {od28 an28:Option Addr} {sl28:Array (Option Value)} {oc28 kV28 dc28 pm28 cd28 ct28:Value}
   {f29:Addr} {od29 an29:Option Addr} {sl29:Array (Option Value)} {oc29 kV29 dc29 pm29 cd29 ct29:Value}
   {f30:Addr} {od30 an30:Option Addr} {sl30:Array (Option Value)} {oc30 kV30 dc30 pm30 cd30 ct30:Value}
   {f31:Addr} {od31 an31:Option Addr} {sl31:Array (Option Value)} {oc31 kV31 dc31 pm31 cd31 ct31:Value}
   {f32:Addr} {od32 an32:Option Addr} {sl32:Array (Option Value)} {oc32 kV32 dc32 pm32 cd32 ct32:Value}
   {f33:Addr} {od33 an33:Option Addr} {sl33:Array (Option Value)} {oc33 kV33 dc33 pm33 cd33 ct33:Value}
   {f34:Addr} {od34 an34:Option Addr} {sl34:Array (Option Value)} {oc34 kV34 dc34 pm34 cd34 ct34:Value}
   {f35:Addr} {od35 an35:Option Addr} {sl35:Array (Option Value)} {oc35 kV35 dc35 pm35 cd35 ct35:Value}
   {f36:Addr} {od36 an36:Option Addr} {sl36:Array (Option Value)} {oc36 kV36 dc36 pm36 cd36 ct36:Value}
   {f37:Addr} {od37 an37:Option Addr} {sl37:Array (Option Value)} {oc37 kV37 dc37 pm37 cd37 ct37:Value}
   {f38:Addr} {od38 an38:Option Addr} {sl38:Array (Option Value)} {oc38 kV38 dc38 pm38 cd38 ct38:Value}
   {f39:Addr} {od39 an39:Option Addr} {sl39:Array (Option Value)} {oc39 kV39 dc39 pm39 cd39 ct39:Value}
   {f40:Addr} {od40 an40:Option Addr} {sl40:Array (Option Value)} {oc40 kV40 dc40 pm40 cd40 ct40:Value}
   {f41:Addr} {od41 an41:Option Addr} {sl41:Array (Option Value)} {oc41 kV41 dc41 pm41 cd41 ct41:Value}
   {f42:Addr} {od42 an42:Option Addr} {sl42:Array (Option Value)} {oc42 kV42 dc42 pm42 cd42 ct42:Value}
   {f43:Addr} {od43 an43:Option Addr} {sl43:Array (Option Value)} {oc43 kV43 dc43 pm43 cd43 ct43:Value}
   {f44:Addr} {od44 an44:Option Addr} {sl44:Array (Option Value)} {oc44 kV44 dc44 pm44 cd44 ct44:Value}
   {f45:Addr} {od45 an45:Option Addr} {sl45:Array (Option Value)} {oc45 kV45 dc45 pm45 cd45 ct45:Value}
   {f46:Addr} {od46 an46:Option Addr} {sl46:Array (Option Value)} {oc46 kV46 dc46 pm46 cd46 ct46:Value}
   {f47:Addr} {od47 an47:Option Addr} {sl47:Array (Option Value)} {oc47 kV47 dc47 pm47 cd47 ct47:Value}
   {f48:Addr} {od48 an48:Option Addr} {sl48:Array (Option Value)} {oc48 kV48 dc48 pm48 cd48 ct48:Value}
   {cC0 cF0:Addr} {codi0 cani0:Option Addr} {csl0:Array (Option Value)} {coc0 ckV0 cdc0 cpm0 ccd0 cct0:Value}
   {cC1 cF1:Addr} {codi1 cani1:Option Addr} {csl1:Array (Option Value)} {coc1 ckV1 cdc1 cpm1 ccd1 cct1:Value}
   {t_BITS:Tok}
   {t_FLIPS:Tok}
   {t_AXES:Tok}
   {t_LETTERS:Tok}
   {t_LONGEST_WORD:Tok}
   {da_PROMISES:Addr} {dn_PROMISES:Nat} {dt_PROMISES_0  dt_PROMISES_1  : Tok}
   {da_DIMS:Addr} {dn_DIMS:Nat} {dt_DIMS_0 dv_DIMS_0 dt_DIMS_1 dv_DIMS_1:Tok} (X:K.In h) (G:h.Ns mainGlobals mg) (hfa:mg "law"=some (.ref fa))
   (a0:nsIn K mainGlobals "_law_mix"=some (some (.ref f0))) (l0:K.lookup f0=some ⟨oc0,od0,.func (fnOf "_law_mix" "_law_mix" (zP qC) (zQ qC) (zX qC) .none kV0 dc0 pm0 an0 cd0 ct0),sl0⟩) (c0:codeIn K cd0 "_law_mix"=true) (k0:keepIn K (.ref f0)=true)
   (a1:nsIn K mainGlobals "_law_cut"=some (some (.ref f1))) (l1:K.lookup f1=some ⟨oc1,od1,.func (fnOf "_law_cut" "_law_cut" (zP pY) (zQ pY) (zX pY) .none kV1 dc1 pm1 an1 cd1 ct1),sl1⟩) (c1:codeIn K cd1 "_law_cut"=true) (k1:keepIn K (.ref f1)=true)
   (a2:nsIn K mainGlobals "_law_base"=some (some (.ref f2))) (l2:K.lookup f2=some ⟨oc2,od2,.func (fnOf "_law_base" "_law_base" (zP sC) (zQ sC) (zX sC) .none kV2 dc2 pm2 an2 cd2 ct2),sl2⟩) (c2:codeIn K cd2 "_law_base"=true) (k2:keepIn K (.ref f2)=true)
   (a3:nsIn K mainGlobals "_law_turn"=some (some (.ref f3))) (l3:K.lookup f3=some ⟨oc3,od3,.func (fnOf "_law_turn" "_law_turn" (zP tV) (zQ tV) (zX tV) .none kV3 dc3 pm3 an3 cd3 ct3),sl3⟩) (c3:codeIn K cd3 "_law_turn"=true) (k3:keepIn K (.ref f3)=true)
   (a4:nsIn K mainGlobals "_law_after"=some (some (.ref f4))) (l4:K.lookup f4=some ⟨oc4,od4,.func (fnOf "_law_after" "_law_after" (zP vG) (zQ vG) (zX vG) .none kV4 dc4 pm4 an4 cd4 ct4),sl4⟩) (c4:codeIn K cd4 "_law_after"=true) (k4:keepIn K (.ref f4)=true)
   (a5:nsIn K mainGlobals "_law_undone"=some (some (.ref f5))) (l5:K.lookup f5=some ⟨oc5,od5,.func (fnOf "_law_undone" "_law_undone" (zP vA) (zQ vA) (zX vA) .none kV5 dc5 pm5 an5 cd5 ct5),sl5⟩) (c5:codeIn K cd5 "_law_undone"=true) (k5:keepIn K (.ref f5)=true)
   (a6:nsIn K mainGlobals "_law_turned"=some (some (.ref f6))) (l6:K.lookup f6=some ⟨oc6,od6,.func (fnOf "_law_turned" "_law_turned" (zP wG) (zQ wG) (zX wG) .none kV6 dc6 pm6 an6 cd6 ct6),sl6⟩) (c6:codeIn K cd6 "_law_turned"=true) (k6:keepIn K (.ref f6)=true)
   (a7:nsIn K mainGlobals "_law_joined"=some (some (.ref f7))) (l7:K.lookup f7=some ⟨oc7,od7,.func (fnOf "_law_joined" "_law_joined" (zP wE) (zQ wE) (zX wE) .none kV7 dc7 pm7 an7 cd7 ct7),sl7⟩) (c7:codeIn K cd7 "_law_joined"=true) (k7:keepIn K (.ref f7)=true)
   (a8:nsIn K mainGlobals "_law_altered"=some (some (.ref f8))) (l8:K.lookup f8=some ⟨oc8,od8,.func (fnOf "_law_altered" "_law_altered" (zP w4) (zQ w4) (zX w4) .none kV8 dc8 pm8 an8 cd8 ct8),sl8⟩) (c8:codeIn K cd8 "_law_altered"=true) (k8:keepIn K (.ref f8)=true)
   (a9:nsIn K mainGlobals "_law_corners"=some (some (.ref f9))) (l9:K.lookup f9=some ⟨oc9,od9,.func (fnOf "_law_corners" "_law_corners" (zP xB) (zQ xB) (zX xB) .none kV9 dc9 pm9 an9 cd9 ct9),sl9⟩) (c9:codeIn K cd9 "_law_corners"=true) (k9:keepIn K (.ref f9)=true)
   (a10:nsIn K mainGlobals "_law_loose"=some (some (.ref f10))) (l10:K.lookup f10=some ⟨oc10,od10,.func (fnOf "_law_loose" "_law_loose" (zP tT) (zQ tT) (zX tT) .none kV10 dc10 pm10 an10 cd10 ct10),sl10⟩) (c10:codeIn K cd10 "_law_loose"=true) (k10:keepIn K (.ref f10)=true)
   (a11:nsIn K mainGlobals "_law_drawn"=some (some (.ref f11))) (l11:K.lookup f11=some ⟨oc11,od11,.func (fnOf "_law_drawn" "_law_drawn" (zP tN) (zQ tN) (zX tN) .none kV11 dc11 pm11 an11 cd11 ct11),sl11⟩) (c11:codeIn K cd11 "_law_drawn"=true) (k11:keepIn K (.ref f11)=true)
   (a12:nsIn K mainGlobals "is_made_of"=some (some (.ref f12))) (l12:K.lookup f12=some ⟨oc12,od12,.func (fnOf "is_made_of" "is_made_of" (zP wB) (zQ wB) (zX wB) .none kV12 dc12 pm12 an12 cd12 ct12),sl12⟩) (c12:codeIn K cd12 "is_made_of"=true) (k12:keepIn K (.ref f12)=true)
   (a13:nsIn K mainGlobals "is_word"=some (some (.ref f13))) (l13:K.lookup f13=some ⟨oc13,od13,.func (fnOf "is_word" "is_word" (zP qA) (zQ qA) (zX qA) .none kV13 dc13 pm13 an13 cd13 ct13),sl13⟩) (c13:codeIn K cd13 "is_word"=true) (k13:keepIn K (.ref f13)=true)
   (a14:nsIn K mainGlobals "read_head"=some (some (.ref f14))) (l14:K.lookup f14=some ⟨oc14,od14,.func (fnOf "read_head" "read_head" (zP tL) (zQ tL) (zX tL) .none kV14 dc14 pm14 an14 cd14 ct14),sl14⟩) (c14:codeIn K cd14 "read_head"=true) (k14:keepIn K (.ref f14)=true)
   (a15:nsIn K mainGlobals "words_at"=some (some (.ref f15))) (l15:K.lookup f15=some ⟨oc15,od15,.func (fnOf "words_at" "words_at" (zP sE) (zQ sE) (zX sE) .none kV15 dc15 pm15 an15 cd15 ct15),sl15⟩) (c15:codeIn K cd15 "words_at"=true) (k15:keepIn K (.ref f15)=true)
   (a16:nsIn K mainGlobals "corner_of"=some (some (.ref f16))) (l16:K.lookup f16=some ⟨oc16,od16,.func (fnOf "corner_of" "corner_of" (zP vD) (zQ vD) (zX vD) .none kV16 dc16 pm16 an16 cd16 ct16),sl16⟩) (c16:codeIn K cd16 "corner_of"=true) (k16:keepIn K (.ref f16)=true)
   (a17:nsIn K mainGlobals "turn_of"=some (some (.ref f17))) (l17:K.lookup f17=some ⟨oc17,od17,.func (fnOf "turn_of" "turn_of" (zP tK) (zQ tK) (zX tK) .none kV17 dc17 pm17 an17 cd17 ct17),sl17⟩) (c17:codeIn K cd17 "turn_of"=true) (k17:keepIn K (.ref f17)=true)
   (a18:nsIn K mainGlobals "read_part"=some (some (.ref f18))) (l18:K.lookup f18=some ⟨oc18,od18,.func (fnOf "read_part" "read_part" (zP tO) (zQ tO) (zX tO) .none kV18 dc18 pm18 an18 cd18 ct18),sl18⟩) (c18:codeIn K cd18 "read_part"=true) (k18:keepIn K (.ref f18)=true)
   (a19:nsIn K mainGlobals "full"=some (some (.ref f19))) (l19:K.lookup f19=some ⟨oc19,od19,.func (fnOf "full" "full" (zP dW) (zQ dW) (zX dW) .none kV19 dc19 pm19 an19 cd19 ct19),sl19⟩) (c19:codeIn K cd19 "full"=true) (k19:keepIn K (.ref f19)=true)
   (a20:nsIn K mainGlobals "curve_from"=some (some (.ref f20))) (l20:K.lookup f20=some ⟨oc20,od20,.func (fnOf "curve_from" "curve_from" (zP uY) (zQ uY) (zX uY) .none kV20 dc20 pm20 an20 cd20 ct20),sl20⟩) (c20:codeIn K cd20 "curve_from"=true) (k20:keepIn K (.ref f20)=true)
   (a21:nsIn K mainGlobals "still"=some (some (.ref f21))) (l21:K.lookup f21=some ⟨oc21,od21,.func (fnOf "still" "still" (zP lT) (zQ lT) (zX lT) .none kV21 dc21 pm21 an21 cd21 ct21),sl21⟩) (c21:codeIn K cd21 "still"=true) (k21:keepIn K (.ref f21)=true)
   (a22:nsIn K mainGlobals "first_state"=some (some (.ref f22))) (l22:K.lookup f22=some ⟨oc22,od22,.func (fnOf "first_state" "first_state" (zP vZ) (zQ vZ) (zX vZ) .none kV22 dc22 pm22 an22 cd22 ct22),sl22⟩) (c22:codeIn K cd22 "first_state"=true) (k22:keepIn K (.ref f22)=true)
   (a23:nsIn K mainGlobals "walked"=some (some (.ref f23))) (l23:K.lookup f23=some ⟨oc23,od23,.func (fnOf "walked" "walked" (zP mL) (zQ mL) (zX mL) .none kV23 dc23 pm23 an23 cd23 ct23),sl23⟩) (c23:codeIn K cd23 "walked"=true) (k23:keepIn K (.ref f23)=true)
   (a24:nsIn K mainGlobals "after"=some (some (.ref f24))) (l24:K.lookup f24=some ⟨oc24,od24,.func (fnOf "after" "after" (zP mH) (zQ mH) (zX mH) .none kV24 dc24 pm24 an24 cd24 ct24),sl24⟩) (c24:codeIn K cd24 "after"=true) (k24:keepIn K (.ref f24)=true)
   (a25:nsIn K mainGlobals "turned"=some (some (.ref f25))) (l25:K.lookup f25=some ⟨oc25,od25,.func (fnOf "turned" "turned" (zP oX) (zQ oX) (zX oX) .none kV25 dc25 pm25 an25 cd25 ct25),sl25⟩) (c25:codeIn K cd25 "turned"=true) (k25:keepIn K (.ref f25)=true)
   (a26:nsIn K mainGlobals "part_at"=some (some (.ref f26))) (l26:K.lookup f26=some ⟨oc26,od26,.func (fnOf "part_at" "part_at" (zP pZ) (zQ pZ) (zX pZ) .none kV26 dc26 pm26 an26 cd26 ct26),sl26⟩) (c26:codeIn K cd26 "part_at"=true) (k26:keepIn K (.ref f26)=true)
   (a27:nsIn K mainGlobals "next_to"=some (some (.ref f27))) (l27:K.lookup f27=some ⟨oc27,od27,.func (fnOf "next_to" "next_to" (zP sD) (zQ sD) (zX sD) .none kV27 dc27 pm27 an27 cd27 ct27),sl27⟩) (c27:codeIn K cd27 "next_to"=true) (k27:keepIn K (.ref f27)=true)
   (a28:nsIn K mainGlobals "deeper"=some (some (.ref f28))) (l28:K.lookup f28=some ⟨oc28,od28,.func (fnOf "deeper" "deeper" (zP oU) (zQ oU) (zX oU) .none kV28 dc28 pm28 an28 cd28 ct28),sl28⟩) (c28:codeIn K cd28 "deeper"=true) (k28:keepIn K (.ref f28)=true)
   (a29:nsIn K mainGlobals "unmet_at"=some (some (.ref f29))) (l29:K.lookup f29=some ⟨oc29,od29,.func (fnOf "unmet_at" "unmet_at" (zP sB) (zQ sB) (zX sB) .none kV29 dc29 pm29 an29 cd29 ct29),sl29⟩) (c29:codeIn K cd29 "unmet_at"=true) (k29:keepIn K (.ref f29)=true)
   (a30:nsIn K mainGlobals "meeting_of"=some (some (.ref f30))) (l30:K.lookup f30=some ⟨oc30,od30,.func (fnOf "meeting_of" "meeting_of" (zP wS) (zQ wS) (zX wS) .none kV30 dc30 pm30 an30 cd30 ct30),sl30⟩) (c30:codeIn K cd30 "meeting_of"=true) (k30:keepIn K (.ref f30)=true)
   (a31:nsIn K mainGlobals "fitted"=some (some (.ref f31))) (l31:K.lookup f31=some ⟨oc31,od31,.func (fnOf "fitted" "fitted" (zP mQ) (zQ mQ) (zX mQ) .none kV31 dc31 pm31 an31 cd31 ct31),sl31⟩) (c31:codeIn K cd31 "fitted"=true) (k31:keepIn K (.ref f31)=true)
   (a32:nsIn K mainGlobals "curve_of"=some (some (.ref f32))) (l32:K.lookup f32=some ⟨oc32,od32,.func (fnOf "curve_of" "curve_of" (zP sI) (zQ sI) (zX sI) .none kV32 dc32 pm32 an32 cd32 ct32),sl32⟩) (c32:codeIn K cd32 "curve_of"=true) (k32:keepIn K (.ref f32)=true)
   (a33:nsIn K mainGlobals "_law_cell_at"=some (some (.ref f33))) (l33:K.lookup f33=some ⟨oc33,od33,.func (fnOf "_law_cell_at" "_law_cell_at" (zP vY) (zQ vY) (zX vY) .none kV33 dc33 pm33 an33 cd33 ct33),sl33⟩) (c33:codeIn K cd33 "_law_cell_at"=true) (k33:keepIn K (.ref f33)=true)
   (a34:nsIn K mainGlobals "_law_text"=some (some (.ref f34))) (l34:K.lookup f34=some ⟨oc34,od34,.func (fnOf "_law_text" "_law_text" (zP vJ) (zQ vJ) (zX vJ) .none kV34 dc34 pm34 an34 cd34 ct34),sl34⟩) (c34:codeIn K cd34 "_law_text"=true) (k34:keepIn K (.ref f34)=true)
   (a35:nsIn K mainGlobals "_law_level"=some (some (.ref f35))) (l35:K.lookup f35=some ⟨oc35,od35,.func (fnOf "_law_level" "_law_level" (zP tR) (zQ tR) (zX tR) .none kV35 dc35 pm35 an35 cd35 ct35),sl35⟩) (c35:codeIn K cd35 "_law_level"=true) (k35:keepIn K (.ref f35)=true)
   (a36:nsIn K mainGlobals "_law_number"=some (some (.ref f36))) (l36:K.lookup f36=some ⟨oc36,od36,.func (fnOf "_law_number" "_law_number" (zP uZ) (zQ uZ) (zX uZ) .none kV36 dc36 pm36 an36 cd36 ct36),sl36⟩) (c36:codeIn K cd36 "_law_number"=true) (k36:keepIn K (.ref f36)=true)
   (a37:nsIn K mainGlobals "digits_of"=some (some (.ref f37))) (l37:K.lookup f37=some ⟨oc37,od37,.func (fnOf "digits_of" "digits_of" (zP tM) (zQ tM) (zX tM) .none kV37 dc37 pm37 an37 cd37 ct37),sl37⟩) (c37:codeIn K cd37 "digits_of"=true) (k37:keepIn K (.ref f37)=true)
   (a38:nsIn K mainGlobals "place_at"=some (some (.ref f38))) (l38:K.lookup f38=some ⟨oc38,od38,.func (fnOf "place_at" "place_at" (zP rW) (zQ rW) (zX rW) .none kV38 dc38 pm38 an38 cd38 ct38),sl38⟩) (c38:codeIn K cd38 "place_at"=true) (k38:keepIn K (.ref f38)=true)
   (a39:nsIn K mainGlobals "_law_place"=some (some (.ref f39))) (l39:K.lookup f39=some ⟨oc39,od39,.func (fnOf "_law_place" "_law_place" (zP wH) (zQ wH) (zX wH) .none kV39 dc39 pm39 an39 cd39 ct39),sl39⟩) (c39:codeIn K cd39 "_law_place"=true) (k39:keepIn K (.ref f39)=true)
   (a40:nsIn K mainGlobals "has_place"=some (some (.ref f40))) (l40:K.lookup f40=some ⟨oc40,od40,.func (fnOf "has_place" "has_place" (zP vE) (zQ vE) (zX vE) .none kV40 dc40 pm40 an40 cd40 ct40),sl40⟩) (c40:codeIn K cd40 "has_place"=true) (k40:keepIn K (.ref f40)=true)
   (a41:nsIn K mainGlobals "ask_place"=some (some (.ref f41))) (l41:K.lookup f41=some ⟨oc41,od41,.func (fnOf "ask_place" "ask_place" (zP tS) (zQ tS) (zX tS) .none kV41 dc41 pm41 an41 cd41 ct41),sl41⟩) (c41:codeIn K cd41 "ask_place"=true) (k41:keepIn K (.ref f41)=true)
   (a42:nsIn K mainGlobals "undone"=some (some (.ref f42))) (l42:K.lookup f42=some ⟨oc42,od42,.func (fnOf "undone" "undone" (zP mT) (zQ mT) (zX mT) .none kV42 dc42 pm42 an42 cd42 ct42),sl42⟩) (c42:codeIn K cd42 "undone"=true) (k42:keepIn K (.ref f42)=true)
   (a43:nsIn K mainGlobals "digit_at"=some (some (.ref f43))) (l43:K.lookup f43=some ⟨oc43,od43,.func (fnOf "digit_at" "digit_at" (zP tU) (zQ tU) (zX tU) .none kV43 dc43 pm43 an43 cd43 ct43),sl43⟩) (c43:codeIn K cd43 "digit_at"=true) (k43:keepIn K (.ref f43)=true)
   (a44:nsIn K mainGlobals "number_at"=some (some (.ref f44))) (l44:K.lookup f44=some ⟨oc44,od44,.func (fnOf "number_at" "number_at" (zP vL) (zQ vL) (zX vL) .none kV44 dc44 pm44 an44 cd44 ct44),sl44⟩) (c44:codeIn K cd44 "number_at"=true) (k44:keepIn K (.ref f44)=true)
   (a45:nsIn K mainGlobals "_law_same"=some (some (.ref f45))) (l45:K.lookup f45=some ⟨oc45,od45,.func (fnOf "_law_same" "_law_same" (zP rY) (zQ rY) (zX rY) .none kV45 dc45 pm45 an45 cd45 ct45),sl45⟩) (c45:codeIn K cd45 "_law_same"=true) (k45:keepIn K (.ref f45)=true)
   (a46:nsIn K mainGlobals "_law_on"=some (some (.ref f46))) (l46:K.lookup f46=some ⟨oc46,od46,.func (fnOf "_law_on" "_law_on" (zP mO) (zQ mO) (zX mO) .none kV46 dc46 pm46 an46 cd46 ct46),sl46⟩) (c46:codeIn K cd46 "_law_on"=true) (k46:keepIn K (.ref f46)=true)
   (a47:nsIn K mainGlobals "_law_undone_both"=some (some (.ref f47))) (l47:K.lookup f47=some ⟨oc47,od47,.func (fnOf "_law_undone_both" "_law_undone_both" (zP xG) (zQ xG) (zX xG) .none kV47 dc47 pm47 an47 cd47 ct47),sl47⟩) (c47:codeIn K cd47 "_law_undone_both"=true) (k47:keepIn K (.ref f47)=true)
   (a48:nsIn K mainGlobals "law"=some (some (.ref f48))) (l48:K.lookup f48=some ⟨oc48,od48,.func (fnOf "law" "law" (zP fS) (zQ fS) (zX fS) .none kV48 dc48 pm48 an48 cd48 ct48),sl48⟩) (c48:codeIn K cd48 "law"=true) (k48:keepIn K (.ref f48)=true)
   (ca0:nsIn K mainGlobals "Part"=some (some (.ref cC0))) (ci0:findIn K (.ref cC0) "__init__"=some (some (.ref cF0))) (cn0:isFn K (.ref cF0)=true) (cl0:K.lookup cF0=some ⟨coc0,codi0,.func (fnOf "__init__" "Part.__init__" (zP jL) (zQ jL) (zX jL) .none ckV0 cdc0 cpm0 cani0 ccd0 cct0),csl0⟩) (cc0:codeIn K ccd0 "Part.__init__"=true) (ck0:keepIn K (.ref cF0)=true)
   (cpg0:plainGet K cC0 Str.empty=true) (chd0:hasDictIn K cC0=true) (cpo0:plainOver K cC0=true) (csa0:findIn K (.ref cC0) "__setattr__"=some (some (.builtin "object.__setattr__"))) (cmk0:makesIn K cC0=true) (ckc0:keepIn K (.ref cC0)=true)
   (cf0_back:findIn K (.ref cC0) "back"=some none)
   (cf0_corner:findIn K (.ref cC0) "corner"=some none)
   (cf0_turn:findIn K (.ref cC0) "turn"=some none)
   (ca1:nsIn K mainGlobals "Curve"=some (some (.ref cC1))) (ci1:findIn K (.ref cC1) "__init__"=some (some (.ref cF1))) (cn1:isFn K (.ref cF1)=true) (cl1:K.lookup cF1=some ⟨coc1,codi1,.func (fnOf "__init__" "Curve.__init__" (zP mS) (zQ mS) (zX mS) .none ckV1 cdc1 cpm1 cani1 ccd1 cct1),csl1⟩) (cc1:codeIn K ccd1 "Curve.__init__"=true) (ck1:keepIn K (.ref cF1)=true)
   (cpg1:plainGet K cC1 Str.empty=true) (chd1:hasDictIn K cC1=true) (cpo1:plainOver K cC1=true) (csa1:findIn K (.ref cC1) "__setattr__"=some (some (.builtin "object.__setattr__"))) (cmk1:makesIn K cC1=true) (ckc1:keepIn K (.ref cC1)=true)
   (cf1_dims:findIn K (.ref cC1) "dims"=some none)
   (cf1_joined:findIn K (.ref cC1) "joined"=some none)
   (cf1_name:findIn K (.ref cC1) "name"=some none)
   (cf1_parts:findIn K (.ref cC1) "parts"=some none)
   (g_BITS:nsIn K mainGlobals "BITS"=some (some (.str "01" t_BITS)))
   (g_FLIPS:nsIn K mainGlobals "FLIPS"=some (some (.str "+-" t_FLIPS)))
   (g_AXES:nsIn K mainGlobals "AXES"=some (some (.str "xyz" t_AXES)))
   (g_LETTERS:nsIn K mainGlobals "LETTERS"=some (some (.str "abcdefghijklmnopqrstuvwxyz" t_LETTERS)))
   (g_LONGEST_WORD:nsIn K mainGlobals "LONGEST_WORD"=some (some (.int 12 t_LONGEST_WORD)))
   (g_PROMISES:nsIn K mainGlobals "PROMISES"=some (some (.ref da_PROMISES))) (dl_PROMISES:K.lookup da_PROMISES=some ⟨.type "dict",none,.dict #[⟨PyData.keyHash w.params "joined",.str "joined" dt_PROMISES_0,.bool true⟩,⟨PyData.keyHash w.params "loose",.str "loose" dt_PROMISES_1,.bool false⟩] dn_PROMISES,#[]⟩) (ds_PROMISES:(da_PROMISES==sysModules)=false)
   (g_DIMS:nsIn K mainGlobals "DIMS"=some (some (.ref da_DIMS))) (dl_DIMS:K.lookup da_DIMS=some ⟨.type "dict",none,.dict #[⟨PyData.keyHash w.params "2",.str "2" dt_DIMS_0,.int 2 dv_DIMS_0⟩,⟨PyData.keyHash w.params "3",.str "3" dt_DIMS_1,.int 3 dv_DIMS_1⟩] dn_DIMS,#[]⟩) (ds_DIMS:(da_DIMS==sysModules)=false)
   (z_abs:nsIn K mainGlobals "abs"=some none)
   (z_all:nsIn K mainGlobals "all"=some none)
   (z_bool:nsIn K mainGlobals "bool"=some none)
   (z_int:nsIn K mainGlobals "int"=some none)
   (z_isinstance:nsIn K mainGlobals "isinstance"=some none)
   (z_len:nsIn K mainGlobals "len"=some none)
   (z_list:nsIn K mainGlobals "list"=some none)
   (z_min:nsIn K mainGlobals "min"=some none)
   (z_range:nsIn K mainGlobals "range"=some none)
   (z_reversed:nsIn K mainGlobals "reversed"=some none)
   (z_sorted:nsIn K mainGlobals "sorted"=some none)
   (z_str:nsIn K mainGlobals "str"=some none)
   (z_sum:nsIn K mainGlobals "sum"=some none)
   (z_tuple:nsIn K mainGlobals "tuple"=some none)
   (z_zip:nsIn K mainGlobals "zip"=some none) :
   ∃fd:FuncData,(∀(s:Shared) (v:Value),BindsTo s fd ⟨[v],[]⟩ [("_law_script",v)])/\∀base:Heap,K.In base->base.Ns mainGlobals mg->FnOk l.prog w K mg base CX0 7 fa fd ["_law_script"] (spF K 1 zYX):=by
 have e:=hfa.symm.trans (mg_of X G a48)
 cases e
 have F0:=yW (st:=qC) l0 c0 k0
 have b0:=F0.binds (ps:=["_law_cell","_law_factor"]) fun _ _ _ _ _ _ us hl=>match us,hl with | [_,_],_=>rfl
 have F1:=yW (st:=pY) l1 c1 k1
 have b1:=F1.binds (ps:=["_law_cell","_law_slot","_law_factor"]) fun _ _ _ _ _ _ us hl=>match us,hl with | [_,_,_],_=>rfl
 have F2:=yW (st:=sC) l2 c2 k2
 have b2:=F2.binds (ps:=["_law_dims"]) fun _ _ _ _ _ _ us hl=>match us,hl with | [_],_=>rfl
 have F3:=yW (st:=tV) l3 c3 k3
 have b3:=F3.binds (ps:=["_law_number_here","_law_dims"]) fun _ _ _ _ _ _ us hl=>match us,hl with | [_,_],_=>rfl
 have F4:=yW (st:=vG) l4 c4 k4
 have b4:=F4.binds (ps:=["_law_one","_law_other"]) fun _ _ _ _ _ _ us hl=>match us,hl with | [_,_],_=>rfl
 have F5:=yW (st:=vA) l5 c5 k5
 have b5:=F5.binds (ps:=["_law_turn_here"]) fun _ _ _ _ _ _ us hl=>match us,hl with | [_],_=>rfl
 have F6:=yW (st:=wG) l6 c6 k6
 have b6:=F6.binds (ps:=["_law_turn_here","_law_corner"]) fun _ _ _ _ _ _ us hl=>match us,hl with | [_,_],_=>rfl
 have F7:=yW (st:=wE) l7 c7 k7
 have b7:=F7.binds (ps:=["_law_dims","_law_number_here"]) fun _ _ _ _ _ _ us hl=>match us,hl with | [_,_],_=>rfl
 have F8:=yW (st:=w4) l8 c8 k8
 have b8:=F8.binds (ps:=["_law_dims","_law_cell"]) fun _ _ _ _ _ _ us hl=>match us,hl with | [_,_],_=>rfl
 have F9:=yW (st:=xB) l9 c9 k9
 have b9:=F9.binds (ps:=["_law_dims"]) fun _ _ _ _ _ _ us hl=>match us,hl with | [_],_=>rfl
 have F10:=yW (st:=tT) l10 c10 k10
 have b10:=F10.binds (ps:=["_law_dims","_law_cell"]) fun _ _ _ _ _ _ us hl=>match us,hl with | [_,_],_=>rfl
 have F11:=yW (st:=tN) l11 c11 k11
 have b11:=F11.binds (ps:=["_law_dims","_law_cell"]) fun _ _ _ _ _ _ us hl=>match us,hl with | [_,_],_=>rfl
 have F12:=yW (st:=wB) l12 c12 k12
 have b12:=F12.binds (ps:=["text","signs","longest"]) fun _ _ _ _ _ _ us hl=>match us,hl with | [_,_,_],_=>rfl
 have F13:=yW (st:=qA) l13 c13 k13
 have b13:=F13.binds (ps:=["text"]) fun _ _ _ _ _ _ us hl=>match us,hl with | [_],_=>rfl
 have F14:=yW (st:=tL) l14 c14 k14
 have b14:=F14.binds (ps:=["words"]) fun _ _ _ _ _ _ us hl=>match us,hl with | [_],_=>rfl
 have F15:=yW (st:=sE) l15 c15 k15
 have b15:=F15.binds (ps:=["rows","row"]) fun _ _ _ _ _ _ us hl=>match us,hl with | [_,_],_=>rfl
 have F16:=yW (st:=vD) l16 c16 k16
 have b16:=F16.binds (ps:=["text","dims"]) fun _ _ _ _ _ _ us hl=>match us,hl with | [_,_],_=>rfl
 have F17:=yW (st:=tK) l17 c17 k17
 have b17:=F17.binds (ps:=["text","dims"]) fun _ _ _ _ _ _ us hl=>match us,hl with | [_,_],_=>rfl
 have F18:=yW (st:=tO) l18 c18 k18
 have b18:=F18.binds (ps:=["words","dims","row"]) fun _ _ _ _ _ _ us hl=>match us,hl with | [_,_,_],_=>rfl
 have F19:=yW (st:=dW) l19 c19 k19
 have b19:=F19.binds (ps:=["dims","level"]) fun _ _ _ _ _ _ us hl=>match us,hl with | [_,_],_=>rfl
 have F20:=yW (st:=uY) l20 c20 k20
 have b20:=F20.binds (ps:=["rows"]) fun _ _ _ _ _ _ us hl=>match us,hl with | [_],_=>rfl
 have F21:=yW (st:=lT) l21 c21 k21
 have b21:=F21.binds (ps:=["dims"]) fun _ _ _ _ _ _ us hl=>match us,hl with | [_],_=>rfl
 have F22:=yW (st:=vZ) l22 c22 k22
 have b22:=F22.binds (ps:=["dims"]) fun _ _ _ _ _ _ us hl=>match us,hl with | [_],_=>rfl
 have F23:=yW (st:=mL) l23 c23 k23
 have b23:=F23.binds (ps:=["curve","back","number"]) fun _ _ _ _ _ _ us hl=>match us,hl with | [_,_,_],_=>rfl
 have F24:=yW (st:=mH) l24 c24 k24
 have b24:=F24.binds (ps:=["one","other"]) fun _ _ _ _ _ _ us hl=>match us,hl with | [_,_],_=>rfl
 have F25:=yW (st:=oX) l25 c25 k25
 have b25:=F25.binds (ps:=["turn","corner"]) fun _ _ _ _ _ _ us hl=>match us,hl with | [_,_],_=>rfl
 have F26:=yW (st:=pZ) l26 c26 k26
 have b26:=F26.binds (ps:=["curve","state","digit"]) fun _ _ _ _ _ _ us hl=>match us,hl with | [_,_,_],_=>rfl
 have F27:=yW (st:=sD) l27 c27 k27
 have b27:=F27.binds (ps:=["one","other"]) fun _ _ _ _ _ _ us hl=>match us,hl with | [_,_],_=>rfl
 have F28:=yW (st:=oU) l28 c28 k28
 have b28:=F28.binds (ps:=["place","corner"]) fun _ _ _ _ _ _ us hl=>match us,hl with | [_,_],_=>rfl
 have F29:=yW (st:=sB) l29 c29 k29
 have b29:=F29.binds (ps:=["curve","first"]) fun _ _ _ _ _ _ us hl=>match us,hl with | [_,_],_=>rfl
 have F30:=yW (st:=wS) l30 c30 k30
 have b30:=F30.binds (ps:=["curve"]) fun _ _ _ _ _ _ us hl=>match us,hl with | [_],_=>rfl
 have F31:=yW (st:=mQ) l31 c31 k31
 have b31:=F31.binds (ps:=["curve"]) fun _ _ _ _ _ _ us hl=>match us,hl with | [_],_=>rfl
 have F32:=yW (st:=sI) l32 c32 k32
 have b32:=F32.binds (ps:=["text"]) fun _ _ _ _ _ _ us hl=>match us,hl with | [_],_=>rfl
 have F33:=yW (st:=vY) l33 c33 k33
 have b33:=F33.binds (ps:=["_law_script","_law_k"]) fun _ _ _ _ _ _ us hl=>match us,hl with | [_,_],_=>rfl
 have F34:=yW (st:=vJ) l34 c34 k34
 have b34:=F34.binds (ps:=["_law_dims","_law_joined_here","_law_parts"]) fun _ _ _ _ _ _ us hl=>match us,hl with | [_,_,_],_=>rfl
 have F35:=yW (st:=tR) l35 c35 k35
 have b35:=F35.binds (ps:=["_law_number_here"]) fun _ _ _ _ _ _ us hl=>match us,hl with | [_],_=>rfl
 have F36:=yW (st:=uZ) l36 c36 k36
 have b36:=F36.binds (ps:=["_law_cell","_law_dims","_law_level_here"]) fun _ _ _ _ _ _ us hl=>match us,hl with | [_,_,_],_=>rfl
 have F37:=yW (st:=tM) l37 c37 k37
 have b37:=F37.binds (ps:=["number","base","many"]) fun _ _ _ _ _ _ us hl=>match us,hl with | [_,_,_],_=>rfl
 have F38:=yW (st:=rW) l38 c38 k38
 have b38:=F38.binds (ps:=["curve","level","number"]) fun _ _ _ _ _ _ us hl=>match us,hl with | [_,_,_],_=>rfl
 have F39:=yW (st:=wH) l39 c39 k39
 have b39:=F39.binds (ps:=["_law_cell","_law_dims","_law_level_here"]) fun _ _ _ _ _ _ us hl=>match us,hl with | [_,_,_],_=>rfl
 have F40:=yW (st:=vE) l40 c40 k40
 have b40:=F40.binds (ps:=["dims","level","place"]) fun _ _ _ _ _ _ us hl=>match us,hl with | [_,_,_],_=>rfl
 have F41:=yW (st:=tS) l41 c41 k41
 have b41:=F41.binds (ps:=["dims","level","place"]) fun _ _ _ _ _ _ us hl=>match us,hl with | [_,_,_],_=>rfl
 have F42:=yW (st:=mT) l42 c42 k42
 have b42:=F42.binds (ps:=["turn"]) fun _ _ _ _ _ _ us hl=>match us,hl with | [_],_=>rfl
 have F43:=yW (st:=tU) l43 c43 k43
 have b43:=F43.binds (ps:=["curve","state","corner"]) fun _ _ _ _ _ _ us hl=>match us,hl with | [_,_,_],_=>rfl
 have F44:=yW (st:=vL) l44 c44 k44
 have b44:=F44.binds (ps:=["curve","level","place"]) fun _ _ _ _ _ _ us hl=>match us,hl with | [_,_,_],_=>rfl
 have F45:=yW (st:=rY) l45 c45 k45
 have b45:=F45.binds (ps:=["_law_found","_law_due"]) fun _ _ _ _ _ _ us hl=>match us,hl with | [_,_],_=>rfl
 have F46:=yW (st:=mO) l46 c46 k46
 have b46:=F46.binds (ps:=["_law_place_here","_law_dims","_law_side"]) fun _ _ _ _ _ _ us hl=>match us,hl with | [_,_,_],_=>rfl
 have F47:=yW (st:=xG) l47 c47 k47
 have b47:=F47.binds (ps:=["_law_curve","_law_dims","_law_level_here","_law_cell"]) fun _ _ _ _ _ _ us hl=>match us,hl with | [_,_,_,_],_=>rfl
 have F48:=yW (st:=fS) l48 c48 k48
 have b48:=F48.binds (ps:=["_law_script"]) fun _ _ _ _ _ _ us hl=>match us,hl with | [_],_=>rfl
 have cFF0:=yW (st:=jL) cl0 cc0 ck0
 have cb0:=cFF0.binds (ps:=["self","corner","turn","back"]) fun _ _ _ _ _ _ us hl=>match us,hl with | [_,_,_,_],_=>rfl
 have cFF1:=yW (st:=mS) cl1 cc1 ck1
 have cb1:=cFF1.binds (ps:=["self","name","dims","joined","parts"]) fun _ _ _ _ _ _ us hl=>match us,hl with | [_,_,_,_,_],_=>rfl
 exact⟨fnOf "law" "law" (zP fS) (zQ fS) (zX fS) .none kV48 dc48 pm48 an48 cd48 ct48,fun s v=>.of_eq rfl,fun base _ _=>zO8 ({ f_law_mix:=_,fd_law_mix:=_,F_law_mix:=F0,b_law_mix:=b0,m_law_mix:=mg_of X G a0,f_law_cut:=_,fd_law_cut:=_,F_law_cut:=F1,b_law_cut:=b1,m_law_cut:=mg_of X G a1,f_law_base:=_,fd_law_base:=_,F_law_base:=F2,b_law_base:=b2,m_law_base:=mg_of X G a2,f_law_turn:=_,fd_law_turn:=_,F_law_turn:=F3,b_law_turn:=b3,m_law_turn:=mg_of X G a3,f_law_after:=_,fd_law_after:=_,F_law_after:=F4,b_law_after:=b4,m_law_after:=mg_of X G a4,f_law_undone:=_,fd_law_undone:=_,F_law_undone:=F5,b_law_undone:=b5,m_law_undone:=mg_of X G a5,f_law_turned:=_,fd_law_turned:=_,F_law_turned:=F6,b_law_turned:=b6,m_law_turned:=mg_of X G a6,f_law_joined:=_,fd_law_joined:=_,F_law_joined:=F7,b_law_joined:=b7,m_law_joined:=mg_of X G a7,f_law_altered:=_,fd_law_altered:=_,F_law_altered:=F8,b_law_altered:=b8,m_law_altered:=mg_of X G a8,f_law_corners:=_,fd_law_corners:=_,F_law_corners:=F9,b_law_corners:=b9,m_law_corners:=mg_of X G a9,f_law_loose:=_,fd_law_loose:=_,F_law_loose:=F10,b_law_loose:=b10,m_law_loose:=mg_of X G a10,f_law_drawn:=_,fd_law_drawn:=_,F_law_drawn:=F11,b_law_drawn:=b11,m_law_drawn:=mg_of X G a11,f_is_made_of:=_,fd_is_made_of:=_,F_is_made_of:=F12,b_is_made_of:=b12,m_is_made_of:=mg_of X G a12,f_is_word:=_,fd_is_word:=_,F_is_word:=F13,b_is_word:=b13,m_is_word:=mg_of X G a13,f_read_head:=_,fd_read_head:=_,F_read_head:=F14,b_read_head:=b14,m_read_head:=mg_of X G a14,f_words_at:=_,fd_words_at:=_,F_words_at:=F15,b_words_at:=b15,m_words_at:=mg_of X G a15,f_corner_of:=_,fd_corner_of:=_,F_corner_of:=F16,b_corner_of:=b16,m_corner_of:=mg_of X G a16,f_turn_of:=_,fd_turn_of:=_,F_turn_of:=F17,b_turn_of:=b17,m_turn_of:=mg_of X G a17,f_read_part:=_,fd_read_part:=_,F_read_part:=F18,b_read_part:=b18,m_read_part:=mg_of X G a18,f_full:=_,fd_full:=_,F_full:=F19,b_full:=b19,m_full:=mg_of X G a19,f_curve_from:=_,fd_curve_from:=_,F_curve_from:=F20,b_curve_from:=b20,m_curve_from:=mg_of X G a20,f_still:=_,fd_still:=_,F_still:=F21,b_still:=b21,m_still:=mg_of X G a21,f_first_state:=_,fd_first_state:=_,F_first_state:=F22,b_first_state:=b22,m_first_state:=mg_of X G a22,f_walked:=_,fd_walked:=_,F_walked:=F23,b_walked:=b23,m_walked:=mg_of X G a23,f_after:=_,fd_after:=_,F_after:=F24,b_after:=b24,m_after:=mg_of X G a24,f_turned:=_,fd_turned:=_,F_turned:=F25,b_turned:=b25,m_turned:=mg_of X G a25,f_part_at:=_,fd_part_at:=_,F_part_at:=F26,b_part_at:=b26,m_part_at:=mg_of X G a26,f_next_to:=_,fd_next_to:=_,F_next_to:=F27,b_next_to:=b27,m_next_to:=mg_of X G a27,f_deeper:=_,fd_deeper:=_,F_deeper:=F28,b_deeper:=b28,m_deeper:=mg_of X G a28,f_unmet_at:=_,fd_unmet_at:=_,F_unmet_at:=F29,b_unmet_at:=b29,m_unmet_at:=mg_of X G a29,f_meeting_of:=_,fd_meeting_of:=_,F_meeting_of:=F30,b_meeting_of:=b30,m_meeting_of:=mg_of X G a30,f_fitted:=_,fd_fitted:=_,F_fitted:=F31,b_fitted:=b31,m_fitted:=mg_of X G a31,f_curve_of:=_,fd_curve_of:=_,F_curve_of:=F32,b_curve_of:=b32,m_curve_of:=mg_of X G a32,f_law_cell_at:=_,fd_law_cell_at:=_,F_law_cell_at:=F33,b_law_cell_at:=b33,m_law_cell_at:=mg_of X G a33,f_law_text:=_,fd_law_text:=_,F_law_text:=F34,b_law_text:=b34,m_law_text:=mg_of X G a34,f_law_level:=_,fd_law_level:=_,F_law_level:=F35,b_law_level:=b35,m_law_level:=mg_of X G a35,f_law_number:=_,fd_law_number:=_,F_law_number:=F36,b_law_number:=b36,m_law_number:=mg_of X G a36,f_digits_of:=_,fd_digits_of:=_,F_digits_of:=F37,b_digits_of:=b37,m_digits_of:=mg_of X G a37,f_place_at:=_,fd_place_at:=_,F_place_at:=F38,b_place_at:=b38,m_place_at:=mg_of X G a38,f_law_place:=_,fd_law_place:=_,F_law_place:=F39,b_law_place:=b39,m_law_place:=mg_of X G a39,f_has_place:=_,fd_has_place:=_,F_has_place:=F40,b_has_place:=b40,m_has_place:=mg_of X G a40,f_ask_place:=_,fd_ask_place:=_,F_ask_place:=F41,b_ask_place:=b41,m_ask_place:=mg_of X G a41,f_undone:=_,fd_undone:=_,F_undone:=F42,b_undone:=b42,m_undone:=mg_of X G a42,f_digit_at:=_,fd_digit_at:=_,F_digit_at:=F43,b_digit_at:=b43,m_digit_at:=mg_of X G a43,f_number_at:=_,fd_number_at:=_,F_number_at:=F44,b_number_at:=b44,m_number_at:=mg_of X G a44,f_law_same:=_,fd_law_same:=_,F_law_same:=F45,b_law_same:=b45,m_law_same:=mg_of X G a45,f_law_on:=_,fd_law_on:=_,F_law_on:=F46,b_law_on:=b46,m_law_on:=mg_of X G a46,f_law_undone_both:=_,fd_law_undone_both:=_,F_law_undone_both:=F47,b_law_undone_both:=b47,m_law_undone_both:=mg_of X G a47,f_law:=_,fd_law:=_,F_law:=F48,zSl:=b48,m_law:=mg_of X G a48,C_Part:=_,fi_Part:=_,fdi_Part:=_,ca_Part:=ca0,cl_Part:=⟨cpg0,chd0,cpo0,csa0⟩,mc_Part:=mg_of X G ca0,Fi_Part:=cFF0,bi_Part:=cb0,mk_Part:=⟨cmk0,ci0,cn0,ckc0⟩,n_Part_back:=cf0_back,n_Part_corner:=cf0_corner,n_Part_turn:=cf0_turn,C_Curve:=_,fi_Curve:=_,fdi_Curve:=_,ca_Curve:=ca1,cl_Curve:=⟨cpg1,chd1,cpo1,csa1⟩,mc_Curve:=mg_of X G ca1,Fi_Curve:=cFF1,bi_Curve:=cb1,mk_Curve:=⟨cmk1,ci1,cn1,ckc1⟩,n_Curve_dims:=cf1_dims,n_Curve_joined:=cf1_joined,n_Curve_name:=cf1_name,n_Curve_parts:=cf1_parts,t_BITS:=t_BITS,c_BITS:=mg_of X G g_BITS,t_FLIPS:=t_FLIPS,c_FLIPS:=mg_of X G g_FLIPS,t_AXES:=t_AXES,c_AXES:=mg_of X G g_AXES,t_LETTERS:=t_LETTERS,c_LETTERS:=mg_of X G g_LETTERS,t_LONGEST_WORD:=t_LONGEST_WORD,c_LONGEST_WORD:=mg_of X G g_LONGEST_WORD,da_PROMISES:=da_PROMISES,c_PROMISES:=mg_of X G g_PROMISES,dc_PROMISES:=zWI [("joined",dt_PROMISES_0,.bool true),("loose",dt_PROMISES_1,.bool false)] dl_PROMISES ds_PROMISES,da_DIMS:=da_DIMS,c_DIMS:=mg_of X G g_DIMS,dc_DIMS:=zWI [("2",dt_DIMS_0,.int 2 dv_DIMS_0),("3",dt_DIMS_1,.int 3 dv_DIMS_1)] dl_DIMS ds_DIMS,z_abs:=mg_none_of X G z_abs,z_all:=mg_none_of X G z_all,z_bool:=mg_none_of X G z_bool,z_int:=mg_none_of X G z_int,z_isinstance:=mg_none_of X G z_isinstance,z_len:=mg_none_of X G z_len,z_list:=mg_none_of X G z_list,z_min:=mg_none_of X G z_min,z_range:=mg_none_of X G z_range,z_reversed:=mg_none_of X G z_reversed,z_sorted:=mg_none_of X G z_sorted,z_str:=mg_none_of X G z_str,z_sum:=mg_none_of X G z_sum,z_tuple:=mg_none_of X G z_tuple,z_zip:=mg_none_of X G z_zip }:Txt w K mg)⟩
theorem zOT {K:Frag}{H:Hp}{a:Addr}{ns:List Int}(hS:SqL K H a (ns.map V.int))(h:zYX [.lst (ns.map .int)]=some (.bl true)):spF K 1 zYX [.ref a] H (fun v _=>v = .bl true) fun _ _ _=>False:=by
 have rs:∀ns:List Int,Reps K H (ns.map .int) (ns.map V.int):=fun ns=>by
   induction ns with
   | nil=>exact reps_nil.mpr rfl
   | cons n r ih=>exact reps_cons.mpr ⟨_,_,rfl,rep_int.mpr rfl,ih⟩
 exact⟨H,[.lst (ns.map .int)],.bl true,Same.refl _,reps_cons.mpr ⟨_,_,rfl,rep_lst.mpr ⟨a,_,rfl,hS,rs ns⟩,reps_nil.mpr rfl⟩,rfl,h,fun v H' G' _ r=>rep_bl.mp r⟩
end My
end
namespace My
open PySem L2
theorem zPM:tI 0 2=[.int 0,.int 1]:=rfl
theorem zNS:tI 0 3=[.int 0,.int 1,.int 2]:=rfl
theorem bit (x:Int):x % 2=0∨x % 2=1:=by omega
def zTC (a b c:Int):Prop:=(a=0/\b=1/\c=2)∨(a=0/\b=2/\c=1)∨(a=1/\b=0/\c=2)∨(a=1/\b=2/\c=0)∨(a=2/\b=0/\c=1)∨(a=2/\b=1/\c=0)
end My
namespace My
open PySem L2
abbrev Tn:=List (Int×Int)
def gZ (p:Int×Int):D:=.tup [.int p.1,.int p.2]
def zC (t:Tn):D:=.tup (t.map gZ)
def zE (c:List Int):D:=.tup (c.map .int)
def zA (t:Tn)(c:List Int):List Int:=t.map fun p=>Builtin.bitXor (c.getD p.1.toNat 0) p.2
def yF (t u:Tn):Tn:=t.map fun p=>((u.getD p.1.toNat (0,0)).1,Builtin.bitXor (u.getD p.1.toNat (0,0)).2 p.2)
theorem iA {elt:Ef}{h:Int×Int->D}{rest:List B}:∀(t:Tn) (x0 x1:B) (acc:List D),(∀p∈t,elt (.fz (.int p.1) :: .fz (.int p.2)::rest)=some (h p)) ->
   oA (gT (zN (gN 0) (zN (gN 1) yM))) tOK elt (t.map gZ) (x0::x1::rest) acc=some (acc++t.map h)
 | [],_,_,acc,_=>by simp[oA]
 | p::r,x0,x1,acc,hh=>by
   rw[List.map_cons]
   unfold oA
   have e1:gT (zN (gN 0) (zN (gN 1) yM)) (gZ p) (x0::x1::rest)=some (.fz (.int p.1) :: .fz (.int p.2)::rest):=rfl
   rw[e1,Option.bind_some]
   have e2:tOK (.fz (.int p.1) :: .fz (.int p.2)::rest)=some true:=rfl
   rw[e2,Option.bind_some,if_pos rfl,hh p List.mem_cons_self,Option.bind_some,iA r _ _ _ fun q hq=>hh q (List.mem_cons_of_mem _ hq)]
   simp
theorem fX {α:Type}(xs:List α)(i:Int)(d:α)(h0:0<=i)(h1:i < xs.length):atI xs i=some (xs.getD i.toNat d):=by
 unfold atI ixN
 rw[if_pos h0,if_pos h1]
 have:i.toNat < xs.length:=by omega
 simp[List.getD,this]
def zPg (t:Tn)(n:Nat):Prop:=∀p∈t,0<=p.1/\p.1 < n
theorem zU4 {t:List D}(h:t.length<=1000):okL t=some t:=by
 unfold okL
 rw[if_pos (Nat.le_trans h (by decide))]
theorem fT {α β:Type}(f:α->β)(xs:List α)(i:Int):atI (xs.map f) i=(atI xs i).map f:=by
 unfold atI
 rw[List.length_map]
 cases ixN xs.length i with
 | none=>rfl
 | some j=>simp
theorem eH (t:Tn)(c:List Int)(h:zPg t c.length)(hl:t.length<=1000):tY [zC t,zE c]=some (zE (zA t c)):=by
 have e1:sF 2 [zC t,zE c]=[.fz (zC t),.fz (zE c)]:=rfl
 have e2:=iA (elt:=zX6 (eIx (eV 2) (eV 0)) (eV 1)) (h:=fun p=>.int (Builtin.bitXor (c.getD p.1.toNat 0) p.2)) (rest:=[.fz (zE c)]) t .no .no [] fun p hp=>by
   obtain⟨h0,h1⟩:=h p hp
   simp[eI,eIx,eV,sK,zE,atD,fT,fX c p.1 0 h0 h1]
 have e3:okL (t.map gZ)=some (t.map gZ):=zU4 (by rw[List.length_map];exact hl)
 have e4:upB 2 [1] [.fz (zC t),.fz (zE c)]=[.no,.no,.fz (zE c)]:=rfl
 unfold tY fnF
 rw[e1]
 have e5:yV (iT (eV 0)) 2 [1] (gT (zN (gN 0) (zN (gN 1) yM))) tOK (zX6 (eIx (eV 2) (eV 0)) (eV 1)) [.fz (zC t),.fz (zE c)]=some (t.map fun p=>D.int (Builtin.bitXor (c.getD p.1.toNat 0) p.2)):=by
   unfold yV
   have e6:iT (eV 0) [.fz (zC t),.fz (zE c)]=some (t.map gZ):=rfl
   rw[e6,Option.bind_some,e3,Option.bind_some,e4,e2]
   simp
 simp only[b_turned,zZR,yY,xR,eL,e5,Option.map_some,Option.bind_some,zVH,xC]
 simp only[zE,zA,List.map_map,Function.comp_def]
end My
namespace My
open PySem L2
theorem zWH (t u:Tn)(h:zPg t u.length)(hl:t.length<=1000):oN [zC t,zC u]=some (zC (yF t u)):=by
 have e1:sF 2 [zC t,zC u]=[.fz (zC t),.fz (zC u)]:=rfl
 have e2:=iA (elt:=zI (zZ (eIx (eIx (eV 2) (eV 0)) (eC (.int 0))) (zZ (zX6 (eIx (eIx (eV 2) (eV 0)) (eC (.int 1))) (eV 1)) zS))) (h:=fun p=>gZ ((u.getD p.1.toNat (0,0)).1,Builtin.bitXor (u.getD p.1.toNat (0,0)).2 p.2)) (rest:=[.fz (zC u)]) t .no .no [] fun p hp=>by
   obtain⟨h0,h1⟩:=h p hp
   have a0:∀x y:D,atI [x,y] 0=some x:=fun _ _=>rfl
   have a1:∀x y:D,atI [x,y] 1=some y:=fun _ _=>rfl
   simp[eI,eIx,eV,eC,sK,zC,atD,fT,fX u p.1 (0,0) h0 h1,gZ,zI,zZ,zS,okL,lim,a0,a1]
 have e3:okL (t.map gZ)=some (t.map gZ):=zU4 (by rw[List.length_map];exact hl)
 have e4:upB 2 [1] [.fz (zC t),.fz (zC u)]=[.no,.no,.fz (zC u)]:=rfl
 unfold oN fnF
 rw[e1]
 have e5:yV (iT (eV 0)) 2 [1] (gT (zN (gN 0) (zN (gN 1) yM))) tOK (zI (zZ (eIx (eIx (eV 2) (eV 0)) (eC (.int 0))) (zZ (zX6 (eIx (eIx (eV 2) (eV 0)) (eC (.int 1))) (eV 1)) zS))) [.fz (zC t),.fz (zC u)]=some (t.map fun p=>gZ ((u.getD p.1.toNat (0,0)).1,Builtin.bitXor (u.getD p.1.toNat (0,0)).2 p.2)):=by
   unfold yV
   have e6:iT (eV 0) [.fz (zC t),.fz (zC u)]=some (t.map gZ):=rfl
   rw[e6,Option.bind_some,e3,Option.bind_some,e4,e2]
   simp
 simp only[b_after,zYF,yY,xR,eL,e5,Option.map_some,Option.bind_some,zVH,xC]
 simp only[zC,yF,List.map_map,Function.comp_def]
end My
namespace My
open PySem L2
def bits:List Int:=[0,1]
def turnsM2:List Tn:=[((0:Int),(1:Int)),(1,0)].flatMap fun o=>bits.flatMap fun f=>bits.map fun g=>[(o.1,f),(o.2,g)]
def turnsM3:List Tn:=[((0:Int),(1:Int),(2:Int)),(0,2,1),(1,0,2),(1,2,0),(2,0,1),(2,1,0)].flatMap fun o=>bits.flatMap fun f=>bits.flatMap fun g=>bits.map fun h=>[(o.1,f),(o.2.1,g),(o.2.2,h)]
theorem zP5 {a b f g:Int}(h1:a=0/\b=1∨a=1/\b=0)(h2:f=0∨f=1)(h3:g=0∨g=1):[(a,f),(b,g)]∈turnsM2:=by
 rcases h1 with⟨rfl,rfl⟩ | ⟨rfl,rfl⟩<;>rcases h2 with rfl | rfl<;>rcases h3 with rfl | rfl<;>decide
theorem zOe {a b c f g h:Int}(h1:zTC a b c)(h2:f=0∨f=1)(h3:g=0∨g=1)(h4:h=0∨h=1):[(a,f),(b,g),(c,h)]∈turnsM3:=by
 rcases h1 with⟨rfl,rfl,rfl⟩ | ⟨rfl,rfl,rfl⟩ | ⟨rfl,rfl,rfl⟩ | ⟨rfl,rfl,rfl⟩ | ⟨rfl,rfl,rfl⟩ | ⟨rfl,rfl,rfl⟩<;>rcases h2 with rfl | rfl<;>rcases h3 with rfl | rfl<;>rcases h4 with rfl | rfl<;>decide
theorem zYt {t:Tn}(h:t∈turnsM2):∃a b f g,(a=0/\b=1∨a=1/\b=0)/\(f=0∨f=1)/\(g=0∨g=1)/\t=[(a,f),(b,g)]:=by
 simp only[turnsM2,bits,List.mem_flatMap,List.mem_map,List.mem_cons,List.not_mem_nil,or_false] at h
 obtain⟨o,ho,f,hf,g,hg,rfl⟩:=h
 refine⟨o.1,o.2,f,g,?_,hf,hg,rfl⟩
 rcases ho with rfl | rfl
 · exact .inl ⟨rfl,rfl⟩
 · exact .inr ⟨rfl,rfl⟩
theorem zXo {t:Tn}(h:t∈turnsM3):∃a b c f g j,zTC a b c/\(f=0∨f=1)/\(g=0∨g=1)/\(j=0∨j=1)/\t=[(a,f),(b,g),(c,j)]:=by
 simp only[turnsM3,bits,List.mem_flatMap,List.mem_map,List.mem_cons,List.not_mem_nil,or_false] at h
 obtain⟨o,ho,f,hf,g,hg,j,hj,rfl⟩:=h
 refine⟨o.1,o.2.1,o.2.2,f,g,j,?_,hf,hg,hj,rfl⟩
 unfold zTC
 rcases ho with rfl | rfl | rfl | rfl | rfl | rfl<;>simp
structure Tr (n:Nat)(t:Tn):Prop where
 len:t.length=n
 fits:zPg t n
 flip:∀p∈t,p.2=0∨p.2=1
theorem tr2 {t:Tn}(h:t∈turnsM2):Tr 2 t:=by
 obtain⟨a,b,f,g,h1,h2,h3,rfl⟩:=zYt h
 refine⟨rfl,fun p hp=>?_,fun p hp=>?_⟩
 · simp only[List.mem_cons,List.not_mem_nil,or_false] at hp
   rcases h1 with⟨rfl,rfl⟩ | ⟨rfl,rfl⟩<;>rcases hp with rfl | rfl<;>exact⟨by simp,by simp⟩
 · simp only[List.mem_cons,List.not_mem_nil,or_false] at hp
   rcases hp with rfl | rfl
   · exact h2
   · exact h3
theorem tr3 {t:Tn}(h:t∈turnsM3):Tr 3 t:=by
 obtain⟨a,b,c,f,g,j,h1,h2,h3,h4,rfl⟩:=zXo h
 refine⟨rfl,fun p hp=>?_,fun p hp=>?_⟩
 · simp only[List.mem_cons,List.not_mem_nil,or_false] at hp
   unfold zTC at h1
   rcases h1 with⟨rfl,rfl,rfl⟩ | ⟨rfl,rfl,rfl⟩ | ⟨rfl,rfl,rfl⟩ | ⟨rfl,rfl,rfl⟩ | ⟨rfl,rfl,rfl⟩ | ⟨rfl,rfl,rfl⟩<;>rcases hp with rfl | rfl | rfl<;>exact⟨by simp,by simp⟩
 · simp only[List.mem_cons,List.not_mem_nil,or_false] at hp
   rcases hp with rfl | rfl | rfl
   · exact h2
   · exact h3
   · exact h4
def zS3 (t:Tn):Bool:=match t with | [(a,f),(b,g)]=>(decide (a=0)&&decide (b=1)||decide (a=1)&&decide (b=0))&&(decide (f=0)||decide (f=1))&&(decide (g=0)||decide (g=1)) | _=>false
def zO0 (a b c:Int):Bool:=(decide (a=0)&&decide (b=1)&&decide (c=2))||(decide (a=0)&&decide (b=2)&&decide (c=1))||(decide (a=1)&&decide (b=0)&&decide (c=2))||(decide (a=1)&&decide (b=2)&&decide (c=0))||(decide (a=2)&&decide (b=0)&&decide (c=1))||(decide (a=2)&&decide (b=1)&&decide (c=0))
def zRU (t:Tn):Bool:=match t with | [(a,f),(b,g),(c,h)]=>zO0 a b c&&(decide (f=0)||decide (f=1))&&(decide (g=0)||decide (g=1))&&(decide (h=0)||decide (h=1)) | _=>false
theorem zXd {t:Tn}(h:zS3 t=true):t∈turnsM2:=by
 unfold zS3 at h
 split at h
 · simp only[Bool.and_eq_true,Bool.or_eq_true,decide_eq_true_eq] at h
   exact zP5 h.1.1 h.1.2 h.2
 · cases h
theorem zW4 {t:Tn}(h:zRU t=true):t∈turnsM3:=by
 unfold zRU zO0 at h
 split at h
 · simp only[Bool.and_eq_true,Bool.or_eq_true,decide_eq_true_eq] at h
   obtain⟨⟨⟨h1,h2⟩,h3⟩,h4⟩:=h
   refine zOe ?_ h2 h3 h4
   unfold zTC
   rcases h1 with((((h1 | h1) | h1) | h1) | h1) | h1
   · exact .inl ⟨h1.1.1,h1.1.2,h1.2⟩
   · exact .inr (.inl ⟨h1.1.1,h1.1.2,h1.2⟩)
   · exact .inr (.inr (.inl ⟨h1.1.1,h1.1.2,h1.2⟩))
   · exact .inr (.inr (.inr (.inl ⟨h1.1.1,h1.1.2,h1.2⟩)))
   · exact .inr (.inr (.inr (.inr (.inl ⟨h1.1.1,h1.1.2,h1.2⟩))))
   · exact .inr (.inr (.inr (.inr (.inr ⟨h1.1.1,h1.1.2,h1.2⟩))))
 · cases h
theorem zVr {t u:Tn}(ht:t∈turnsM2)(hu:u∈turnsM2):yF t u∈turnsM2:=by
 have key:(turnsM2.all fun t=>turnsM2.all fun u=>zS3 (yF t u))=true:=by decide +kernel
 exact zXd (List.all_eq_true.mp (List.all_eq_true.mp key t ht) u hu)
theorem zV2 {t u:Tn}(ht:t∈turnsM3)(hu:u∈turnsM3):yF t u∈turnsM3:=by
 have key:(turnsM3.all fun t=>turnsM3.all fun u=>zRU (yF t u))=true:=by decide +kernel
 exact zW4 (List.all_eq_true.mp (List.all_eq_true.mp key t ht) u hu)
def zQC (k n:Nat):List Int:=(List.range n).map fun i=>(((k >>> i) % 2:Nat):Int)
def zD (n:Nat):List (List Int):=(List.range (2^n)).map fun k=>zQC k n
def wM (n:Nat):Tn:=(List.range n).map fun(i:Nat)=>((i:Int),(0:Int))
def wY (t:Tn):Tn:=(List.range t.length).map fun(i:Nat)=>match t.zipIdx.find? fun q=>q.1.1==(i:Int) with | some q=>((q.2:Int),q.1.2) | none=>(0,0)
def mK (n:Nat)(ok:Tn->Bool)(t:Tn):Bool:=ok (wY t)&&decide (yF (wY t) t=wM n)&&decide (yF t (wY t)=wM n)&&(zD n).all fun c=>decide (zA (wY t) (zA t c)=c)
theorem zV1 {t:Tn}(ht:t∈turnsM2):mK 2 zS3 t=true:=List.all_eq_true.mp (show(turnsM2.all (mK 2 zS3))=true by decide +kernel) t ht
theorem zV8 {t:Tn}(ht:t∈turnsM3):mK 3 zRU t=true:=List.all_eq_true.mp (show(turnsM3.all (mK 3 zRU))=true by decide +kernel) t ht
end My
namespace My
open PySem L2
theorem zQj {t:Tn}(ht:t∈turnsM2):pT [zC t]=some (zC (wY t)):=by
 obtain⟨a,b,f,g,h1,h2,h3,rfl⟩:=zYt ht
 rcases h1 with⟨rfl,rfl⟩ | ⟨rfl,rfl⟩<;>rcases h2 with rfl | rfl<;>rcases h3 with rfl | rfl<;>kernel_rfl
theorem zQO {t:Tn}(ht:t∈turnsM3):pT [zC t]=some (zC (wY t)):=by
 obtain⟨a,b,c,f,g,j,h1,h2,h3,h4,rfl⟩:=zXo ht
 rcases h1 with⟨rfl,rfl,rfl⟩ | ⟨rfl,rfl,rfl⟩ | ⟨rfl,rfl,rfl⟩ | ⟨rfl,rfl,rfl⟩ | ⟨rfl,rfl,rfl⟩ | ⟨rfl,rfl,rfl⟩<;>rcases h2 with rfl | rfl<;>rcases h3 with rfl | rfl<;>rcases h4 with rfl | rfl<;>kernel_rfl
def z9 (n:Nat):List Tn:=if n=2 then turnsM2 else turnsM3
section
variable {n:Nat} (hn:n=2∨n=3)
include hn
theorem trM {t:Tn}(h:t∈z9 n):Tr n t:=by
 rcases hn with rfl | rfl
 · exact tr2 h
 · exact tr3 h
theorem oR {t u:Tn}(h:t∈z9 n)(h':u∈z9 n):yF t u∈z9 n:=by
 rcases hn with rfl | rfl
 · exact zVr h h'
 · exact zV2 h h'
theorem zSr {t:Tn}(h:t∈z9 n):pT [zC t]=some (zC (wY t)):=by
 rcases hn with rfl | rfl
 · exact zQj h
 · exact zQO h
theorem kI {t:Tn}(h:t∈z9 n):wY t∈z9 n/\∀c∈zD n,zA (wY t) (zA t c)=c:=by
 rcases hn with rfl | rfl
 · have q:=zV1 h
   unfold mK at q
   simp only[Bool.and_eq_true,decide_eq_true_eq,List.all_eq_true] at q
   exact⟨zXd q.1.1.1,q.2⟩
 · have q:=zV8 h
   unfold mK at q
   simp only[Bool.and_eq_true,decide_eq_true_eq,List.all_eq_true] at q
   exact⟨zW4 q.1.1.1,q.2⟩
end
theorem zWb (t:Tn)(c:List Int):(zA t c).length=t.length:=by simp[zA]
end My
namespace My
open PySem L2
def zOF (c f:Int):Int:=((c*f+12345) % 2147483647)*((c*f+12345) % 2147483647) % 2147483629 / 3
theorem zOR (c f:Int)(h1 : -18446744073709551616 < f)(h2:f < 18446744073709551616):jH [.int c,.int f]=some (.int (zOF c f)):=by
 have e1:aT c f=true:=zVx h1 h2
 have e2:aT ((c*f+12345) % 2147483647) ((c*f+12345) % 2147483647)=true:=zZM (by omega) (by omega)
 have d1:decide ((0:Int) < 2147483647)=true:=rfl
 have d2:decide ((0:Int) < 2147483629)=true:=rfl
 have d3:(decide ((0:Int) < 3)&&decide ((3:Int) < 1073741824))=true:=rfl
 simp only[jH,fnF,b_law_mix,cO,jW,sF,zM,zK,yY,eI,eV,eC,sK,List.map,List.length_cons,List.length_nil,List.replicate,List.cons_append,List.nil_append,List.getElem?_cons_zero,List.getElem?_cons_succ,Option.bind_some,Option.map_some,e1,e2,d1,d2,d3,if_true,xC,List.set,zZ0]
 rfl
mutual
def okS:Nat->D->Bool
 | 0,_=>false
 | _+1,.obj _ _ _=>false
 | _+1,.exc _ _ _=>false
 | n+1,.tup ds=>decide (ds.length<=1000)&&zWG n ds
 | n+1,.lst ds=>decide (ds.length<=1000)&&zWG n ds
 | _+1,_=>true
def zWG:Nat->List D->Bool
 | _,[]=>true
 | n,d::r=>okS n d&&zWG n r
end
theorem aM {n:Nat}:∀ {ds:List D} {i:Nat} {d:D},zWG n ds=true->ds[i]?=some d->okS n d=true
 | [],_,_,_,h=>by simp at h
 | x::r,0,_,h,e=>by
   unfold zWG at h
   rw[Bool.and_eq_true] at h
   cases e
   exact h.1
 | x::r,i+1,_,h,e=>by
   unfold zWG at h
   rw[Bool.and_eq_true] at h
   exact aM h.2 (by simpa using e)
theorem zZk {self:List D->Option D}{d:D}{ds:List D}(hd:∀i:Nat,i < ds.length->atD d (.int (0+(i:Nat)))=ds[i]?)(hl:zSR d=some (.int ds.length))(hz:ds.length<=1000)(hs:∀x∈ds,self [x,x]=some (.bl true)) :
   (sZ self [.fz d,.fz d,.no]).bind xC=some (.bl true):=by
 have c1:decide (-1000000<=((ds.length:Nat):Int))=true:=decide_eq_true (by omega)
 have c2:decide (((ds.length:Nat):Int)<=1000000)=true:=decide_eq_true (by omega)
 have src:iR (xP (eV 1)) [.fz d,.fz d,.no]=some (tI 0 ds.length):=by
   simp only[iR,xP,eV,sK,List.getElem?_cons_zero,List.getElem?_cons_succ,Option.bind_some,hl,c1,c2,Bool.and_true,if_true]
   rfl
 obtain⟨ρ',e,x2,rfl⟩:=fM (g:=gN 2) (body:=uC self) (P:=fun ρ=>∃x2,ρ=[.fz d,.fz d,x2]) (tI 0 ds.length) (fun y hy ρ hρ=>by
     obtain⟨i,hi,rfl⟩:=zW3 hy
     obtain⟨x2,rfl⟩:=hρ
     refine⟨[.fz d,.fz d,.fz (.int (0+(i:Nat)))],[.fz d,.fz d,.fz (.int (0+(i:Nat)))],rfl,?_,_,rfl⟩
     have a:=hd i hi
     rw[List.getElem?_eq_getElem hi] at a
     have b:=hs _ (List.getElem_mem hi)
     simp only[uC,sIf,xS,tB1,zO,zZ,zS,eIx,eV,sK,yU,List.getElem?_cons_zero,List.getElem?_cons_succ,Option.bind_some,Option.map_some,List.length_cons,List.length_nil,if_true,a,b,Bool.not_true,Bool.false_eq_true,if_false]) [.fz d,.fz d,.no] ⟨_,rfl⟩
 have es:wX (iR (xP (eV 1))) (gN 2) (uC self) [.fz d,.fz d,.no]=some (.nx [.fz d,.fz d,x2]):=by
   unfold wX;rw[src,Option.bind_some];exact e
 have q1:=fun r hk=>xI (g:=lP self) (r:=r) es hk
 refine q1 _ ?_
 rfl
theorem eJ:∀(n:Nat) (d:D),okS n d=true->yX n [d,d]=some (.bl true)
 | 0,_,h=>by unfold okS at h;cases h
 | n+1,d,h=>by
   have ih:=eJ n
   cases d with
   | non=>rfl
   | bl b=>cases b<;>rfl
   | int i =>
     have g:gEq (.int i) (.int i)=some true:=by show some (decide (i=i))=_;rw[decide_eq_true rfl]
     show((xD (yX n)) [.fz (.int i),.fz (.int i),.no]).bind xC=_
     simp only[xD,uX,uT,uV,zM,sIf,yU,yY,eB2,pQ,pC,eV,eC,sK,tB1,uA,isInt,qN,kT,xJ,xS,List.getElem?_cons_zero,List.getElem?_cons_succ,Option.bind_some,Option.map_some,g,if_true,Bool.false_eq_true,if_false,Bool.not_false,xC]
   | str i =>
     have g:gEq (.str i) (.str i)=some true:=by show some (decide (i=i))=_;rw[decide_eq_true rfl]
     show((xD (yX n)) [.fz (.str i),.fz (.str i),.no]).bind xC=_
     simp only[xD,uX,uT,uV,sX,zM,sIf,yU,yY,eB2,pQ,pC,eV,eC,sK,tB1,uA,isInt,mP,kT,xJ,List.getElem?_cons_zero,List.getElem?_cons_succ,Option.bind_some,Option.map_some,g,if_true,Bool.false_eq_true,if_false,xC]
   | tup ds =>
     unfold okS at h
     rw[Bool.and_eq_true] at h
     have hz:=of_decide_eq_true h.1
     have g:gNe (.int (ds.length:Nat)) (.int (ds.length:Nat))=some false:=by show(some (decide _)).map _=_;rw[decide_eq_true rfl];rfl
     have r:yX (n+1) [.tup ds,.tup ds]=(sZ (yX n) [.fz (.tup ds),.fz (.tup ds),.no]).bind xC:=by
       show((xD (yX n)) [.fz (.tup ds),.fz (.tup ds),.no]).bind xC=_
       simp only[xD,uX,uT,uV,sX,qG,qH,qF,zM,sIf,yU,yY,eB2,pQ,pC,eV,eC,sK,tB1,dC,xS,uA,isInt,mP,lC,oG,xP,zSR,List.getElem?_cons_zero,List.getElem?_cons_succ,Option.bind_some,Option.map_some,g,if_true,Bool.false_eq_true,if_false,Bool.not_true]
     rw[r]
     refine zZk (ds:=ds) (fun i hi=>?_) rfl hz fun x hx=>?_
     · show atI ds _=_
       rw[show(0:Int)+((i:Nat):Int)=((i:Nat):Int) by omega,zX4 (List.getElem?_eq_getElem hi),List.getElem?_eq_getElem hi]
     · obtain⟨i,hi⟩:=List.getElem?_of_mem hx
       exact ih x (aM h.2 hi)
   | lst ds =>
     unfold okS at h
     rw[Bool.and_eq_true] at h
     have hz:=of_decide_eq_true h.1
     have g:gNe (.int (ds.length:Nat)) (.int (ds.length:Nat))=some false:=by show(some (decide _)).map _=_;rw[decide_eq_true rfl];rfl
     have r:yX (n+1) [.lst ds,.lst ds]=(sZ (yX n) [.fz (.lst ds),.fz (.lst ds),.no]).bind xC:=by
       show((xD (yX n)) [.fz (.lst ds),.fz (.lst ds),.no]).bind xC=_
       simp only[xD,uX,uT,uV,sX,qG,qH,qF,zM,sIf,yU,yY,eB2,pQ,pC,eV,eC,sK,tB1,dC,xS,uA,isInt,mP,lC,oG,xP,zSR,List.getElem?_cons_zero,List.getElem?_cons_succ,Option.bind_some,Option.map_some,g,if_true,Bool.false_eq_true,if_false,Bool.not_true]
     rw[r]
     refine zZk (ds:=ds) (fun i hi=>?_) rfl hz fun x hx=>?_
     · show atI ds _=_
       rw[show(0:Int)+((i:Nat):Int)=((i:Nat):Int) by omega,zX4 (List.getElem?_eq_getElem hi),List.getElem?_eq_getElem hi]
     · obtain⟨i,hi⟩:=List.getElem?_of_mem hx
       exact ih x (aM h.2 hi)
   | obj a b ds=>unfold okS at h;cases h
   | exc a b ds=>unfold okS at h;cases h
theorem zWL {α:Type}{n:Nat}{f:α->D}:∀ {l:List α},(∀x∈l,okS n (f x)=true)->zWG n (l.map f)=true
 | [],_=>rfl
 | x::r,h=>by
   rw[List.map_cons]
   unfold zWG
   rw[h x List.mem_cons_self,zWL fun y hy=>h y (List.mem_cons_of_mem _ hy)]
   rfl
theorem zNE {n:Nat}{c:List Int}(h:c.length<=1000):okS (n+2) (zE c)=true:=by
 unfold zE okS
 rw[List.length_map,decide_eq_true h,zWL fun x _=>rfl]
 rfl
structure Pt where
 c:List Int
 t:Tn
 b:Bool
def yH (p:Pt):D:=.tup [zE p.c,zC p.t,.bl p.b]
def yN (p:Pt):D:=.obj (Str.ofString "Part") [Str.ofString "corner",Str.ofString "turn",Str.ofString "back"] [zE p.c,zC p.t,.bl p.b]
def yL (n:Int)(j:Bool)(ps:List Pt):D:=.obj (Str.ofString "Curve") [Str.ofString "name",Str.ofString "dims",Str.ofString "joined",Str.ofString "parts"] [.str (Str.ofString "fold"),.int n,.bl j,.lst (ps.map yN)]
theorem zZF (ρ:List B)(f:Ef)(p:Pt)(h:f ρ=some (yN p)):xY (Str.ofString "Part") (Str.ofString "corner") f ρ=some (zE p.c):=by
 unfold xY;rw[h];rfl
theorem zPh (ρ:List B)(f:Ef)(p:Pt)(h:f ρ=some (yN p)):xY (Str.ofString "Part") (Str.ofString "turn") f ρ=some (zC p.t):=by
 unfold xY;rw[h];rfl
theorem zP4 (ρ:List B)(f:Ef)(p:Pt)(h:f ρ=some (yN p)):xY (Str.ofString "Part") (Str.ofString "back") f ρ=some (.bl p.b):=by
 unfold xY;rw[h];rfl
theorem gC (ρ:List B)(f:Ef){n:Int}{j:Bool}{ps:List Pt}(h:f ρ=some (yL n j ps)):xY (Str.ofString "Curve") (Str.ofString "parts") f ρ=some (.lst (ps.map yN)):=by
 unfold xY;rw[h];rfl
structure PtsOk (n:Nat)(ps:List Pt):Prop where
 perm:(ps.map (·.c)).Perm (zD n)
 turn:∀p∈ps,p.t∈z9 n
theorem kB {n:Nat}(hn:n=2∨n=3):(zD n).Nodup:=by
 rcases hn with rfl | rfl<;>decide +kernel
theorem tH {n:Nat}(hn:n=2∨n=3):∀c∈zD n,c.length=n:=by
 rcases hn with rfl | rfl<;>decide +kernel
theorem iW (n:Nat):(zD n).length=2^n:=by simp[zD]
theorem PtsOk.len {n:Nat}{ps:List Pt}(h:PtsOk n ps):ps.length=2^n:=by
 have:=h.perm.length_eq
 rw[List.length_map,iW] at this
 exact this
theorem PtsOk.small {n:Nat}{ps:List Pt}(hn:n=2∨n=3)(h:PtsOk n ps):ps.length<=8:=by
 rw[h.len]
 rcases hn with rfl | rfl<;>decide
theorem zXY (q:Int){n:Nat}(hn:n=2∨n=3):∃t∈z9 n,xV [.int q,.int n]=some (zC t):=by
 have q1:q / 1=q:=Int.ediv_one q
 rcases hn with rfl | rfl
 · rcases bit (q / 8) with h | h
   · refine⟨[(0,q / 1 % 2),(1,q / 2 % 2)],zP5 (.inl ⟨rfl,rfl⟩) (bit _) (bit _),?_⟩
     simp[xV,fnF,b_law_turn,qJ,sP,uU,sF,zM,zK,sIf,yY,yU,eI,eV,eC,sK,xC,zZ0,eL,yO,zS,zZ,okL,lim,eB2,gEq,h,yV,iR,zPM,upB,oA,gN,tOK,zI,eIx,atD,atI,ixN,xR,zVH,zC,gZ]
   · refine⟨[(1,q / 1 % 2),(0,q / 2 % 2)],zP5 (.inr ⟨rfl,rfl⟩) (bit _) (bit _),?_⟩
     simp[xV,fnF,b_law_turn,qJ,sP,uU,sF,zM,zK,sIf,yY,yU,eI,eV,eC,sK,xC,zZ0,eL,yO,zS,zZ,okL,lim,eB2,gEq,h,yV,iR,zPM,upB,oA,gN,tOK,zI,eIx,atD,atI,ixN,xR,zVH,zC,gZ]
 · have h6:q / 8 % 6=0∨q / 8 % 6=1∨q / 8 % 6=2∨q / 8 % 6=3∨q / 8 % 6=4∨q / 8 % 6=5:=by omega
   have key:∀a b c:Int,zTC a b c->atD (.lst [.lst [.int 0,.int 1,.int 2],.lst [.int 0,.int 2,.int 1],.lst [.int 1,.int 0,.int 2],.lst [.int 1,.int 2,.int 0],.lst [.int 2,.int 0,.int 1],.lst [.int 2,.int 1,.int 0]]) (.int (q / 8 % 6))=some (.lst [.int a,.int b,.int c])->∃t∈z9 3,xV [.int q,.int 3]=some (zC t):=fun a b c ho ha=>by
     refine⟨[(a,q / 1 % 2),(b,q / 2 % 2),(c,q / 4 % 2)],zOe ho (bit _) (bit _) (bit _),?_⟩
     have r:xV [.int q,.int 3]=(uU [.fz (.int q),.fz (.int 3),.fz (.lst [.int a,.int b,.int c])]).bind xC:=by
       have d6:decide ((0:Int) < 6)=true:=rfl
       have o3:∀x y z:D,okL [x,y,z]=some [x,y,z]:=fun _ _ _=>rfl
       have o2:∀x y:D,okL [x,y]=some [x,y]:=fun _ _=>rfl
       have o6:∀x y z u v w:D,okL [x,y,z,u,v,w]=some [x,y,z,u,v,w]:=fun _ _ _ _ _ _=>rfl
       have g3:gEq (.int 3) (.int 3)=some true:=rfl
       have c8:zZ0 q 8=true:=rfl
       simp only[xV,fnF,b_law_turn,qJ,sP,sF,zM,zK,sIf,eI,eV,eC,sK,eL,yO,zS,zZ,eB2,eIx,List.map_cons,List.map_nil,List.length_cons,List.length_nil,List.replicate,List.cons_append,List.nil_append,List.getElem?_cons_zero,List.getElem?_cons_succ,Option.bind_some,Option.map_some,o2,o3,o6,g3,c8,d6,if_true,ha,List.set]
     rw[r]
     simp[uU,yY,eI,eV,eC,sK,xC,zZ0,eL,yO,zS,zZ,okL,lim,yV,iR,zNS,upB,oA,gN,tOK,zI,eIx,atD,atI,ixN,xR,zVH,zC,gZ]
   rcases h6 with h | h | h | h | h | h
   · exact key 0 1 2 (.inl ⟨rfl,rfl,rfl⟩) (by rw[h];rfl)
   · exact key 0 2 1 (.inr (.inl ⟨rfl,rfl,rfl⟩)) (by rw[h];rfl)
   · exact key 1 0 2 (.inr (.inr (.inl ⟨rfl,rfl,rfl⟩))) (by rw[h];rfl)
   · exact key 1 2 0 (.inr (.inr (.inr (.inl ⟨rfl,rfl,rfl⟩)))) (by rw[h];rfl)
   · exact key 2 0 1 (.inr (.inr (.inr (.inr (.inl ⟨rfl,rfl,rfl⟩))))) (by rw[h];rfl)
   · exact key 2 1 0 (.inr (.inr (.inr (.inr (.inr ⟨rfl,rfl,rfl⟩))))) (by rw[h];rfl)
theorem zVK {n:Nat}(hn:n=2∨n=3):uE [.int n]=some ((zD n).map zE):=by
 rcases hn with rfl | rfl<;>kernel_rfl
def bI (c s f:Int):Int:=if 10^12<=c then c / 2^(30*s).toNat % 1073741824 else zOF (c+31*s) f
theorem eY (c s f:Int)(h1:0<=s)(h2:s<=1000)(h3 : -18446744073709551616 < f)(h4:f < 18446744073709551616):xW [.int c,.int s,.int f]=some (.int (bI c s f)):=by
 have hm:=zOR (c+31*s) f h3 h4
 have c1:aT 30 s=true:=zZM (by decide) (by decide)
 have c2:aT 31 s=true:=zZM (by decide) (by decide)
 have cp:zWz 10 12=true:=by decide
 have d0:decide ((0:Int)<=30*s)=true:=decide_eq_true (by omega)
 have d1:decide ((0:Int) < 1073741824)=true:=rfl
 have tn:(12:Int).toNat=12:=rfl
 unfold bI
 by_cases h:(10:Int)^12<=c
 · have hd:decide ((10:Int)^12<=c)=true:=decide_eq_true h
   rw[if_pos h]
   simp only[xW,fnF,b_law_cut,jQ,oE,sF,zM,sIf,yU,yY,eB2,gGe,eI,eV,eC,sK,List.map,List.length_cons,List.length_nil,List.replicate,List.cons_append,List.nil_append,List.getElem?_cons_zero,List.getElem?_cons_succ,Option.bind_some,Option.map_some,cp,tn,hd,c1,d0,d1,if_true,xC]
 · have hd:decide ((10:Int)^12<=c)=false:=decide_eq_false h
   rw[if_neg h]
   simp only[xW,fnF,b_law_cut,jQ,oE,sF,zM,sIf,yU,yY,eB2,gGe,eI,eV,eC,sK,List.map,List.length_cons,List.length_nil,List.replicate,List.cons_append,List.nil_append,List.getElem?_cons_zero,List.getElem?_cons_succ,Option.bind_some,Option.map_some,cp,tn,hd,c2,if_true,Bool.false_eq_true,if_false,zO,zZ,zS,hm,xC]
def eD:Sf:=zM (zK 4 (zO 3 xW (zZ (eV 1) (zZ (vT (eC (.int 3)) (rK 2)) (zZ (vT (eC (.int 48271)) (pK (eC (.int 997)) (rK 2))) zS)))))
   (zM (zVz 5 2 (yG (eV 4) (rK 2)))
   (hW 3 (zI (zZ (eV 5) (zZ (zO 2 xV (zZ (vV (eV 4) (eC (.int 8))) (zZ (eV 0) zS))) (zZ (xJ (eB2 gEq (yG (vV (eV 4) (eC (.int 800))) (eC (.int 2))) (eC (.int 1)))) zS))))))
theorem iO {α:Type}:∀(l:List α) (i:Nat) (x:α),l[i]?=some x->(x::l.eraseIdx i).Perm l
 | [],_,_,h=>by simp at h
 | a::r,0,x,h=>by cases h;exact .refl _
 | a::r,i+1,x,h=>by
   rw[List.getElem?_cons_succ] at h
   rw[List.eraseIdx_cons_succ]
   exact(List.Perm.swap a x _).trans (List.Perm.cons a (iO r i x h))
theorem fJ {α β:Type}(f:α->β):∀(l:List α) (i:Nat),(l.map f).eraseIdx i=(l.eraseIdx i).map f
 | [],_=>rfl
 | a::r,0=>rfl
 | a::r,i+1=>by rw[List.map_cons,List.eraseIdx_cons_succ,List.eraseIdx_cons_succ,List.map_cons,fJ f r i]
theorem zUY {n:Nat}(hn:n=2∨n=3)(cell:Int)(left:List (List Int))(acc:List Pt)(x4 x5:B)(h0:left≠[])(hl:left.length<=8)(ha:acc.length<=8)(ht:∀p∈acc,p.t∈z9 n) :
   ∃(left':List (List Int)) (acc':List Pt) (y4 y5:B),left'.length+1=left.length/\acc'.length=acc.length+1/\(acc'.map (·.c)++left').Perm (acc.map (·.c)++left)/\(∀p∈acc',p.t∈z9 n) /\
     eD [.fz (.int n),.fz (.int cell),.ow (left.map zE),.ow (acc.map yH),x4,x5]=some (.nx [.fz (.int n),.fz (.int cell),.ow (left'.map zE),.ow (acc'.map yH),y4,y5]):=by
 have hpos:0 < left.length:=List.length_pos_iff.mpr h0
 have m1:aT 997 (left.length:Int)=true:=zZM (by decide) (by decide)
 have hm:=eY cell (3+(left.length:Int)) (48271+997*(left.length:Int)) (by omega) (by omega) (by omega) (by omega)
 generalize bI cell (3+(left.length:Int)) (48271+997*(left.length:Int))=r at hm
 have i0:0<=r % (left.length:Int):=Int.emod_nonneg _ (by omega)
 have i1:r % (left.length:Int) < left.length:=Int.emod_lt_of_pos _ (by omega)
 generalize hi:r % (left.length:Int)=iv at i0 i1
 have hlt:iv.toNat < left.length:=by omega
 obtain⟨t,tm,te⟩:=zXY (r / 8) hn
 have px:=List.getElem?_eq_getElem hlt
 have pm:=iO left iv.toNat _ px
 generalize left[iv.toNat]=c at px pm
 refine⟨left.eraseIdx iv.toNat,acc++[⟨c,t,decide (r / 800 % 2=1)⟩],.fz (.int r),.fz (zE c),?_,?_,?_,?_,?_⟩
 · rw[List.length_eraseIdx_of_lt hlt];omega
 · simp
 · rw[List.map_append,List.append_assoc]
   exact List.Perm.append_left _ pm
 · intro p hp
   rcases List.mem_append.mp hp with q | q
   · exact ht p q
   · rw[List.mem_singleton.mp q];exact tm
 · have d1:decide ((0:Int) < (left.length:Nat))=true:=decide_eq_true (by omega)
   have d2:decide ((0:Int) < 2)=true:=rfl
   have c8:zZ0 r 8=true:=rfl
   have c800:zZ0 r 800=true:=rfl
   have ix:ixN left.length iv=some iv.toNat:=by unfold ixN;rw[if_pos i0,if_pos i1]
   have lz:left.length<=lim:=by show left.length<=100000;omega
   have az:acc.length < lim:=by show acc.length < 100000;omega
   have gx:(left.map zE)[iv.toNat]?=some (zE c):=by rw[List.getElem?_map,px];rfl
   have o3:okL [zE c,zC t,.bl (decide (r / 800 % 2=1))]=some [zE c,zC t,.bl (decide (r / 800 % 2=1))]:=rfl
   simp only[eD,zM,zK,zVz,hW,zO,zZ,zS,eI,eV,eC,sK,rK,zI,xJ,eB2,gEq,List.getElem?_cons_zero,List.getElem?_cons_succ,List.length_map,List.length_cons,List.length_nil,Option.bind_some,Option.map_some,m1,hm,d1,d2,hi,ix,if_pos lz,if_pos az,gx,c8,c800,te,o3,if_true,List.set,fJ,List.map_append,List.map_cons,List.map_nil,yH]
theorem bN {n:Nat}(hn:n=2∨n=3)(cell:Int):∀(m fuel:Nat) (left:List (List Int)) (acc:List Pt) (x4 x5:B),left.length=m->m < fuel->left.length+acc.length<=8->(∀p∈acc,p.t∈z9 n) ->
   ∃(acc':List Pt) (y4 y5:B),(acc'.map (·.c)).Perm (acc.map (·.c)++left)/\(∀p∈acc',p.t∈z9 n) /\
     vN (iH 2) eD fuel [.fz (.int n),.fz (.int cell),.ow (left.map zE),.ow (acc.map yH),x4,x5]=some (.nx [.fz (.int n),.fz (.int cell),.ow [],.ow (acc'.map yH),y4,y5])
 | 0,0,_,_,_,_,_,hf,_,_=>by omega
 | m+1,0,_,_,_,_,_,hf,_,_=>by omega
 | 0,f+1,left,acc,x4,x5,hm,_,_,ht=>by
   have e:left=[]:=List.eq_nil_of_length_eq_zero hm
   subst e
   exact⟨acc,x4,x5,by rw[List.append_nil],ht,rfl⟩
 | m+1,f+1,left,acc,x4,x5,hm,hf,hs,ht=>by
   have hne:left≠[]:=fun z=>by rw[z] at hm;simp at hm
   obtain⟨left',acc',y4,y5,l1,l2,l3,l4,l5⟩:=zUY hn cell left acc x4 x5 hne (by omega) (by omega) ht
   obtain⟨acc2,z4,z5,p1,p2,p3⟩:=bN hn cell m f left' acc' y4 y5 (by omega) (by omega) (by omega) l4
   refine⟨acc2,z4,z5,p1.trans l3,p2,?_⟩
   have t:iH 2 [.fz (.int n),.fz (.int cell),.ow (left.map zE),.ow (acc.map yH),x4,x5]=some true:=by
     cases left with
     | nil=>exact absurd rfl hne
     | cons a r=>rfl
   rw[vN,t,Option.bind_some,if_pos rfl,l5,Option.bind_some]
   exact p3
theorem zRD {n:Nat}(hn:n=2∨n=3)(cell:Int):∃ps:List Pt,PtsOk n ps/\rA [.int n,.int cell]=some (ps.map yH):=by
 have hl:(zD n).length+([]:List Pt).length<=8:=by rw[iW];rcases hn with rfl | rfl<;>decide
 have hl2:(zD n).length<=8:=by simpa using hl
 obtain⟨ps,y4,y5,p1,p2,p3⟩:=bN hn cell _ 100 (zD n) [] .no .no rfl (by omega) hl (by simp)
 refine⟨ps,⟨p1,p2⟩,?_⟩
 have hc:=zVK hn
 have s0:xF 2 (wZ 1 uE (zZ (eV 0) zS)) [.fz (.int n),.fz (.int cell),.no,.no,.no,.no]=some (.nx [.fz (.int n),.fz (.int cell),.ow ((zD n).map zE),.no,.no,.no]):=by
   simp only[xF,wZ,zZ,zS,eV,sK,List.getElem?_cons_zero,Option.bind_some,Option.map_some,List.length_cons,List.length_nil,if_true,hc,List.set]
 have s1:xF 3 (yO zS) [.fz (.int n),.fz (.int cell),.ow ((zD n).map zE),.no,.no,.no]=some (.nx [.fz (.int n),.fz (.int cell),.ow ((zD n).map zE),.ow [],.no,.no]):=rfl
 rw[List.map_nil] at p3
 show(mW [.fz (.int n),.fz (.int cell),.no,.no,.no,.no]).bind zXF=_
 unfold mW
 rw[yQ s0]
 unfold nO
 rw[yQ s1]
 unfold nB
 have p4:vN (iH 2) (zM (zK 4 (zO 3 xW (zZ (eV 1) (zZ (vT (eC (.int 3)) (rK 2)) (zZ (vT (eC (.int 48271)) (pK (eC (.int 997)) (rK 2))) zS))))) (zM (zVz 5 2 (yG (eV 4) (rK 2))) (hW 3 (zI (zZ (eV 5) (zZ (zO 2 xV (zZ (vV (eV 4) (eC (.int 8))) (zZ (eV 0) zS))) (zZ (xJ (eB2 gEq (yG (vV (eV 4) (eC (.int 800))) (eC (.int 2))) (eC (.int 1)))) zS))))))) 100 _=_:=p3
 rw[yQ p4]
 rfl
theorem zYD (n:Int)(j:Bool)(ps:List Pt)(b:Bool)(k:Int):sU [yL n j ps,.bl b,.int k]=some (.int (if b=true then(ps.length:Int) - 1 - k else k)):=by
 have e:=gC [.fz (yL n j ps),.fz (.bl b),.fz (.int k)] (eV 0) (n:=n) (j:=j) (ps:=ps) rfl
 have l:xP (xY (Str.ofString "Curve") (Str.ofString "parts") (eV 0)) [.fz (yL n j ps),.fz (.bl b),.fz (.int k)]=some (.int (ps.length:Nat)):=by
   unfold xP
   rw[e]
   show some (D.int ((ps.map yN).length:Nat))=_
   rw[List.length_map]
 have q:=zYj (eIf (tB1 (eV 1)) (mU (mU (xP (xY (Str.ofString "Curve") (Str.ofString "parts") (eV 0))) (eC (.int 1))) (eV 2)) (eV 2) [.fz (yL n j ps),.fz (.bl b),.fz (.int k)])
 have r:eIf (tB1 (eV 1)) (mU (mU (xP (xY (Str.ofString "Curve") (Str.ofString "parts") (eV 0))) (eC (.int 1))) (eV 2)) (eV 2) [.fz (yL n j ps),.fz (.bl b),.fz (.int k)]=some (.int (if b=true then(ps.length:Int) - 1 - k else k)):=by
   cases b with
   | true=>simp only[eIf,tB1,eI,l,eV,eC,sK,List.getElem?_cons_zero,List.getElem?_cons_succ,Option.bind_some,if_true]
   | false=>rfl
 exact q.trans r
theorem zVG:sS=tY:=rfl
theorem zTQ:xT=oN:=rfl
def ixB (b:Bool)(len k:Nat):Nat:=if b=true then len - 1 - k else k
theorem zXa {b:Bool}{len k:Nat}(h:k < len):(if b=true then(len:Int) - 1 - (k:Int) else(k:Int))=((ixB b len k:Nat):Int):=by
 unfold ixB
 cases b
 · rfl
 · rw[if_pos rfl,if_pos rfl];omega
theorem nD {b:Bool}{len k:Nat}(h:k < len):ixB b len k < len:=by
 unfold ixB
 split<;>omega
theorem zUm {b:Bool}{len k:Nat}(h:k < len):ixB b len (ixB b len k)=k:=by
 unfold ixB
 cases b
 · rfl
 · rw[if_pos rfl,if_pos rfl];omega
def stD (t:Tn)(b:Bool):D:=.tup [zC t,.bl b]
def zNq (t:Tn)(b:Bool)(p:Pt):D:=.tup [zE (zA t p.c),.tup [zC (yF t p.t),.bl (b != p.b)]]
theorem zPd (x y:Bool):gNe (.bl x) (.bl y)=some (x != y):=by cases x<;>cases y<;>rfl
section
variable {n:Nat} (hn:n=2∨n=3) {ps:List Pt} (ok:PtsOk n ps) {t:Tn} (ht:t∈z9 n) (b j:Bool)
include hn ok ht
theorem zSL {p:Pt}(hp:p∈ps):tY [zC t,zE p.c]=some (zE (zA t p.c))/\oN [zC t,zC p.t]=some (zC (yF t p.t)):=by
 have T:=trM hn ht
 have U:=trM hn (ok.turn p hp)
 have small:n<=1000:=by rcases hn with rfl | rfl<;>decide
 have hc:p.c.length=n:=tH hn _ (ok.perm.mem_iff.mp (List.mem_map.mpr ⟨p,hp,rfl⟩))
 exact⟨eH t p.c (by rw[hc];exact T.fits) (by rw[T.len];exact small),zWH t p.t (by rw[U.len];exact T.fits) (by rw[T.len];exact small)⟩
theorem zUG {k:Nat}(hk:k < ps.length):xK [yL n j ps,stD t b,.int k]=some (zNq t b (ps[ixB b ps.length k]'(nD hk))):=by
 generalize hp:ps[ixB b ps.length k]'(nD hk)=p
 have hm:p∈ps:=by rw[←hp];exact List.getElem_mem _
 obtain⟨f1,f2⟩:=zSL hn ok ht hm
 have s0:tJ (eV 1) (gT (zN (gN 3) (zN (gN 4) yM))) [.fz (yL n j ps),.fz (stD t b),.fz (.int k),.no,.no,.no,.no]=some (.nx [.fz (yL n j ps),.fz (stD t b),.fz (.int k),.fz (zC t),.fz (.bl b),.no,.no]):=rfl
 have q7:=fun r hk=>xI (g:=kN) (r:=r) s0 hk
 refine q7 _ ?_
 have w:=zYD n j ps b k
 rw[zXa hk] at w
 have at_:atD (.lst (ps.map yN)) (.int ((ixB b ps.length k:Nat):Int))=some (yN p):=by
   show atI (ps.map yN) _=_
   rw[fT,zX4 (List.getElem?_eq_getElem (nD hk)),hp]
   rfl
 have s1:zK 5 (eIx (xY (Str.ofString "Curve") (Str.ofString "parts") (eV 0)) (zO 3 sU (zZ (eV 0) (zZ (eV 4) (zZ (eV 2) zS))))) [.fz (yL n j ps),.fz (stD t b),.fz (.int k),.fz (zC t),.fz (.bl b),.no,.no]=some (.nx [.fz (yL n j ps),.fz (stD t b),.fz (.int k),.fz (zC t),.fz (.bl b),.fz (yN p),.no]):=by
   have e:=gC [.fz (yL n j ps),.fz (stD t b),.fz (.int k),.fz (zC t),.fz (.bl b),.no,.no] (eV 0) (n:=n) (j:=j) (ps:=ps) rfl
   have e2:zO 3 sU (zZ (eV 0) (zZ (eV 4) (zZ (eV 2) zS))) [.fz (yL n j ps),.fz (stD t b),.fz (.int k),.fz (zC t),.fz (.bl b),.no,.no]=some (.int ((ixB b ps.length k:Nat):Int)):=w
   simp only[zK,eIx,e,e2,Option.bind_some,at_,Option.map_some,List.set]
 have q8:=fun r hk=>xI (g:=kR) (r:=r) s1 hk
 refine q8 _ ?_
 have o2:∀x y:D,okL [x,y]=some [x,y]:=fun _ _=>rfl
 have s2:zK 6 (zI (zZ (zO 2 oN (zZ (eV 3) (zZ (xY (Str.ofString "Part") (Str.ofString "turn") (eV 5)) zS))) (zZ (xJ (eB2 gNe (eV 4) (xY (Str.ofString "Part") (Str.ofString "back") (eV 5)))) zS))) [.fz (yL n j ps),.fz (stD t b),.fz (.int k),.fz (zC t),.fz (.bl b),.fz (yN p),.no]=some (.nx [.fz (yL n j ps),.fz (stD t b),.fz (.int k),.fz (zC t),.fz (.bl b),.fz (yN p),.fz (.tup [zC (yF t p.t),.bl (b != p.b)])]):=by
   have e1:=zPh [.fz (yL n j ps),.fz (stD t b),.fz (.int k),.fz (zC t),.fz (.bl b),.fz (yN p),.no] (eV 5) p rfl
   have e2:=zP4 [.fz (yL n j ps),.fz (stD t b),.fz (.int k),.fz (zC t),.fz (.bl b),.fz (yN p),.no] (eV 5) p rfl
   simp only[zK,zI,zZ,zS,zO,xJ,eB2,e1,e2]
   simp only[eV,sK,List.getElem?_cons_zero,List.getElem?_cons_succ,List.length_cons,List.length_nil,Option.bind_some,Option.map_some,if_true,f2,zPd,o2,List.set]
 have q9:=fun r hk=>xI (g:=jO) (r:=r) s2 hk
 refine q9 _ ?_
 have e3:=zZF [.fz (yL n j ps),.fz (stD t b),.fz (.int k),.fz (zC t),.fz (.bl b),.fz (yN p),.fz (.tup [zC (yF t p.t),.bl (b != p.b)])] (eV 5) p rfl
 show((zI (zZ (zO 2 tY (zZ (eV 3) (zZ (xY (Str.ofString "Part") (Str.ofString "corner") (eV 5)) zS))) (zZ (eV 6) zS)) _).map Out.rt).bind xC=_
 simp only[zI,zZ,zS,zO,e3]
 simp only[eV,sK,List.getElem?_cons_zero,List.getElem?_cons_succ,List.length_cons,List.length_nil,Option.bind_some,Option.map_some,if_true,f1,o2,xC]
 rfl
end
theorem zY8 (m:Nat):∀(xs ys:List Int),xs.length=ys.length->zZ7 (eqD (m+1)) (xs.map .int) (ys.map .int)=some (decide (xs=ys))
 | [],[],_=>rfl
 | [],_::_,h=>by simp at h
 | _::_,[],h=>by simp at h
 | x::xs,y::ys,h=>by
   rw[List.map_cons,List.map_cons,zZ7,zY8 m xs ys (by simpa using h)]
   show((some (x==y)).bind fun a=>(some (decide (xs=ys))).map fun b=>a&&b)=_
   rw[Option.bind_some,Option.map_some]
   by_cases h1:x=y
   · by_cases h2:xs=ys
     · subst h1;subst h2;simp
     · simp[h2]
   · simp[h1]
theorem zUh {c c':List Int}(h:c.length=c'.length):eqD 8 (zE c) (zE c')=some (decide (c=c')):=by
 show(zZ7 (eqD 7) (c.map .int) (c'.map .int)).map (fun b=>b&&(c.map D.int).length==(c'.map D.int).length)=_
 rw[zY8 6 c c' h,Option.map_some,List.length_map,List.length_map,h]
 simp
theorem zZK {n:Nat}:∀(cs:List (List Int)) (i:Nat) (c:List Int),cs.Nodup->(∀x∈cs,x.length=n)->cs[i]?=some c->ixD (zE c) (cs.map zE)=some i
 | [],_,_,_,_,h=>by simp at h
 | x::r,0,c,nd,hl,h=>by
   cases h
   rw[List.map_cons,ixD,zUh rfl,decide_eq_true rfl,Option.bind_some,if_pos rfl,if_pos]
   rw[List.all_map,List.all_eq_true]
   intro y hy
   show(eqD 8 (zE y) (zE x)).isSome=true
   rw[zUh (by rw[hl y (List.mem_cons_of_mem _ hy),hl x List.mem_cons_self])]
   rfl
 | x::r,i+1,c,nd,hl,h=>by
   rw[List.getElem?_cons_succ] at h
   have hc:c∈r:=List.mem_of_getElem? h
   have hne:¬x=c:=fun z=>(List.nodup_cons.mp nd).1 (z ▸ hc)
   rw[List.map_cons,ixD,zUh (by rw[hl x List.mem_cons_self,hl c (List.mem_cons_of_mem _ hc)]),decide_eq_false hne,Option.bind_some,if_neg (by decide),zZK r i c (List.nodup_cons.mp nd).2 (fun y hy=>hl y (List.mem_cons_of_mem _ hy)) h]
   rfl
theorem cX:∀(ps:List Pt) (x0:B) (acc:List D),oA (gN 0) tOK (xY (Str.ofString "Part") (Str.ofString "corner") (eV 0)) (ps.map yN) [x0] acc=some (acc++(ps.map (·.c)).map zE)
 | [],_,acc=>by simp[oA]
 | p::r,x0,acc=>by
   rw[List.map_cons]
   unfold oA
   have e1:gN 0 (yN p) [x0]=some [.fz (yN p)]:=rfl
   have e2:tOK [.fz (yN p)]=some true:=rfl
   rw[e1,Option.bind_some,e2,Option.bind_some,if_pos rfl,zZF [.fz (yN p)] (eV 0) p rfl,Option.bind_some,cX r]
   simp
section
variable {n:Nat} (hn:n=2∨n=3) {ps:List Pt} (ok:PtsOk n ps) {t:Tn} (ht:t∈z9 n) (b j:Bool)
include hn ok ht
theorem zSN {k:Nat}(hk:k < ps.length):pI [yL n j ps,stD t b,zE (zA t (ps[ixB b ps.length k]'(nD hk)).c)]=some (.int (k:Nat)):=by
 generalize hp:ps[ixB b ps.length k]'(nD hk)=p
 have hm:p∈ps:=by rw[←hp];exact List.getElem_mem _
 have hcm:p.c∈zD n:=ok.perm.mem_iff.mp (List.mem_map.mpr ⟨p,hm,rfl⟩)
 have T:=trM hn ht
 have small:n<=1000:=by rcases hn with rfl | rfl<;>decide
 obtain⟨um,ub⟩:=kI hn ht
 have U:=trM hn um
 have e1:=zSr hn ht
 have e2:=eH (wY t) (zA t p.c) (by rw[zWb,T.len];exact U.fits) (by rw[U.len];exact small)
 rw[ub _ hcm] at e2
 have s0:tJ (eV 1) (gT (zN (gN 3) (zN (gN 4) yM))) [.fz (yL n j ps),.fz (stD t b),.fz (zE (zA t p.c)),.no,.no,.no,.no]=some (.nx [.fz (yL n j ps),.fz (stD t b),.fz (zE (zA t p.c)),.fz (zC t),.fz (.bl b),.no,.no]):=rfl
 have q10:=fun r hk=>xI (g:=lG) (r:=r) s0 hk
 refine q10 _ ?_
 have s1:zK 5 (zO 2 tY (zZ (zO 1 pT (zZ (eV 3) zS)) (zZ (eV 2) zS))) [.fz (yL n j ps),.fz (stD t b),.fz (zE (zA t p.c)),.fz (zC t),.fz (.bl b),.no,.no]=some (.nx [.fz (yL n j ps),.fz (stD t b),.fz (zE (zA t p.c)),.fz (zC t),.fz (.bl b),.fz (zE p.c),.no]):=by
   simp only[zK,zO,zZ,zS,eV,sK,List.getElem?_cons_zero,List.getElem?_cons_succ,List.length_cons,List.length_nil,Option.bind_some,Option.map_some,if_true,e1,e2,List.set]
 have q11:=fun r hk=>xI (g:=mI) (r:=r) s1 hk
 refine q11 _ ?_
 have sm:=ok.small hn
 have s2:xF 6 (yV (iL (xY (Str.ofString "Curve") (Str.ofString "parts") (eV 0))) 1 [] (gN 0) tOK (xY (Str.ofString "Part") (Str.ofString "corner") (eV 0))) [.fz (yL n j ps),.fz (stD t b),.fz (zE (zA t p.c)),.fz (zC t),.fz (.bl b),.fz (zE p.c),.no]=some (.nx [.fz (yL n j ps),.fz (stD t b),.fz (zE (zA t p.c)),.fz (zC t),.fz (.bl b),.fz (zE p.c),.ow ((ps.map (·.c)).map zE)]):=by
   have e:=gC [.fz (yL n j ps),.fz (stD t b),.fz (zE (zA t p.c)),.fz (zC t),.fz (.bl b),.fz (zE p.c),.no] (eV 0) (n:=n) (j:=j) (ps:=ps) rfl
   have i:iL (xY (Str.ofString "Curve") (Str.ofString "parts") (eV 0)) [.fz (yL n j ps),.fz (stD t b),.fz (zE (zA t p.c)),.fz (zC t),.fz (.bl b),.fz (zE p.c),.no]=some (ps.map yN):=by
     unfold iL
     rw[e]
     rfl
   unfold xF yV
   rw[i,Option.bind_some,zZL (by rw[List.length_map];omega),Option.bind_some]
   show((oA (gN 0) tOK _ (ps.map yN) [.no] []).map _)=_
   rw[cX]
   rfl
 have q12:=fun r hk=>xI (g:=lS) (r:=r) s2 hk
 refine q12 _ ?_
 have hix:ixD (zE p.c) ((ps.map (·.c)).map zE)=some (ixB b ps.length k):=by
   refine zZK (n:=n) _ _ _ (ok.perm.nodup_iff.mpr (kB hn)) (fun x hx=>tH hn x (ok.perm.mem_iff.mp hx)) ?_
   rw[List.getElem?_map,List.getElem?_eq_getElem (nD hk),hp]
   rfl
 have ei:aB (iL (eV 6)) (eV 5) [.fz (yL n j ps),.fz (stD t b),.fz (zE (zA t p.c)),.fz (zC t),.fz (.bl b),.fz (zE p.c),.fz (.lst ((ps.map (·.c)).map zE))]=some (.int ((ixB b ps.length k:Nat):Int)):=by
   show(if ((ps.map (·.c)).map zE).length<=100000 then(ixD (zE p.c) ((ps.map (·.c)).map zE)).map _ else none)=_
   rw[if_pos (by rw[List.length_map,List.length_map];omega),hix]
   rfl
 have w:=zYD n j ps b ((ixB b ps.length k:Nat):Int)
 rw[zXa (nD hk),zUm hk] at w
 show((zO 3 sU (zZ (eV 0) (zZ (eV 4) (zZ (aB (iL (eV 6)) (eV 5)) zS))) [.fz (yL n j ps),.fz (stD t b),.fz (zE (zA t p.c)),.fz (zC t),.fz (.bl b),.fz (zE p.c),.fz (.lst ((ps.map (·.c)).map zE))]).map Out.rt).bind xC=_
 unfold zO zZ
 rw[ei]
 show(((sU [yL n j ps,.bl b,.int ((ixB b ps.length k:Nat):Int)])).map Out.rt).bind xC=_
 rw[w]
 rfl
end
end My
namespace My
open PySem L2
theorem vF {i:Nat}{f:Ef}{g:Sf}{ρ:List B}{d:D}(h:f ρ=some d):zM (zK i f) g ρ=g (ρ.set i (.fz d)):=yQ (by unfold zK;rw[h];rfl)
theorem fP {f:List D->Option D}{fa:Ef}{ρ:List B}{x:D}(h:fa ρ=some x):zO 1 f (zZ fa zS) ρ=f [x]:=fK (yA h rfl) rfl
theorem rC {f:List D->Option D}{fa fb:Ef}{ρ:List B}{x y:D}(h1:fa ρ=some x)(h2:fb ρ=some y):zO 2 f (zZ fa (zZ fb zS)) ρ=f [x,y]:=fK (yA h1 (yA h2 rfl)) rfl
theorem tQ {f:List D->Option D}{fa fb fc:Ef}{ρ:List B}{x y z:D}(h1:fa ρ=some x)(h2:fb ρ=some y)(h3:fc ρ=some z):zO 3 f (zZ fa (zZ fb (zZ fc zS))) ρ=f [x,y,z]:=fK (yA h1 (yA h2 (yA h3 rfl))) rfl
theorem zOj {f:List D->Option D}{fa fb fc fd:Ef}{ρ:List B}{x y z u:D}(h1:fa ρ=some x)(h2:fb ρ=some y)(h3:fc ρ=some z)(h4:fd ρ=some u):zO 4 f (zZ fa (zZ fb (zZ fc (zZ fd zS)))) ρ=f [x,y,z,u]:=fK (yA h1 (yA h2 (yA h3 (yA h4 rfl)))) rfl
theorem hU {f:List D->Option (List D)}{fa fb:Ef}{ρ:List B}{x y:D}(h1:fa ρ=some x)(h2:fb ρ=some y):wZ 2 f (zZ fa (zZ fb zS)) ρ=f [x,y]:=by unfold wZ;rw[yA h1 (yA h2 rfl),Option.bind_some];rfl
theorem zOL {f:List D->Option (List D)}{fa fb fc:Ef}{ρ:List B}{x y z:D}(h1:fa ρ=some x)(h2:fb ρ=some y)(h3:fc ρ=some z):wZ 3 f (zZ fa (zZ fb (zZ fc zS))) ρ=f [x,y,z]:=by unfold wZ;rw[yA h1 (yA h2 (yA h3 rfl)),Option.bind_some];rfl
theorem yK {C:Int->Int->Bool}{g:Int->Int->Int}{fa fb:Ef}{ρ:List B}{i j:Int}(h1:fa ρ=some (.int i))(h2:fb ρ=some (.int j))(h:C i j=true):eI C g fa fb ρ=some (.int (g i j)):=by
 unfold eI
 rw[h1,Option.bind_some,h2,Option.bind_some]
 show(if C i j then _ else none)=_
 rw[if_pos h]
theorem wP {t:Tf}{f:Sf}{ρ:List B}{b:Bool}(h:t ρ=some b):sIf t f yU ρ=if b then f ρ else some (.nx ρ):=by unfold sIf;rw[h];cases b<;>rfl
theorem zXx {i:Nat}{f:Ef}{ρ:List B}{d:D}{ds:List D}(e1:f ρ=some d)(e2:ρ[i]?=some (.ow ds))(e3:ds.length<=1000):hW i f ρ=some (.nx (ρ.set i (.ow (ds++[d])))):=by
 unfold hW;rw[e1,Option.bind_some,e2]
 show(if ds.length < lim then _ else none)=_
 rw[if_pos (show ds.length < 100000 by omega)]
theorem qV {f:Ef}{ρ:List B}{x k:Int}(h:f ρ=some (.int x)):eB2 gEq f (eC (.int k)) ρ=some (decide (x=k)):=by unfold eB2;rw[h];rfl
theorem zPy {fa fb fc:Ef}{ρ:List B}{x y z:D}(h1:fa ρ=some x)(h2:fb ρ=some y)(h3:fc ρ=some z):zI (zZ fa (zZ fb (zZ fc zS))) ρ=some (.tup [x,y,z]):=by
 unfold zI;rw[yA h1 (yA h2 (yA h3 rfl))];rfl
theorem zS1 {t:Tn}(ht:t∈turnsM2):wQ [zC t]=some (zC (wY t)):=by
 obtain⟨a,b,f,g,h1,h2,h3,rfl⟩:=zYt ht
 rcases h1 with⟨rfl,rfl⟩ | ⟨rfl,rfl⟩<;>rcases h2 with rfl | rfl<;>rcases h3 with rfl | rfl<;>kernel_rfl
theorem zRw {t:Tn}(ht:t∈turnsM3):wQ [zC t]=some (zC (wY t)):=by
 obtain⟨a,b,c,f,g,j,h1,h2,h3,h4,rfl⟩:=zXo ht
 rcases h1 with⟨rfl,rfl,rfl⟩ | ⟨rfl,rfl,rfl⟩ | ⟨rfl,rfl,rfl⟩ | ⟨rfl,rfl,rfl⟩ | ⟨rfl,rfl,rfl⟩ | ⟨rfl,rfl,rfl⟩<;>rcases h2 with rfl | rfl<;>rcases h3 with rfl | rfl<;>rcases h4 with rfl | rfl<;>kernel_rfl
theorem zYG {n:Nat}(hn:n=2∨n=3){t:Tn}(h:t∈z9 n):wQ [zC t]=some (zC (wY t)):=by
 rcases hn with rfl | rfl
 · exact zS1 h
 · exact zRw h
theorem kJ {n:Nat}(hn:n=2∨n=3){t u:Tn}(h:t∈z9 n)(h':u∈z9 n):xT [zC t,zC u]=some (zC (yF t u)):=by
 have T:=trM hn h
 have U:=trM hn h'
 have small:n<=1000:=by rcases hn with rfl | rfl<;>decide
 rw[zTQ]
 exact zWH t u (by rw[U.len];exact T.fits) (by rw[T.len];exact small)
def zP9:List (List Int×Tn):=[([0,0],[(1,0),(0,0)]),([0,1],[(0,0),(1,0)]),([1,1],[(0,0),(1,0)]),([1,0],[(1,1),(0,1)])]
def zOQ:List (List Int×Tn):=[([0,0,0],[(1,0),(0,0),(2,0)]),([0,1,0],[(1,0),(2,0),(0,0)]),([0,1,1],[(0,0),(1,0),(2,0)]),([0,0,1],[(1,1),(2,1),(0,0)]),([1,0,1],[(1,0),(2,1),(0,1)]),([1,1,1],[(0,0),(1,0),(2,0)]),([1,1,0],[(1,1),(2,0),(0,1)]),([1,0,0],[(1,1),(0,1),(2,0)])]
def kO (x:List Int×Tn):D:=.tup [zE x.1,zC x.2]
def jE (n:Nat):List (List Int×Tn):=if n=2 then zP9 else zOQ
theorem zQS {n:Nat}(hn:n=2∨n=3):lQ [.int n]=some ((jE n).map kO):=by
 rcases hn with rfl | rfl<;>kernel_rfl
theorem zU2 {n:Nat}(hn:n=2∨n=3):∀x∈jE n,x.1∈zD n/\x.2∈z9 n:=by
 rcases hn with rfl | rfl<;>decide +kernel
theorem zZd {n:Nat}(hn:n=2∨n=3):∀t∈z9 n,((jE n).map fun x=>zA t x.1).Perm (zD n):=by
 rcases hn with rfl | rfl<;>decide +kernel
theorem zTm {n:Nat}(hn:n=2∨n=3){t m u:Tn}{c:List Int}(ht:t∈z9 n)(hm:m∈z9 n)(hu:u∈z9 n)(hc:c∈zD n)(x0 x1 x2 x9:B)(acc:List D)(ha:acc.length<=100)(bits:Int) :
   ∃p:Pt,p.c=zA t c/\p.t∈z9 n/\wT [x0,x1,x2,.fz (zC t),.fz (zC m),.ow acc,.fz (.int bits),.fz (zE c),.fz (zC u),x9]=some (.nx [x0,x1,x2,.fz (zC t),.fz (zC m),.ow (acc++[yH p]),.fz (.int (bits / 2)),.fz (zE c),.fz (zC u),.fz (zC p.t)]):=by
 have um:=(kI hn ht).1
 have e1:=zYG hn ht
 have e2:=kJ hn hu um
 have m2:=oR hn hu um
 have e3:=kJ hn ht m2
 have m3:=oR hn ht m2
 generalize hl:yF t (yF u (wY t))=l at e3 m3
 have e4:=kJ hn m3 hm
 have m4:=oR hn m3 hm
 have T:=trM hn ht
 have small:n<=1000:=by rcases hn with rfl | rfl<;>decide
 have e5:sS [zC t,zE c]=some (zE (zA t c)):=by
   rw[zVG]
   exact eH t c (by rw[tH hn c hc];exact T.fits) (by rw[T.len];exact small)
 have fin:∀w:Tn,w∈z9 n->tX [x0,x1,x2,.fz (zC t),.fz (zC m),.ow acc,.fz (.int bits),.fz (zE c),.fz (zC u),.fz (zC w)]=some (.nx [x0,x1,x2,.fz (zC t),.fz (zC m),.ow (acc++[yH ⟨zA t c,w,decide (bits % 2=1)⟩]),.fz (.int (bits / 2)),.fz (zE c),.fz (zC u),.fz (zC w)]):=fun w hw=>by
   unfold tX
   rw[yQ (zXx (d:=yH ⟨zA t c,w,decide (bits % 2=1)⟩) (ds:=acc) (zPy ((rC rfl rfl).trans e5) rfl (by unfold xJ;rw[qV (x:=bits % 2) (yK rfl rfl rfl)];rfl)) rfl (by omega))]
   rfl
 unfold wT
 rw[vF (d:=zC l) ((rC rfl ((rC rfl ((fP rfl).trans e1)).trans e2)).trans e3)]
 unfold qY
 have ht1:eB2 gEq (yG (eV 6) (eC (.int 2))) (eC (.int 1)) [x0,x1,x2,.fz (zC t),.fz (zC m),.ow acc,.fz (.int bits),.fz (zE c),.fz (zC u),.fz (zC l)]=some (decide (bits % 2=1)):=qV (yK rfl rfl rfl)
 by_cases hb:bits % 2=1
 · refine⟨⟨zA t c,yF l m,decide (bits % 2=1)⟩,rfl,m4,?_⟩
   rw[yQ (ρ':=[x0,x1,x2,.fz (zC t),.fz (zC m),.ow acc,.fz (.int bits),.fz (zE c),.fz (zC u),.fz (zC (yF l m))])]
   · exact fin _ m4
   · refine(wP ht1).trans ?_
     rw[decide_eq_true hb,if_pos rfl]
     unfold zK
     rw[rC rfl rfl,e4]
     rfl
 · refine⟨⟨zA t c,l,decide (bits % 2=1)⟩,rfl,m3,?_⟩
   rw[yQ (ρ':=[x0,x1,x2,.fz (zC t),.fz (zC m),.ow acc,.fz (.int bits),.fz (zE c),.fz (zC u),.fz (zC l)])]
   · exact fin _ m3
   · refine(wP ht1).trans ?_
     rw[decide_eq_false hb]
     rfl
theorem zZc {n:Nat}(hn:n=2∨n=3){t m:Tn}(ht:t∈z9 n)(hm:m∈z9 n)(x0 x1 x2:B):∀(bs:List (List Int×Tn)) (acc:List Pt) (bits:Int) (x7 x8 x9:B),(∀x∈bs,x.1∈zD n/\x.2∈z9 n)->acc.length+bs.length<=100->(∀p∈acc,p.t∈z9 n) ->
   ∃(ps:List Pt) (y6 y7 y8 y9:B),ps.map (·.c)=acc.map (·.c)++bs.map (fun x=>zA t x.1)/\(∀p∈ps,p.t∈z9 n) /\
     rB (gT (zN (gN 7) (zN (gN 8) yM))) wT (bs.map kO) [x0,x1,x2,.fz (zC t),.fz (zC m),.ow (acc.map yH),.fz (.int bits),x7,x8,x9]=some (.nx [x0,x1,x2,.fz (zC t),.fz (zC m),.ow (ps.map yH),y6,y7,y8,y9])
 | [],acc,bits,x7,x8,x9,_,_,ha=>⟨acc,.fz (.int bits),x7,x8,x9,by simp,ha,rfl⟩
 | x::r,acc,bits,x7,x8,x9,hb,hl,ha=>by
   obtain⟨h1,h2⟩:=hb x List.mem_cons_self
   obtain⟨p,p1,p2,p3⟩:=zTm hn ht hm h2 h1 x0 x1 x2 x9 (acc.map yH) (by rw[List.length_map];simp at hl;omega) bits
   obtain⟨ps,y6,y7,y8,y9,q1,q2,q3⟩:=zZc hn ht hm x0 x1 x2 r (acc++[p]) (bits / 2) (.fz (zE x.1)) (.fz (zC x.2)) (.fz (zC p.t)) (fun y hy=>hb y (List.mem_cons_of_mem _ hy)) (by simp at hl ⊢;omega) (fun q hq=>by
     rcases List.mem_append.mp hq with z | z
     · exact ha q z
     · rw[List.mem_singleton.mp z];exact p2)
   refine⟨ps,y6,y7,y8,y9,?_,q2,?_⟩
   · rw[q1];simp[p1]
   · rw[List.map_cons,rN (ρ1:=[x0,x1,x2,.fz (zC t),.fz (zC m),.ow (acc.map yH),.fz (.int bits),.fz (zE x.1),.fz (zC x.2),x9]) rfl p3]
     rw[List.map_append] at q3
     exact q3
theorem zYz {n:Nat}(hn:n=2∨n=3)(q:Int):∃ps:List Pt,PtsOk n ps/\wD [.int n,.int q]=some (ps.map yH):=by
 obtain⟨t,tm,te⟩:=zXY q hn
 have hmir:∃m∈z9 n,∀r:List B,xR (eL (yV (iR (eV 0)) 1 [] (gN 0) tOK (zI (zZ (eV 0) (zZ (hZ (xJ (eB2 gEq (eV 0) (eC (.int 0))))) zS))))) (.fz (.int (n:Nat))::r)=some (zC m):=by
   rcases hn with rfl | rfl
   · exact⟨[(0,1),(1,0)],by decide +kernel,fun r=>by kernel_rfl⟩
   · exact⟨[(0,1),(1,0),(2,0)],by decide +kernel,fun r=>by kernel_rfl⟩
 obtain⟨m,mm,me⟩:=hmir
 have um:=(kI hn tm).1
 have e1:=zYG hn tm
 have e2:=kJ hn mm um
 have m2:=oR hn mm um
 have e3:=kJ hn tm m2
 have m3:=oR hn tm m2
 have go:∀bs:List (List Int×Tn),(∀x∈bs,x.1∈zD n/\x.2∈z9 n)->bs.length<=100->(bs.map fun x=>zA t x.1).Perm (zD n)->∃ps:List Pt,PtsOk n ps/\(tE [.fz (.int n),.fz (.int q),.fz (.lst (bs.map kO)),.fz (zC t),.no,.no,.no,.no,.no,.no]).bind zXF=some (ps.map yH):=fun bs h1 h2 h3=>by
   obtain⟨ps,y6,y7,y8,y9,q1,q2,q3⟩:=zZc hn tm m3 (.fz (.int n)) (.fz (.int q)) (.fz (.lst (bs.map kO))) bs [] (q / 96) .no .no .no h1 (by simpa using h2) (by simp)
   refine⟨ps,⟨?_,q2⟩,?_⟩
   · rw[q1];simpa using h3
   · unfold tE
     rw[vF (d:=zC m) (me _)]
     unfold oZ
     rw[vF (d:=zC (yF t (yF m (wY t)))) ((rC rfl ((rC rfl ((fP rfl).trans e1)).trans e2)).trans e3)]
     unfold oV
     rw[yQ (ρ':=[.fz (.int n),.fz (.int q),.fz (.lst (bs.map kO)),.fz (zC t),.fz (zC (yF t (yF m (wY t)))),.ow [],.no,.no,.no,.no]) rfl]
     unfold pV
     rw[vF (d:=.int (q / 96)) (yK rfl rfl rfl)]
     unfold pM
     have fr:wX (iL (eV 2)) (gT (zN (gN 7) (zN (gN 8) yM))) wT [.fz (.int n),.fz (.int q),.fz (.lst (bs.map kO)),.fz (zC t),.fz (zC (yF t (yF m (wY t)))),.ow [],.fz (.int (q / 96)),.no,.no,.no]=some (.nx [.fz (.int n),.fz (.int q),.fz (.lst (bs.map kO)),.fz (zC t),.fz (zC (yF t (yF m (wY t)))),.ow (ps.map yH),y6,y7,y8,y9]):=q3
     dsimp only[List.set]
     rw[yQ fr]
     rfl
 have small:(jE n).length<=100:=by rcases hn with rfl | rfl<;>decide
 show ∃ps:List Pt,PtsOk n ps/\(pS [.fz (.int n),.fz (.int q),.no,.no,.no,.no,.no,.no,.no,.no]).bind zXF=some (ps.map yH)
 unfold pS
 rw[vF (d:=.lst ((jE n).map kO)) (zZa (by unfold wZ;rw[yA (d:=.int n) rfl rfl,Option.bind_some];exact zQS hn))]
 unfold pH
 rw[vF (d:=zC t) ((rC rfl rfl).trans te)]
 unfold oY
 have ht1:eB2 gEq (yG (vV (eV 1) (eC (.int 48))) (eC (.int 2))) (eC (.int 1)) [.fz (.int n),.fz (.int q),.fz (.lst ((jE n).map kO)),.fz (zC t),.no,.no,.no,.no,.no,.no]=some (decide (q / 48 % 2=1)):=qV (yK (yK rfl rfl rfl) rfl rfl)
 by_cases hb:q / 48 % 2=1
 · obtain⟨ps,g1,g2⟩:=go (jE n).reverse (fun x hx=>zU2 hn x (List.mem_reverse.mp hx)) (by rw[List.length_reverse];exact small) (by rw[List.map_reverse];exact(List.reverse_perm _).trans (zZd hn t tm))
   refine⟨ps,g1,?_⟩
   rw[yQ (ρ':=[.fz (.int n),.fz (.int q),.fz (.lst ((jE n).reverse.map kO)),.fz (zC t),.no,.no,.no,.no,.no,.no])]
   · exact g2
   · refine(wP ht1).trans ?_
     rw[decide_eq_true hb,if_pos rfl,List.map_reverse]
     rfl
 · obtain⟨ps,g1,g2⟩:=go (jE n) (zU2 hn) small (zZd hn t tm)
   refine⟨ps,g1,?_⟩
   rw[yQ (ρ':=[.fz (.int n),.fz (.int q),.fz (.lst ((jE n).map kO)),.fz (zC t),.no,.no,.no,.no,.no,.no])]
   · exact g2
   · refine(wP ht1).trans ?_
     rw[decide_eq_false hb]
     rfl
theorem zVD {n:Nat}(hn:n=2∨n=3)(cell:Int):∃ps:List Pt,PtsOk n ps/\nG [.int n,.int cell]=some (ps.map yH):=by
 have e1:=eY cell 1 16807 (by decide) (by decide) (by decide) (by decide)
 have e2:=eY cell 2 39373 (by decide) (by decide) (by decide) (by decide)
 generalize bI cell 1 16807=r at e1
 generalize bI cell 2 39373=o at e2
 obtain⟨ps,ok,e3⟩:=zYz hn (r / 8)
 have sm:=ok.small hn
 have pos:0 < ps.length:=by rw[ok.len];rcases hn with rfl | rfl<;>decide
 have i0:0<=r % (ps.length:Int):=Int.emod_nonneg _ (by omega)
 have i1:r % (ps.length:Int) < ps.length:=Int.emod_lt_of_pos _ (by omega)
 generalize hi:r % (ps.length:Int)=iv at i0 i1
 have hlt:iv.toNat < ps.length:=by omega
 have px:=List.getElem?_eq_getElem hlt
 generalize hp:ps[iv.toNat]=p at px
 have hat:atI (ps.map yH) iv=some (yH p):=by
   rw[fT,fX (α:=Pt) ps iv p i0 i1,List.getD_eq_getElem?_getD,px];rfl
 have pm:p∈ps:=List.mem_of_getElem? px
 obtain⟨t,tm,te⟩:=zXY (o / 3) hn
 have okset:∀(w:Tn) (bb:Bool),w∈z9 n->PtsOk n (ps.set iv.toNat ⟨p.c,w,bb⟩):=fun w bb hw=>by
   refine⟨?_,fun x hx=>?_⟩
   · have:(ps.set iv.toNat ⟨p.c,w,bb⟩).map (·.c)=ps.map (·.c):=by
       rw[List.map_set]
       refine List.ext_getElem? fun k=>?_
       rw[List.getElem?_set]
       split
       · rename_i e
         subst e
         rw[List.getElem?_map,px,List.length_map]
         simp[hlt]
       · rfl
     rw[this];exact ok.perm
   · rcases List.mem_or_eq_of_mem_set hx with z | z
     · exact ok.turn x z
     · rw[z];exact hw
 have sit:∀(f:Ef) (ρ:List B) (q:Pt),f ρ=some (yH q)->ρ[3]?=some (.ow (ps.map yH))->eV 4 ρ=some (.int iv)->iK 3 (eV 4) f ρ=some (.nx (ρ.set 3 (.ow ((ps.set iv.toNat q).map yH)))):=fun f ρ q h1 h2 h3=>by
   unfold iK
   rw[h1,Option.bind_some,h3,Option.bind_some,h2]
   show(if (ps.map yH).length<=lim then _ else none)=_
   rw[if_pos (by rw[List.length_map];show ps.length<=100000;omega),List.length_map]
   have:ixN ps.length iv=some iv.toNat:=by unfold ixN;rw[if_pos i0,if_pos i1]
   rw[this,List.map_set]
   rfl
 show ∃ps:List Pt,PtsOk n ps/\(qS [.fz (.int n),.fz (.int cell),.no,.no,.no,.no,.no,.no,.no]).bind zXF=some (ps.map yH)
 unfold qS
 rw[vF (d:=.int r) ((tQ rfl rfl rfl).trans e1)]
 unfold qT
 rw[yQ (ρ':=[.fz (.int n),.fz (.int cell),.fz (.int r),.ow (ps.map yH),.no,.no,.no,.no,.no]) (by
   unfold xF
   rw[hU rfl (yK (i:=r) (j:=8) rfl rfl rfl),e3]
   rfl)]
 unfold qR
 rw[vF (d:=.int iv) (by
   rw[←hi]
   refine yK (i:=r) (j:=(ps.length:Int)) rfl ?_ (decide_eq_true (by omega))
   show some (D.int ((ps.map yH).length:Nat))=_
   rw[List.length_map])]
 unfold qX
 rw[vF (d:=.int o) ((tQ rfl rfl rfl).trans e2)]
 unfold qZ
 rw[yQ (ρ':=[.fz (.int n),.fz (.int cell),.fz (.int r),.ow (ps.map yH),.fz (.int iv),.fz (.int o),.fz (zE p.c),.fz (zC p.t),.fz (.bl p.b)]) (by
   unfold tJ
   dsimp only[List.set]
   rw[show zRM 3 (eV 4) [.fz (.int n),.fz (.int cell),.fz (.int r),.ow (ps.map yH),.fz (.int iv),.fz (.int o),.no,.no,.no]=some (yH p) from hat]
   rfl)]
 unfold qO
 have ht1:eB2 gEq (yG (eV 5) (eC (.int 3))) (eC (.int 0)) [.fz (.int n),.fz (.int cell),.fz (.int r),.ow (ps.map yH),.fz (.int iv),.fz (.int o),.fz (zE p.c),.fz (zC p.t),.fz (.bl p.b)]=some (decide (o % 3=0)):=qV (yK rfl rfl rfl)
 by_cases hb:o % 3=0
 · refine⟨_,okset p.t (!p.b) (ok.turn p pm),?_⟩
   rw[yQ (ρ':=[.fz (.int n),.fz (.int cell),.fz (.int r),.ow ((ps.set iv.toNat ⟨p.c,p.t,!p.b⟩).map yH),.fz (.int iv),.fz (.int o),.fz (zE p.c),.fz (zC p.t),.fz (.bl p.b)])]
   · rfl
   · unfold sIf
     rw[ht1,Option.bind_some,decide_eq_true hb,if_pos rfl]
     exact sit _ _ ⟨p.c,p.t,!p.b⟩ (zPy rfl rfl rfl) rfl rfl
 · refine⟨_,okset t (decide (o / 200 % 2=1)) tm,?_⟩
   rw[yQ (ρ':=[.fz (.int n),.fz (.int cell),.fz (.int r),.ow ((ps.set iv.toNat ⟨p.c,t,decide (o / 200 % 2=1)⟩).map yH),.fz (.int iv),.fz (.int o),.fz (zE p.c),.fz (zC p.t),.fz (.bl p.b)])]
   · rfl
   · unfold sIf
     rw[ht1,Option.bind_some,decide_eq_false hb,if_neg (by decide)]
     exact sit _ _ ⟨p.c,t,decide (o / 200 % 2=1)⟩ (zPy rfl ((rC (yK rfl rfl rfl) rfl).trans te) (by unfold xJ;rw[qV (x:=o / 200 % 2) (yK (yK rfl rfl rfl) rfl rfl)];rfl)) rfl rfl
theorem zR3 {n:Nat}(hn:n=2∨n=3)(cell:Int):∃ps:List Pt,PtsOk n ps/\oI [.int n,.int cell]=some (ps.map yH):=by
 have e1:=eY cell 0 40692 (by decide) (by decide) (by decide) (by decide)
 generalize bI cell 0 40692=r at e1
 show ∃ps:List Pt,PtsOk n ps/\(nA [.fz (.int n),.fz (.int cell),.no]).bind zXF=some (ps.map yH)
 unfold nA
 rw[vF (d:=.int r) ((tQ rfl rfl rfl).trans e1)]
 dsimp only[List.set]
 unfold nM
 have t0:eB2 gEq (yG (eV 2) (eC (.int 4))) (eC (.int 0)) [.fz (.int n),.fz (.int cell),.fz (.int r)]=some (decide (r % 4=0)):=qV (yK rfl rfl rfl)
 have t1:eB2 gEq (yG (eV 2) (eC (.int 4))) (eC (.int 1)) [.fz (.int n),.fz (.int cell),.fz (.int r)]=some (decide (r % 4=1)):=qV (yK rfl rfl rfl)
 by_cases h0:r % 4=0
 · obtain⟨ps,ok,e⟩:=zRD hn cell
   refine⟨ps,ok,?_⟩
   rw[show zM (sIf _ (qL (wZ 2 rA (zZ (eV 0) (zZ (eV 1) zS)))) yU) rL _=some (.rl (ps.map yH)) from by
     unfold zM
     rw[show sIf _ _ _ _=some (Out.rl (ps.map yH)) from(wP t0).trans (by rw[decide_eq_true h0,if_pos rfl];unfold qL;rw[hU rfl rfl,e];rfl)]
     rfl]
   rfl
 · rw[yQ (ρ':=[.fz (.int n),.fz (.int cell),.fz (.int r)]) ((wP t0).trans (by rw[decide_eq_false h0];rfl))]
   unfold rL
   by_cases h1:r % 4=1
   · obtain⟨ps,ok,e⟩:=zYz hn (r / 4)
     refine⟨ps,ok,?_⟩
     rw[show zM (sIf _ (qL (wZ 2 wD (zZ (eV 0) (zZ (vV (eV 2) (eC (.int 4))) zS)))) yU) rP _=some (.rl (ps.map yH)) from by
       unfold zM
       rw[show sIf _ _ _ _=some (Out.rl (ps.map yH)) from(wP t1).trans (by rw[decide_eq_true h1,if_pos rfl];unfold qL;rw[hU rfl (yK (i:=r) (j:=4) rfl rfl rfl),e];rfl)]
       rfl]
     rfl
   · obtain⟨ps,ok,e⟩:=zVD hn cell
     refine⟨ps,ok,?_⟩
     rw[yQ (ρ':=[.fz (.int n),.fz (.int cell),.fz (.int r)]) ((wP t1).trans (by rw[decide_eq_false h1];rfl))]
     unfold rP qL
     rw[hU rfl rfl,e]
     rfl
end My
namespace My
open PySem L2
def zUl (c:List Int):Str:=⟨(c.map fun i=>if i=1 then 49 else 48).toArray⟩
def sJ (t:Tn):Str:=⟨(t.flatMap fun p=>[if p.2=1 then 45 else 43,if p.1=0 then 120 else if p.1=1 then 121 else 122]).toArray⟩
def wJ (p:Pt):List Str:="part"::zUl p.c::sJ p.t::(if p.b=true then ["back"] else [])
def wW (p:Pt):Str:=Str.join " " (wJ p)
def jG (c:List Int)(t:Tn):Str:=Str.join " " ["part",zUl c,sJ t]
def prs (n:Nat):List (List Int×Tn):=(zD n).flatMap fun c=>(z9 n).map fun t=>(c,t)
theorem oH {n:Nat}{c:List Int}{t:Tn}(hc:c∈zD n)(ht:t∈z9 n):(c,t)∈prs n:=List.mem_flatMap.mpr ⟨c,hc,List.mem_map.mpr ⟨t,ht,rfl⟩⟩
theorem kM {α β:Type}{f g:α->β}{l:List α}(h:l.map f=l.map g){x:α}(hx:x∈l):f x=g x:=List.map_inj_left.mp h x hx
def xH (k:Nat):List (List Int×Tn):=(((zD 3).drop (2*k)).take 2).flatMap fun c=>(z9 3).map fun t=>(c,t)
theorem zYL:prs 3=xH 0++xH 1++xH 2++xH 3:=by kernel_rfl
theorem zQl {β:Type}{f g:List Int×Tn->β}(h0:(xH 0).map f=(xH 0).map g)(h1:(xH 1).map f=(xH 1).map g)(h2:(xH 2).map f=(xH 2).map g)(h3:(xH 3).map f=(xH 3).map g):(prs 3).map f=(prs 3).map g:=by
 rw[zYL,List.map_append,List.map_append,List.map_append,List.map_append,List.map_append,List.map_append,h0,h1,h2,h3]
theorem zOA (x0 x1 x2 x3 x4 x6 x7 x8:B):(z9 2).map (fun t=>sQ (eC (.str "")) (yV (iT (eV 5)) 2 [] (gT (zN (gN 0) (zN (gN 1) yM))) tOK (yD (eIx (eC (.str "+-")) (eV 1)) (eIx (eC (.str "xyz")) (eV 0)))) [x0,x1,x2,x3,x4,.fz (zC t),x6,x7,x8])=(z9 2).map fun t=>some (.str (sJ t)):=by kernel_rfl
theorem zOU (x0 x1 x2 x3 x4 x6 x7 x8:B):(z9 3).map (fun t=>sQ (eC (.str "")) (yV (iT (eV 5)) 2 [] (gT (zN (gN 0) (zN (gN 1) yM))) tOK (yD (eIx (eC (.str "+-")) (eV 1)) (eIx (eC (.str "xyz")) (eV 0)))) [x0,x1,x2,x3,x4,.fz (zC t),x6,x7,x8])=(z9 3).map fun t=>some (.str (sJ t)):=by kernel_rfl
theorem zOt (x0 x1 x2 x3 x6 x8:B):(prs 2).map (fun q=>yD (yD (yD (eC (.str "part ")) (sQ (eC (.str "")) (yV (iT (eV 4)) 1 [] (gN 0) tOK (rZ (eV 0))))) (eC (.str " "))) (eV 7) [x0,x1,x2,x3,.fz (zE q.1),.fz (zC q.2),x6,.fz (.str (sJ q.2)),x8])=(prs 2).map fun q=>some (.str (jG q.1 q.2)):=by kernel_rfl
theorem zQG (x0 x1 x2 x3 x6 x8:B):(xH 0).map (fun q=>yD (yD (yD (eC (.str "part ")) (sQ (eC (.str "")) (yV (iT (eV 4)) 1 [] (gN 0) tOK (rZ (eV 0))))) (eC (.str " "))) (eV 7) [x0,x1,x2,x3,.fz (zE q.1),.fz (zC q.2),x6,.fz (.str (sJ q.2)),x8])=(xH 0).map (fun q=>some (.str (jG q.1 q.2))):=by kernel_rfl
theorem zQf (x0 x1 x2 x3 x6 x8:B):(xH 1).map (fun q=>yD (yD (yD (eC (.str "part ")) (sQ (eC (.str "")) (yV (iT (eV 4)) 1 [] (gN 0) tOK (rZ (eV 0))))) (eC (.str " "))) (eV 7) [x0,x1,x2,x3,.fz (zE q.1),.fz (zC q.2),x6,.fz (.str (sJ q.2)),x8])=(xH 1).map (fun q=>some (.str (jG q.1 q.2))):=by kernel_rfl
theorem zQo (x0 x1 x2 x3 x6 x8:B):(xH 2).map (fun q=>yD (yD (yD (eC (.str "part ")) (sQ (eC (.str "")) (yV (iT (eV 4)) 1 [] (gN 0) tOK (rZ (eV 0))))) (eC (.str " "))) (eV 7) [x0,x1,x2,x3,.fz (zE q.1),.fz (zC q.2),x6,.fz (.str (sJ q.2)),x8])=(xH 2).map (fun q=>some (.str (jG q.1 q.2))):=by kernel_rfl
theorem zQU (x0 x1 x2 x3 x6 x8:B):(xH 3).map (fun q=>yD (yD (yD (eC (.str "part ")) (sQ (eC (.str "")) (yV (iT (eV 4)) 1 [] (gN 0) tOK (rZ (eV 0))))) (eC (.str " "))) (eV 7) [x0,x1,x2,x3,.fz (zE q.1),.fz (zC q.2),x6,.fz (.str (sJ q.2)),x8])=(xH 3).map (fun q=>some (.str (jG q.1 q.2))):=by kernel_rfl
theorem zNK (x0 x1 x2 x3 x6 x8:B):(prs 3).map (fun q=>yD (yD (yD (eC (.str "part ")) (sQ (eC (.str "")) (yV (iT (eV 4)) 1 [] (gN 0) tOK (rZ (eV 0))))) (eC (.str " "))) (eV 7) [x0,x1,x2,x3,.fz (zE q.1),.fz (zC q.2),x6,.fz (.str (sJ q.2)),x8])=(prs 3).map (fun q=>some (.str (jG q.1 q.2))):=zQl (zQG x0 x1 x2 x3 x6 x8) (zQf x0 x1 x2 x3 x6 x8) (zQo x0 x1 x2 x3 x6 x8) (zQU x0 x1 x2 x3 x6 x8)
theorem zNL (r:Int)(b:Bool):b=true∨b=false->(prs 2).map (fun q=>y0 [.lst ((wJ ⟨q.1,q.2,b⟩).map .str),.int 2,.int r])=(prs 2).map fun q=>some (yN ⟨q.1,q.2,b⟩):=by
 rintro(rfl | rfl)<;>kernel_rfl
theorem zQD (r:Int):(xH 0).map (fun q=>y0 [.lst ((wJ ⟨q.1,q.2,true⟩).map .str),.int 3,.int r])=(xH 0).map (fun q=>some (yN ⟨q.1,q.2,true⟩)):=by kernel_rfl
theorem zQr (r:Int):(xH 1).map (fun q=>y0 [.lst ((wJ ⟨q.1,q.2,true⟩).map .str),.int 3,.int r])=(xH 1).map (fun q=>some (yN ⟨q.1,q.2,true⟩)):=by kernel_rfl
theorem zQn (r:Int):(xH 2).map (fun q=>y0 [.lst ((wJ ⟨q.1,q.2,true⟩).map .str),.int 3,.int r])=(xH 2).map (fun q=>some (yN ⟨q.1,q.2,true⟩)):=by kernel_rfl
theorem zRg (r:Int):(xH 3).map (fun q=>y0 [.lst ((wJ ⟨q.1,q.2,true⟩).map .str),.int 3,.int r])=(xH 3).map (fun q=>some (yN ⟨q.1,q.2,true⟩)):=by kernel_rfl
theorem zQh (r:Int):(xH 0).map (fun q=>y0 [.lst ((wJ ⟨q.1,q.2,false⟩).map .str),.int 3,.int r])=(xH 0).map (fun q=>some (yN ⟨q.1,q.2,false⟩)):=by kernel_rfl
theorem zPZ (r:Int):(xH 1).map (fun q=>y0 [.lst ((wJ ⟨q.1,q.2,false⟩).map .str),.int 3,.int r])=(xH 1).map (fun q=>some (yN ⟨q.1,q.2,false⟩)):=by kernel_rfl
theorem zQY (r:Int):(xH 2).map (fun q=>y0 [.lst ((wJ ⟨q.1,q.2,false⟩).map .str),.int 3,.int r])=(xH 2).map (fun q=>some (yN ⟨q.1,q.2,false⟩)):=by kernel_rfl
theorem zQd (r:Int):(xH 3).map (fun q=>y0 [.lst ((wJ ⟨q.1,q.2,false⟩).map .str),.int 3,.int r])=(xH 3).map (fun q=>some (yN ⟨q.1,q.2,false⟩)):=by kernel_rfl
theorem zNO (r:Int)(b:Bool):b=true∨b=false->(prs 3).map (fun q=>y0 [.lst ((wJ ⟨q.1,q.2,b⟩).map .str),.int 3,.int r])=(prs 3).map (fun q=>some (yN ⟨q.1,q.2,b⟩)):=by
 rintro(rfl | rfl)
 · exact zQl (zQD r) (zQr r) (zQn r) (zRg r)
 · exact zQl (zQh r) (zPZ r) (zQY r) (zQd r)
end My
namespace My
open PySem L2
theorem zP6 (x0 x1 x2 x3 x4 x5 x6 x7:B):(prs 2).map (fun q=>yD (eV 8) (eC (.str " back")) [x0,x1,x2,x3,x4,x5,x6,x7,.fz (.str (jG q.1 q.2))])=(prs 2).map fun q=>some (.str (wW ⟨q.1,q.2,true⟩)):=by kernel_rfl
theorem zSM (x0 x1 x2 x3 x4 x5 x6 x7:B):(xH 0).map (fun q=>yD (eV 8) (eC (.str " back")) [x0,x1,x2,x3,x4,x5,x6,x7,.fz (.str (jG q.1 q.2))])=(xH 0).map (fun q=>some (.str (wW ⟨q.1,q.2,true⟩))):=by kernel_rfl
theorem zR4 (x0 x1 x2 x3 x4 x5 x6 x7:B):(xH 1).map (fun q=>yD (eV 8) (eC (.str " back")) [x0,x1,x2,x3,x4,x5,x6,x7,.fz (.str (jG q.1 q.2))])=(xH 1).map (fun q=>some (.str (wW ⟨q.1,q.2,true⟩))):=by kernel_rfl
theorem zSg (x0 x1 x2 x3 x4 x5 x6 x7:B):(xH 2).map (fun q=>yD (eV 8) (eC (.str " back")) [x0,x1,x2,x3,x4,x5,x6,x7,.fz (.str (jG q.1 q.2))])=(xH 2).map (fun q=>some (.str (wW ⟨q.1,q.2,true⟩))):=by kernel_rfl
theorem zR9 (x0 x1 x2 x3 x4 x5 x6 x7:B):(xH 3).map (fun q=>yD (eV 8) (eC (.str " back")) [x0,x1,x2,x3,x4,x5,x6,x7,.fz (.str (jG q.1 q.2))])=(xH 3).map (fun q=>some (.str (wW ⟨q.1,q.2,true⟩))):=by kernel_rfl
theorem zPo (x0 x1 x2 x3 x4 x5 x6 x7:B):(prs 3).map (fun q=>yD (eV 8) (eC (.str " back")) [x0,x1,x2,x3,x4,x5,x6,x7,.fz (.str (jG q.1 q.2))])=(prs 3).map (fun q=>some (.str (wW ⟨q.1,q.2,true⟩))):=zQl (zSM x0 x1 x2 x3 x4 x5 x6 x7) (zR4 x0 x1 x2 x3 x4 x5 x6 x7) (zSg x0 x1 x2 x3 x4 x5 x6 x7) (zR9 x0 x1 x2 x3 x4 x5 x6 x7)
theorem zNH (c:List Int)(t:Tn):wW ⟨c,t,false⟩=jG c t:=by unfold wW jG wJ;rfl
section
variable {n:Nat} (hn:n=2∨n=3)
include hn
theorem zT9 (p:Pt)(hc:p.c∈zD n)(ht:p.t∈z9 n)(x0 x1 x2 x7 x8:B)(rows:List D)(hl:rows.length<=1000) :
   vX [x0,x1,x2,.ow rows,.fz (zE p.c),.fz (zC p.t),.fz (.bl p.b),x7,x8]=some (.nx [x0,x1,x2,.ow (rows++[.str (wW p)]),.fz (zE p.c),.fz (zC p.t),.fz (.bl p.b),.fz (.str (sJ p.t)),.fz (.str (wW p))]):=by
 obtain⟨c,t,b⟩:=p
 have hA:sQ (eC (.str "")) (yV (iT (eV 5)) 2 [] (gT (zN (gN 0) (zN (gN 1) yM))) tOK (yD (eIx (eC (.str "+-")) (eV 1)) (eIx (eC (.str "xyz")) (eV 0)))) [x0,x1,x2,.ow rows,.fz (zE c),.fz (zC t),.fz (.bl b),x7,x8]=some (.str (sJ t)):=by
   rcases hn with rfl | rfl
   · have h:=kM (zOA x0 x1 x2 (.ow rows) (.fz (zE c)) (.fz (.bl b)) x7 x8) ht;exact h
   · have h:=kM (zOU x0 x1 x2 (.ow rows) (.fz (zE c)) (.fz (.bl b)) x7 x8) ht;exact h
 have hB:yD (yD (yD (eC (.str "part ")) (sQ (eC (.str "")) (yV (iT (eV 4)) 1 [] (gN 0) tOK (rZ (eV 0))))) (eC (.str " "))) (eV 7) [x0,x1,x2,.ow rows,.fz (zE c),.fz (zC t),.fz (.bl b),.fz (.str (sJ t)),x8]=some (.str (jG c t)):=by
   rcases hn with rfl | rfl
   · have h:=kM (zOt x0 x1 x2 (.ow rows) (.fz (.bl b)) x8) (oH hc ht);exact h
   · have h:=kM (zNK x0 x1 x2 (.ow rows) (.fz (.bl b)) x8) (oH hc ht);exact h
 have hC:yD (eV 8) (eC (.str " back")) [x0,x1,x2,.ow rows,.fz (zE c),.fz (zC t),.fz (.bl b),.fz (.str (sJ t)),.fz (.str (jG c t))]=some (.str (wW ⟨c,t,true⟩)):=by
   rcases hn with rfl | rfl
   · have h:=kM (zP6 x0 x1 x2 (.ow rows) (.fz (zE c)) (.fz (zC t)) (.fz (.bl b)) (.fz (.str (sJ t)))) (oH hc ht);exact h
   · have h:=kM (zPo x0 x1 x2 (.ow rows) (.fz (zE c)) (.fz (zC t)) (.fz (.bl b)) (.fz (.str (sJ t)))) (oH hc ht);exact h
 unfold vX
 rw[vF hA]
 dsimp only[List.set]
 unfold nQ
 rw[vF hB]
 dsimp only[List.set]
 unfold mZ
 rw[yQ (ρ':=[x0,x1,x2,.ow rows,.fz (zE c),.fz (zC t),.fz (.bl b),.fz (.str (sJ t)),.fz (.str (wW ⟨c,t,b⟩))])]
 · unfold mV
   rw[zXx (d:=.str (wW ⟨c,t,b⟩)) (ds:=rows) rfl rfl hl]
   rfl
 · cases b with
   | false =>
     rw[wP (b:=false) rfl,if_neg Bool.false_ne_true,zNH]
   | true =>
     rw[wP (b:=true) rfl,if_pos rfl]
     unfold zK
     rw[hC]
     rfl
theorem zYC (x0 x1 x2:B):∀(ps:List Pt) (x4 x5 x6 x7 x8:B) (rows:List D),(∀p∈ps,p.c∈zD n/\p.t∈z9 n)->rows.length+ps.length<=1000 ->
   ∃y4 y5 y6 y7 y8,rB (gT (zN (gN 4) (zN (gN 5) (zN (gN 6) yM)))) vX (ps.map yH) [x0,x1,x2,.ow rows,x4,x5,x6,x7,x8]=some (.nx [x0,x1,x2,.ow (rows++ps.map fun p=>.str (wW p)),y4,y5,y6,y7,y8])
 | [],x4,x5,x6,x7,x8,rows,_,_=>⟨x4,x5,x6,x7,x8,by rw[List.map_nil,List.map_nil,List.append_nil,rB]⟩
 | p::r,x4,x5,x6,x7,x8,rows,h,hl=>by
   have hp:=h p List.mem_cons_self
   rw[List.length_cons] at hl
   obtain⟨y4,y5,y6,y7,y8,e⟩:=zYC x0 x1 x2 r (.fz (zE p.c)) (.fz (zC p.t)) (.fz (.bl p.b)) (.fz (.str (sJ p.t))) (.fz (.str (wW p))) (rows++[.str (wW p)]) (fun q hq=>h q (List.mem_cons_of_mem _ hq)) (by rw[List.length_append,List.length_singleton];omega)
   refine⟨y4,y5,y6,y7,y8,?_⟩
   rw[List.map_cons,rN (ρ1:=[x0,x1,x2,.ow rows,.fz (zE p.c),.fz (zC p.t),.fz (.bl p.b),x7,x8]) rfl (zT9 hn p hp.1 hp.2 x0 x1 x2 x7 x8 rows (by omega)),e,List.append_assoc,List.singleton_append,List.map_cons]
end
end My
namespace My
open PySem L2
theorem zPQ:(" ":Str)=⟨#[32]⟩:=by decide +kernel
theorem zPU:("\n":Str)=⟨#[10]⟩:=by decide +kernel
def vU (p:Pt):Bool:=decide ((wW p).length<=30) && !(wW p).cps.toList.contains 10&&(wJ p).all fun w => !w.cps.toList.contains 32
theorem zN6:((prs 2).all fun q=>vU ⟨q.1,q.2,true⟩&&vU ⟨q.1,q.2,false⟩)=true:=by kernel_rfl
theorem zO5:((xH 0).all fun q=>vU ⟨q.1,q.2,true⟩)=true:=by kernel_rfl
theorem zPp:((xH 1).all fun q=>vU ⟨q.1,q.2,true⟩)=true:=by kernel_rfl
theorem zPn:((xH 2).all fun q=>vU ⟨q.1,q.2,true⟩)=true:=by kernel_rfl
theorem zPk:((xH 3).all fun q=>vU ⟨q.1,q.2,true⟩)=true:=by kernel_rfl
theorem zPf:((xH 0).all fun q=>vU ⟨q.1,q.2,false⟩)=true:=by kernel_rfl
theorem zOE:((xH 1).all fun q=>vU ⟨q.1,q.2,false⟩)=true:=by kernel_rfl
theorem zPu:((xH 2).all fun q=>vU ⟨q.1,q.2,false⟩)=true:=by kernel_rfl
theorem zOV:((xH 3).all fun q=>vU ⟨q.1,q.2,false⟩)=true:=by kernel_rfl
theorem zNm:((prs 3).all fun q=>vU ⟨q.1,q.2,true⟩&&vU ⟨q.1,q.2,false⟩)=true:=by
 refine List.all_eq_true.mpr fun q hq=>?_
 rw[zYL,List.mem_append,List.mem_append,List.mem_append] at hq
 rw[Bool.and_eq_true_iff]
 rcases hq with((hq | hq) | hq) | hq
 · exact⟨List.all_eq_true.mp zO5 q hq,List.all_eq_true.mp zPf q hq⟩
 · exact⟨List.all_eq_true.mp zPp q hq,List.all_eq_true.mp zOE q hq⟩
 · exact⟨List.all_eq_true.mp zPn q hq,List.all_eq_true.mp zPu q hq⟩
 · exact⟨List.all_eq_true.mp zPk q hq,List.all_eq_true.mp zOV q hq⟩
section
variable {n:Nat} (hn:n=2∨n=3)
include hn
theorem zXE (p:Pt)(hc:p.c∈zD n)(ht:p.t∈z9 n):vU p=true:=by
 obtain⟨c,t,b⟩:=p
 have h:(vU ⟨c,t,true⟩&&vU ⟨c,t,false⟩)=true:=by
   rcases hn with rfl | rfl
   · have h:=List.all_eq_true.mp zN6 _ (oH hc ht);exact h
   · have h:=List.all_eq_true.mp zNm _ (oH hc ht);exact h
 have h:=Bool.and_eq_true_iff.mp h
 cases b with
 | true=>exact h.1
 | false=>exact h.2
theorem zUD (p:Pt)(hc:p.c∈zD n)(ht:p.t∈z9 n):(wW p).length<=30:=by
 have h:=zXE hn p hc ht
 unfold vU at h
 rw[Bool.and_eq_true_iff,Bool.and_eq_true_iff] at h
 exact of_decide_eq_true h.1.1
theorem zSA (p:Pt)(hc:p.c∈zD n)(ht:p.t∈z9 n):jU 10 (wW p):=by
 have h:=zXE hn p hc ht
 unfold vU at h
 rw[Bool.and_eq_true_iff,Bool.and_eq_true_iff] at h
 have h:=h.1.2
 intro z
 rw[List.contains_iff_mem.mpr z] at h
 exact absurd h (by decide)
theorem zTG (p:Pt)(hc:p.c∈zD n)(ht:p.t∈z9 n):hV (.str (wW p)) (.str " ")=some ((wJ p).map .str):=by
 have h:=zXE hn p hc ht
 unfold vU at h
 rw[Bool.and_eq_true_iff,Bool.and_eq_true_iff] at h
 have hw:∀w∈wJ p,jU 32 w:=fun w hw z=>by
   have q:=List.all_eq_true.mp h.2 w hw
   rw[List.contains_iff_mem.mpr z] at q
   exact absurd q (by decide)
 have e:Txt.split (wW p) ⟨#[32]⟩=wJ p:=by
   unfold wW
   rw[zPQ]
   exact zZH 32 (wJ p) hw (by unfold wJ;exact List.cons_ne_nil _ _)
 have hl:=of_decide_eq_true h.1.1
 rw[zPQ]
 show(if 1<=(⟨#[32]⟩:Str).length/\(wW p).length<=100000 then some ((Txt.split (wW p) ⟨#[32]⟩).map D.str) else none)=_
 rw[if_pos ⟨Nat.le_refl 1,by omega⟩,e]
end
theorem zVT (R:List Str)(i:Nat)(z:Str)(ws:List D)(hz:R[i]?=some z)(hs:hV (.str z) (.str " ")=some ws):wF [.lst (R.map .str),.int ((i:Int)+1)]=some ws:=by
 have hi:i < R.length:=by
   rcases Nat.lt_or_ge i R.length with h | h
   · exact h
   · rw[List.getElem?_eq_none h] at hz;cases hz
 show(lK [.fz (.lst (R.map .str)),.fz (.int ((i:Int)+1))]).bind zXF=some ws
 unfold lK
 have t:eB2 gGt (eV 1) (xP (eV 0)) [.fz (.lst (R.map .str)),.fz (.int ((i:Int)+1))]=some (decide ((((R.map D.str).length:Nat):Int) < (i:Int)+1)):=rfl
 rw[yQ (ρ':=[.fz (.lst (R.map .str)),.fz (.int ((i:Int)+1))]) ((wP t).trans (by rw[List.length_map,decide_eq_false (by omega)];rfl))]
 unfold mG qL iB
 have e1:mU (eV 1) (eC (.int 1)) [.fz (.lst (R.map .str)),.fz (.int ((i:Int)+1))]=some (.int (i:Int)):=by
   refine(yK (i:=(i:Int)+1) (j:=1) rfl rfl rfl).trans ?_
   show some (D.int ((i:Int)+1 - 1))=_
   rw[show(i:Int)+1 - 1=i from by omega]
 have e2:eIx (eV 0) (mU (eV 1) (eC (.int 1))) [.fz (.lst (R.map .str)),.fz (.int ((i:Int)+1))]=some (.str z):=by
   unfold eIx
   rw[e1]
   show atI (R.map D.str) (i:Int)=_
   unfold atI
   rw[List.length_map]
   have:ixN R.length (i:Int)=some i:=by unfold ixN;rw[if_pos (by omega),if_pos (by omega)];rfl
   rw[this]
   show(R.map D.str)[i]?=_
   rw[List.getElem?_map,hz];rfl
 rw[e2]
 show(((hV (.str z) (.str " "))).map Out.rl).bind zXF=_
 rw[hs]
 rfl
end My
namespace My
open PySem L2
def kC (xs:List Int):KT:=.tup (xs.map .int)
theorem zYK (n:Nat):∀xs:List Int,zVf (ktD n) (xs.map .int)=some (xs.map .int)
 | []=>rfl
 | x::r=>by
   have e:ktD n (.int x)=some (.int x):=by cases n<;>rfl
   rw[List.map_cons,zVf,e,zYK n r]
   rfl
theorem zS2 (xs:List Int):zQs (zE xs)=some (kC xs):=by
 show(zVf (ktD 7) (xs.map .int)).map KT.tup=_
 rw[zYK]
 rfl
theorem zN2 (xs:List Int):ktD 8 (zE xs)=some (kC xs):=zS2 xs
theorem zPr {xs ys:List Int}(h:kC xs=kC ys):xs=ys:=by
 unfold kC at h
 injection h with h
 exact(List.map_inj_right (fun a b e=>by injection e)).mp h
def wC (ps:List Pt):List (D×D):=ps.map fun p=>(zE p.c,.bl true)
theorem zTK (ps:List Pt):(wC ps).map (fun p=>ktD 8 p.1)=ps.map fun p=>some (kC p.c):=by
 unfold wC
 rw[List.map_map]
 exact List.map_congr_left fun p _=>zN2 p.c
theorem zWC {ps:List Pt}{c:List Int}(h:c∉ps.map (·.c)):some (kC c)∉(wC ps).map fun p=>ktD 8 p.1:=by
 rw[zTK]
 intro z
 obtain⟨p,hp,e⟩:=List.mem_map.mp z
 exact h (List.mem_map.mpr ⟨p,hp,zPr (Option.some.inj e)⟩)
section
variable {n:Nat} (hn:n=2∨n=3)
include hn
theorem zQI (p:Pt)(hc:p.c∈zD n)(ht:p.t∈z9 n)(r:Int):y0 [.lst ((wJ p).map .str),.int n,.int r]=some (yN p):=by
 obtain⟨c,t,b⟩:=p
 have hb:b=true∨b=false:=by cases b<;>simp
 rcases hn with rfl | rfl
 · have h:=kM (zNL r b hb) (oH hc ht);exact h
 · have h:=kM (zNO r b hb) (oH hc ht);exact h
theorem zTD (R:List Str)(i:Nat)(p:Pt)(hc:p.c∈zD n)(ht:p.t∈z9 n)(hz:R[i]?=some (wW p))(acc:List Pt)(ha:acc.length<=100)(hnew:p.c∉acc.map (·.c))(a b:D)(x7:B) :
   w9 [.fz (.lst (R.map .str)),.fz a,.fz b,.fz (.int n),.ow (acc.map yN),.od (wC acc),.fz (.int ((i:Int)+1)),x7] =
     some (.nx [.fz (.lst (R.map .str)),.fz a,.fz b,.fz (.int n),.ow ((acc++[p]).map yN),.od (wC (acc++[p])),.fz (.int ((i:Int)+1)),.fz (yN p)]):=by
 have hw:=zVT R i _ _ hz (zTG hn p hc ht)
 have h1:zO 3 y0 (zZ (eL (wZ 2 wF (zZ (eV 0) (zZ (eV 6) zS)))) (zZ (eV 3) (zZ (eV 6) zS))) [.fz (.lst (R.map .str)),.fz a,.fz b,.fz (.int n),.ow (acc.map yN),.od (wC acc),.fz (.int ((i:Int)+1)),x7]=some (yN p):=by
   refine(tQ (x:=.lst ((wJ p).map .str)) (y:=.int n) (z:=.int ((i:Int)+1)) ?_ rfl rfl).trans (zQI hn p hc ht _)
   unfold eL
   rw[hU rfl rfl,hw]
   rfl
 have hf:∀ρ:List B,eV 7 ρ=some (yN p)->xY "Part" "corner" (eV 7) ρ=some (zE p.c):=fun ρ h=>zZF ρ (eV 7) p h
 unfold w9
 rw[vF h1]
 dsimp only[List.set]
 unfold qW
 have t:zWV 5 (xY "Part" "corner" (eV 7)) [.fz (.lst (R.map .str)),.fz a,.fz b,.fz (.int n),.ow (acc.map yN),.od (wC acc),.fz (.int ((i:Int)+1)),.fz (yN p)]=some false:=by
   unfold zWV
   rw[hf _ rfl,Option.bind_some,zS2,Option.bind_some]
   show some (decide (some (kC p.c)∈(wC acc).map fun p=>ktD 8 p.1))=_
   rw[decide_eq_false (zWC hnew)]
 rw[yQ (ρ':=[.fz (.lst (R.map .str)),.fz a,.fz b,.fz (.int n),.ow (acc.map yN),.od (wC acc),.fz (.int ((i:Int)+1)),.fz (yN p)]) ((wP t).trans rfl)]
 unfold qP
 rw[yQ (ρ':=[.fz (.lst (R.map .str)),.fz a,.fz b,.fz (.int n),.ow (acc.map yN),.od (wC (acc++[p])),.fz (.int ((i:Int)+1)),.fz (yN p)])]
 · unfold qQ
   rw[zXx (d:=yN p) (ds:=acc.map yN) rfl rfl (by rw[List.length_map];omega)]
   rw[List.map_append,List.map_cons,List.map_nil]
   rfl
 · unfold aJ
   rw[show eC (.bl true) _=some (D.bl true) from rfl,Option.bind_some,hf _ rfl,Option.bind_some,zS2,Option.bind_some]
   show(if (wC acc).length<=lim/\_ then _ else none)=_
   rw[if_pos]
   · unfold wC
     rw[List.map_append]
     rfl
   · refine⟨?_,?_,?_⟩
     · unfold wC;rw[List.length_map];show acc.length<=100000;omega
     · rfl
     · exact zWC hnew
theorem zZg (R:List Str)(a b:D):∀(r acc:List Pt) (k:Nat) (x6 x7:B),(∀(i:Nat) (p:Pt),r[i]?=some p->R[k+i]?=some (wW p))->(∀p∈r,p.c∈zD n/\p.t∈z9 n)->((acc++r).map (·.c)).Nodup->acc.length+r.length<=100 ->
   ∃y6 y7,rB (gN 6) w9 ((List.range r.length).map fun(i:Nat)=>D.int (((k+i:Nat):Int)+1)) [.fz (.lst (R.map .str)),.fz a,.fz b,.fz (.int n),.ow (acc.map yN),.od (wC acc),x6,x7] =
     some (.nx [.fz (.lst (R.map .str)),.fz a,.fz b,.fz (.int n),.ow ((acc++r).map yN),.od (wC (acc++r)),y6,y7])
 | [],acc,k,x6,x7,_,_,_,_=>⟨x6,x7,by rw[List.length_nil,List.range_zero,List.map_nil,List.append_nil,rB]⟩
 | p::r,acc,k,x6,x7,hR,ok,nd,hl=>by
   rw[List.length_cons] at hl
   have hp:=ok p List.mem_cons_self
   have hnew:p.c∉acc.map (·.c):=by
     rw[List.map_append,List.map_cons] at nd
     intro z
     exact(List.nodup_append.mp nd).2.2 _ z _ List.mem_cons_self rfl
   have s:=zTD hn R k p hp.1 hp.2 (by have h:=hR 0 p rfl;exact h) acc (by omega) hnew a b x7
   obtain⟨y6,y7,e⟩:=zZg R a b r (acc++[p]) (k+1) (.fz (.int ((k:Int)+1))) (.fz (yN p)) (fun i q hq=>by have h:=hR (i+1) q hq;rw[show k+1+i=k+(i+1) from by omega];exact h) (fun q hq=>ok q (List.mem_cons_of_mem _ hq)) (by rw[List.append_assoc,List.singleton_append];exact nd) (by rw[List.length_append,List.length_singleton];omega)
   refine⟨y6,y7,?_⟩
   rw[List.length_cons,List.range_succ_eq_map,List.map_cons,List.map_map]
   rw[rN (ρ1:=[.fz (.lst (R.map .str)),.fz a,.fz b,.fz (.int n),.ow (acc.map yN),.od (wC acc),.fz (.int ((k:Int)+1)),x7]) rfl s]
   rw[List.append_assoc,List.singleton_append] at e
   rw[←e]
   congr 1
   refine List.map_congr_left fun i _=>?_
   show D.int (((k+(i+1):Nat):Int)+1)=D.int (((k+1+i:Nat):Int)+1)
   rw[show k+1+i=k+(i+1) from by omega]
end
end My
namespace My
open PySem L2
def zXh (n:Nat)(j:Bool):List Str:=["curve","fold",if j=true then "joined" else "loose",if n=2 then "2" else "3"]
def vH (n:Nat)(j:Bool):Str:=Str.join " " (zXh n j)
theorem zV6 {n:Nat}(hn:n=2∨n=3)(j:Bool):hV (.str (vH n j)) (.str " ")=some ((zXh n j).map .str):=by
 rcases hn with rfl | rfl<;>cases j<;>kernel_rfl
theorem zUa {n:Nat}(hn:n=2∨n=3)(j:Bool):rE [.lst ((zXh n j).map .str)]=some (.tup [.str "fold",.bl j,.int n]):=by
 rcases hn with rfl | rfl<;>cases j<;>kernel_rfl
theorem zR8 {n:Nat}(hn:n=2∨n=3):rR [.int n,.int 1]=some (.int (2^n)):=by
 rcases hn with rfl | rfl<;>kernel_rfl
section
variable {n:Nat} (hn:n=2∨n=3) {ps:List Pt} (ok:PtsOk n ps)
include hn ok
theorem zQ4 (R:List Str)(j:Bool)(h0:R[0]?=some (vH n j))(hR:∀(i:Nat) (p:Pt),ps[i]?=some p->R[1+i]?=some (wW p)):qE [.lst (R.map .str)]=some (yL n j ps):=by
 have hw:=zVT R 0 _ _ h0 (zV6 hn j)
 have hlen:=ok.len
 have hcs:∀p∈ps,p.c∈zD n/\p.t∈z9 n:=fun p hp=>⟨ok.perm.mem_iff.mp (List.mem_map.mpr ⟨p,hp,rfl⟩),ok.turn p hp⟩
 have hnd:((([]:List Pt)++ps).map (·.c)).Nodup:=by rw[List.nil_append];exact ok.perm.nodup_iff.mpr (kB hn)
 have hs:=ok.small hn
 obtain⟨y6,y7,e⟩:=zZg hn R (.str "fold") (.bl j) ps [] 1 .no .no hR hcs hnd (by simp;omega)
 show(pA [.fz (.lst (R.map .str)),.no,.no,.no,.no,.no,.no,.no]).bind xC=_
 unfold pA
 rw[yQ (ρ':=[.fz (.lst (R.map .str)),.fz (.str "fold"),.fz (.bl j),.fz (.int n),.no,.no,.no,.no]) (by
   unfold tJ
   rw[show zO 1 rE (zZ (eL (wZ 2 wF (zZ (eV 0) (zZ (eC (.int 1)) zS)))) zS) [.fz (.lst (R.map .str)),.no,.no,.no,.no,.no,.no,.no]=some (.tup [.str "fold",.bl j,.int n]) from by
     refine(fP (x:=.lst ((zXh n j).map .str)) ?_).trans (zUa hn j)
     unfold eL
     rw[hU (x:=.lst (R.map .str)) (y:=.int 1) rfl rfl,show wF [.lst (R.map .str),.int 1]=some ((zXh n j).map .str) from hw]
     rfl]
   rfl)]
 unfold pL
 rw[yQ (ρ':=[.fz (.lst (R.map .str)),.fz (.str "fold"),.fz (.bl j),.fz (.int n),.ow [],.no,.no,.no]) rfl]
 unfold pX
 rw[yQ (ρ':=[.fz (.lst (R.map .str)),.fz (.str "fold"),.fz (.bl j),.fz (.int n),.ow [],.od [],.no,.no]) rfl]
 unfold pF
 rw[yQ (ρ':=[.fz (.lst (R.map .str)),.fz (.str "fold"),.fz (.bl j),.fz (.int n),.ow (ps.map yN),.od (wC ps),y6,y7])]
 · have ea:=yA (f:=eV 1) (ρ:=[.fz (.lst (R.map .str)),.fz (.str "fold"),.fz (.bl j),.fz (.int n),.fz (.lst (ps.map yN)),.od (wC ps),y6,y7]) (d:=.str "fold") rfl (yA (f:=eV 3) (d:=.int n) rfl (yA (f:=eV 2) (d:=.bl j) rfl (yA (f:=eV 4) (d:=.lst (ps.map yN)) (g:=zS) (ds:=[]) rfl rfl)))
   have em:=zSE (c:="Curve") (ns:=["name","dims","joined","parts"]) (n:=4) (f:=gK) (xs:=[.str "fold",.int n,.bl j,.lst (ps.map yN)]) ea rfl rfl rfl
   have q:=zYj ((bR "Curve" ["name","dims","joined","parts"] 4 gK (zZ (eV 1) (zZ (eV 3) (zZ (eV 2) (zZ (eV 4) zS))))) [.fz (.lst (R.map .str)),.fz (.str "fold"),.fz (.bl j),.fz (.int n),.fz (.lst (ps.map yN)),.od (wC ps),y6,y7])
   exact q.trans em
 · unfold wX
   rw[show iR2 (eC (.int 2)) (vT (eC (.int 2)) (zO 2 rR (zZ (eV 3) (zZ (eC (.int 1)) zS)))) [.fz (.lst (R.map .str)),.fz (.str "fold"),.fz (.bl j),.fz (.int n),.ow [],.od [],.no,.no]=some ((List.range ps.length).map fun(i:Nat)=>D.int (((1+i:Nat):Int)+1)) from by
     unfold iR2
     rw[show eC (.int 2) [.fz (.lst (R.map .str)),.fz (.str "fold"),.fz (.bl j),.fz (.int n),.ow [],.od [],.no,.no]=some (D.int 2) from rfl,Option.bind_some,show vT (eC (.int 2)) (zO 2 rR (zZ (eV 3) (zZ (eC (.int 1)) zS))) [.fz (.lst (R.map .str)),.fz (.str "fold"),.fz (.bl j),.fz (.int n),.ow [],.od [],.no,.no]=some (D.int (2+2^n)) from yK (i:=2) (j:=2^n) rfl ((rC rfl rfl).trans (zR8 hn)) rfl,Option.bind_some]
     rw[hlen]
     rcases hn with rfl | rfl<;>rfl]
   exact e
theorem zYa:aN [yL n false ps]=some (yL n false ps):=rfl
theorem of_eq (T:Str)(hT:T=Str.join "\n" (vH n false::ps.map wW)):lF [.str T]=some (yL n false ps):=by
 have hs:=ok.small hn
 have hcs:∀p∈ps,p.c∈zD n/\p.t∈z9 n:=fun p hp=>⟨ok.perm.mem_iff.mp (List.mem_map.mpr ⟨p,hp,rfl⟩),ok.turn p hp⟩
 have hfree:∀y∈vH n false::ps.map wW,jU 10 y:=fun y hy=>by
   rcases List.mem_cons.mp hy with rfl | hy
   · rcases hn with rfl | rfl<;>(unfold L2.jU;decide +kernel)
   · obtain⟨p,hp,rfl⟩:=List.mem_map.mp hy
     exact zSA hn p (hcs p hp).1 (hcs p hp).2
 have hlen:T.length<=100000:=by
   rw[hT]
   refine Nat.le_trans (StrLaws.join_length_le _ _) ?_
   have h1:(vH n false).length<=30:=by rcases hn with rfl | rfl<;>decide +kernel
   have h2:∀l:List Pt,(∀p∈l,p∈ps)->((l.map wW).map (·.length)).sum<=30*l.length:=by
     intro l
     induction l with
     | nil=>intro _;exact Nat.le_refl _
     | cons p r ih =>
       intro h
       have h3:=zUD hn p (hcs p (h p List.mem_cons_self)).1 (hcs p (h p List.mem_cons_self)).2
       have h4:=ih fun q hq=>h q (List.mem_cons_of_mem _ hq)
       rw[List.map_cons,List.map_cons,List.sum_cons,List.length_cons]
       omega
   have h5:=h2 ps fun _ h=>h
   have h6:("\n":Str).length=1:=by decide +kernel
   rw[List.map_cons,List.sum_cons,List.length_cons,List.length_map,h6]
   omega
 have hsp:hV (.str T) (.str "\n")=some ((vH n false::ps.map wW).map .str):=by
   rw[zPU]
   show(if 1<=(⟨#[10]⟩:Str).length/\T.length<=100000 then some ((Txt.split T ⟨#[10]⟩).map D.str) else none)=_
   rw[if_pos ⟨Nat.le_refl 1,hlen⟩,hT,zPU,zZH 10 _ hfree (List.cons_ne_nil _ _)]
 have hfrom:=zQ4 hn ok (vH n false::ps.map wW) false rfl (fun i p hp=>by rw[show 1+i=i+1 from by omega,List.getElem?_cons_succ,List.getElem?_map,hp];rfl)
 show(lU [.fz (.str T),.no,.no,.no]).bind xC=_
 unfold lU
 rw[vF (d:=.lst ((vH n false::ps.map wW).map .str)) (by
   unfold eL iB
   rw[show eV 0 [.fz (.str T),.no,.no,.no]=some (D.str T) from rfl,Option.bind_some,show eC (.str "\n") [.fz (.str T),.no,.no,.no]=some (D.str "\n") from rfl,Option.bind_some,hsp]
   rfl)]
 dsimp only[List.set]
 unfold lX
 rw[vF ((fP rfl).trans hfrom)]
 dsimp only[List.set]
 unfold lO
 rw[vF (d:=.int (1+(ps.length:Nat))) (by
   refine(yK (i:=1) (j:=(ps.length:Nat)) rfl ?_ rfl)
   unfold xP
   rw[gC _ (eV 2) (n:=n) (j:=false) (ps:=ps) rfl]
   show some (D.int ((ps.map yN).length:Nat))=_
   rw[List.length_map])]
 dsimp only[List.set]
 unfold lN
 have t:eB2 gGt (xP (eV 1)) (eV 3) [.fz (.str T),.fz (.lst ((vH n false::ps.map wW).map .str)),.fz (yL n false ps),.fz (.int (1+(ps.length:Nat)))]=some (decide ((1+(ps.length:Nat):Int) < (((vH n false::ps.map wW).map D.str).length:Nat))):=rfl
 rw[yQ (ρ':=[.fz (.str T),.fz (.lst ((vH n false::ps.map wW).map .str)),.fz (yL n false ps),.fz (.int (1+(ps.length:Nat)))]) ((wP t).trans (by rw[List.length_map,List.length_cons,List.length_map,decide_eq_false (by omega)];rfl))]
 unfold mF
 exact(zYj _).trans ((fP rfl).trans (zYa hn ok))
end
end My
namespace My
open PySem L2
theorem zXc:∀ys:List Str,zZe (ys.map D.str)=some ys
 | []=>rfl
 | y::r=>by rw[List.map_cons,zZe,zXc r];rfl
section
variable {n:Nat} (hn:n=2∨n=3) {ps:List Pt} (ok:PtsOk n ps)
include hn ok
theorem zQZ:lR [.int n,.bl false,.lst (ps.map yH)]=some (.str (Str.join "\n" (vH n false::ps.map wW))):=by
 have hs:=ok.small hn
 have hcs:∀p∈ps,p.c∈zD n/\p.t∈z9 n:=fun p hp=>⟨ok.perm.mem_iff.mp (List.mem_map.mpr ⟨p,hp,rfl⟩),ok.turn p hp⟩
 obtain⟨y4,y5,y6,y7,y8,e⟩:=zYC hn (.fz (.int n)) (.fz (.bl false)) (.fz (.lst (ps.map yH))) ps .no .no .no .no .no [.str (vH n false)] hcs (by rw[List.length_singleton];omega)
 have h1:(vH n false).length<=30:=by rcases hn with rfl | rfl<;>decide +kernel
 have h2:∀l:List Pt,(∀p∈l,p∈ps)->((l.map wW).map (·.length)).sum<=30*l.length:=by
   intro l
   induction l with
   | nil=>intro _;exact Nat.le_refl _
   | cons p r ih =>
     intro h
     have h3:=zUD hn p (hcs p (h p List.mem_cons_self)).1 (hcs p (h p List.mem_cons_self)).2
     have h4:=ih fun q hq=>h q (List.mem_cons_of_mem _ hq)
     rw[List.map_cons,List.map_cons,List.sum_cons,List.length_cons]
     omega
 have h5:=h2 ps fun _ h=>h
 have h6:("\n":Str).length=1:=by decide +kernel
 show(mB [.fz (.int n),.fz (.bl false),.fz (.lst (ps.map yH)),.no,.no,.no,.no,.no,.no]).bind xC=_
 unfold mB
 rw[yQ (ρ':=[.fz (.int n),.fz (.bl false),.fz (.lst (ps.map yH)),.ow [.str (vH n false)],.no,.no,.no,.no,.no]) (by
   generalize B.fz (.lst (ps.map yH))=x2
   rcases hn with rfl | rfl<;>kernel_rfl)]
 unfold lH
 have e':wX (iL (eV 2)) (gT (zN (gN 4) (zN (gN 5) (zN (gN 6) yM)))) vX [.fz (.int n),.fz (.bl false),.fz (.lst (ps.map yH)),.ow [.str (vH n false)],.no,.no,.no,.no,.no]=some (.nx [.fz (.int n),.fz (.bl false),.fz (.lst (ps.map yH)),.ow ([.str (vH n false)]++ps.map fun p=>.str (wW p)),y4,y5,y6,y7,y8]):=by
   unfold wX
   rw[show iL (eV 2) [.fz (.int n),.fz (.bl false),.fz (.lst (ps.map yH)),.ow [.str (vH n false)],.no,.no,.no,.no,.no]=some (ps.map yH) from rfl,Option.bind_some]
   exact e
 rw[yQ e']
 unfold lZ
 have em:([.str (vH n false)]++ps.map fun p=>D.str (wW p))=(vH n false::ps.map wW).map D.str:=by
   rw[List.map_cons,List.map_map];rfl
 rw[em]
 show(Option.map Out.rt (sQ (eC (.str "\n")) (iL (eV 3)) [.fz (.int n),.fz (.bl false),.fz (.lst (ps.map yH)),.fz (.lst ((vH n false::ps.map wW).map D.str)),y4,y5,y6,y7,y8])).bind xC=_
 rw[zYj]
 unfold sQ
 rw[show eC (.str "\n") _=some (D.str "\n") from rfl,Option.bind_some,show iL (eV 3) [.fz (.int n),.fz (.bl false),.fz (.lst (ps.map yH)),.fz (.lst ((vH n false::ps.map wW).map D.str)),y4,y5,y6,y7,y8]=some ((vH n false::ps.map wW).map D.str) from rfl,Option.bind_some]
 dsimp only
 rw[zXc,Option.bind_some,if_pos]
 · exact congrArg (fun z=>some (D.str z)) (StrLaws.glued_eq_join _ _)
 · rw[List.map_cons,List.sum_cons,List.length_cons,List.length_map,h6]
   omega
end
end My
namespace My
open PySem L2
def wI (ps:List Pt)(b:Bool)(k:Nat):Pt:=ps.getD (ixB b ps.length k) ⟨[],[],false⟩
theorem bY {ps:List Pt}{b:Bool}{k:Nat}(hk:k < ps.length):ps[ixB b ps.length k]'(nD hk)=wI ps b k:=by
 unfold wI
 rw[List.getD_eq_getElem?_getD,List.getElem?_eq_getElem (nD hk)]
 rfl
theorem zWQ {ps:List Pt}{b:Bool}{k:Nat}(hk:k < ps.length):wI ps b k∈ps:=by rw[←bY hk];exact List.getElem_mem _
def cW (ps:List Pt)(i:Nat):Tn->Bool->Int->List Nat->Int
 | _,_,x,[]=>x
 | t,b,x,d::r=>cW ps i (yF t (wI ps b d).t) (b != (wI ps b d).b) (2*x+(zA t (wI ps b d).c).getD i 0) r
def plW (ps:List Pt)(n:Nat)(t:Tn)(b:Bool)(f:Nat->Int)(ds:List Nat):List Int:=(List.range n).map fun i=>cW ps i t b (f i) ds
theorem bK (ps:List Pt)(i:Nat):∀(ds:List Nat) (t:Tn) (b:Bool) (x:Int),cW ps i t b x ds=x*2^ds.length+cW ps i t b 0 ds
 | [],t,b,x=>by simp[cW]
 | d::r,t,b,x=>by
   unfold cW
   rw[bK ps i r _ _ (2*x+_),bK ps i r _ _ (2*0+_)]
   rw[List.length_cons]
   generalize(zA t (wI ps b d).c).getD i 0=e
   generalize cW ps i _ _ 0 r=y
   rw[Int.pow_succ]
   generalize(2:Int)^r.length=p
   rw[Int.add_mul,Int.add_mul,Int.mul_comm 2 x,Int.mul_assoc,Int.mul_comm 2 p]
   omega
theorem dB {n:Nat}(hn:n=2∨n=3){c:List Int}(hc:c∈zD n)(i:Nat):c.getD i 0=0∨c.getD i 0=1:=by
 have key:∀c∈zD n,∀x∈c,x=0∨x=1:=by rcases hn with rfl | rfl<;>decide +kernel
 rw[List.getD_eq_getElem?_getD]
 cases h:c[i]? with
 | none=>exact .inl rfl
 | some x=>exact key c hc x (List.mem_of_getElem? h)
theorem gW {n:Nat}(hn:n=2∨n=3):∀t∈z9 n,∀c∈zD n,zA t c∈zD n:=by
 rcases hn with rfl | rfl<;>decide +kernel
section
variable {n:Nat} (hn:n=2∨n=3) {ps:List Pt} (ok:PtsOk n ps)
include hn ok
theorem zQa {b:Bool}{k:Nat}(hk:k < ps.length):(wI ps b k).c∈zD n:=ok.perm.mem_iff.mp (List.mem_map.mpr ⟨_,zWQ hk,rfl⟩)
theorem zPs {t:Tn}(ht:t∈z9 n){b:Bool}{k:Nat}(hk:k < ps.length):yF t (wI ps b k).t∈z9 n:=oR hn ht (ok.turn _ (zWQ hk))
theorem fF (i:Nat):∀(ds:List Nat) (t:Tn) (b:Bool),t∈z9 n->(∀d∈ds,d < ps.length)->0<=cW ps i t b 0 ds/\cW ps i t b 0 ds < 2^ds.length
 | [],t,b,_,_=>by simp[cW]
 | d::r,t,b,ht,hd=>by
   have hk:=hd d List.mem_cons_self
   have ih:=fF i r (yF t (wI ps b d).t) (b != (wI ps b d).b) (zPs hn ok ht hk) fun x hx=>hd x (List.mem_cons_of_mem _ hx)
   have hb:=dB hn (gW hn t ht _ (zQa hn ok (b:=b) hk)) i
   unfold cW
   rw[bK]
   rw[List.length_cons,Int.pow_succ]
   generalize(zA t (wI ps b d).c).getD i 0=e at hb
   generalize cW ps i _ _ 0 r=y at ih
   generalize(2:Int)^r.length=p at ih
   rcases hb with h | h<;>subst h<;>omega
theorem zRf (f:Nat->Int)(c:List Int)(hc:c.length=n):sT [zE ((List.range n).map f),zE c]=some (zE ((List.range n).map fun i=>2*f i+c.getD i 0)):=by
 rcases hn with rfl | rfl
 · match c,hc with
   | [a,b],_=>show sT [.tup [.int (f 0),.int (f 1)],.tup [.int a,.int b]]=some (.tup [.int (2*f 0+a),.int (2*f 1+b)]);generalize f 0=u;generalize f 1=v;kernel_rfl
 · match c,hc with
   | [a,b,e],_=>show sT [.tup [.int (f 0),.int (f 1),.int (f 2)],.tup [.int a,.int b,.int e]]=some (.tup [.int (2*f 0+a),.int (2*f 1+b),.int (2*f 2+e)]);generalize f 0=u;generalize f 1=v;generalize f 2=w;kernel_rfl
theorem zZI (j:Bool)(x1 x2:B):∀(ds:List Nat) (t:Tn) (b:Bool) (f:Nat->Int) (x5 x6:B),t∈z9 n->(∀d∈ds,d < ps.length) ->
   ∃y3 y5 y6,rB (gN 5) rQ (ds.map fun d=>.int (d:Nat)) [.fz (yL n j ps),x1,x2,.fz (stD t b),.fz (zE ((List.range n).map f)),x5,x6] =
     some (.nx [.fz (yL n j ps),x1,x2,y3,.fz (zE (plW ps n t b f ds)),y5,y6])
 | [],t,b,f,x5,x6,_,_=>⟨_,x5,x6,rfl⟩
 | d::r,t,b,f,x5,x6,ht,hd=>by
   have hk:=hd d List.mem_cons_self
   have e1:=zUG hn ok ht b j hk
   rw[bY hk] at e1
   have hcl:(zA t (wI ps b d).c).length=n:=tH hn _ (gW hn t ht _ (zQa hn ok (b:=b) hk))
   have e2:=zRf hn ok f _ hcl
   obtain⟨y3,y5,y6,ih⟩:=zZI j x1 x2 r (yF t (wI ps b d).t) (b != (wI ps b d).b) (fun i=>2*f i+(zA t (wI ps b d).c).getD i 0) (.fz (.int (d:Nat))) (.fz (zE (zA t (wI ps b d).c))) (zPs hn ok ht hk) fun x hx=>hd x (List.mem_cons_of_mem _ hx)
   refine⟨y3,y5,y6,?_⟩
   rw[List.map_cons]
   rw[rN (ρ1:=[.fz (yL n j ps),x1,x2,.fz (stD t b),.fz (zE ((List.range n).map f)),.fz (.int (d:Nat)),x6])
     (ρ2:=[.fz (yL n j ps),x1,x2,.fz (stD (yF t (wI ps b d).t) (b != (wI ps b d).b)),.fz (zE ((List.range n).map fun i=>2*f i+(zA t (wI ps b d).c).getD i 0)),.fz (.int (d:Nat)),.fz (zE (zA t (wI ps b d).c))]) rfl ?_]
   · exact ih
   · unfold rQ
     rw[yQ (ρ':=[.fz (yL n j ps),x1,x2,.fz (stD (yF t (wI ps b d).t) (b != (wI ps b d).b)),.fz (zE ((List.range n).map f)),.fz (.int (d:Nat)),.fz (zE (zA t (wI ps b d).c))])]
     · unfold nK zK
       rw[rC rfl rfl,e2]
       rfl
     · unfold tJ
       rw[tQ rfl rfl rfl,e1]
       rfl
end
def vB (B:Nat):Nat->Nat->List Nat
 | _,0=>[]
 | a,L+1=>a % B::vB B (a / B) L
theorem bQ (B:Nat):∀(L a:Nat),(vB B a L).length=L
 | 0,a=>rfl
 | L+1,a=>by unfold vB;rw[List.length_cons,bQ B L]
theorem bW {B:Nat}(hB:0 < B):∀(L a:Nat),∀d∈vB B a L,d < B
 | 0,a,d,h=>by cases h
 | L+1,a,d,h=>by
   unfold vB at h
   rcases List.mem_cons.mp h with e | e
   · rw[e];exact Nat.mod_lt _ hB
   · exact bW hB L _ d e
theorem zWB {B:Nat}(hB:0 < B):∀(L a acc:Nat),a < B^L->(vB B a L).reverse.foldl (fun s d=>s*B+d) acc=acc*B^L+a
 | 0,a,acc,h=>by
   have:a=0:=by simpa using h
   subst this
   simp[vB]
 | L+1,a,acc,h=>by
   unfold vB
   have h':a / B < B^L:=Nat.div_lt_of_lt_mul (by rw[Nat.mul_comm,←Nat.pow_succ];exact h)
   rw[List.reverse_cons,List.foldl_append,zWB hB L (a / B) acc h']
   show(acc*B^L+a / B)*B+a % B=_
   have:=Nat.div_add_mod a B
   rw[Nat.pow_succ,Nat.add_mul,Nat.mul_assoc,Nat.mul_comm (a / B) B]
   omega
section
variable {ps:List Pt} (hB:0 < ps.length) (hs:ps.length<=8)
include hB hs
theorem zQt {f:Ef}{ρ:List B}{g:Ef}{a:Nat}(h1:f ρ=some (.int (a:Nat)))(h2:g ρ=some (.int (ps.length:Nat))):yG f g ρ=some (.int ((a % ps.length:Nat):Nat)):=by
 rw[Int.natCast_emod]
 exact yK h1 h2 (decide_eq_true (by omega))
theorem zRd {f:Ef}{ρ:List B}{g:Ef}{a:Nat}(h1:f ρ=some (.int (a:Nat)))(h2:g ρ=some (.int (ps.length:Nat))):vV f g ρ=some (.int ((a / ps.length:Nat):Nat)):=by
 rw[Int.natCast_ediv]
 refine yK h1 h2 ?_
 unfold zZ0
 rw[decide_eq_true (show(0:Int) < (ps.length:Nat) by omega),decide_eq_true (show((ps.length:Nat):Int) < 1073741824 by omega)]
 rfl
theorem zWr (x1:B)(x2:B)(h1:x1 = .fz (.int (ps.length:Nat))):∀(its:List D) (acc:List Nat) (a:Nat) (x4:B),acc.length+its.length<=1000 ->
   ∃y4,rB (gN 4) vM its [.fz (.int (a:Nat)),x1,x2,.ow (acc.map fun d=>.int (d:Nat)),x4] =
     some (.nx [.fz (.int ((a / ps.length^its.length:Nat):Nat)),x1,x2,.ow ((acc++vB ps.length a its.length).map fun d=>.int (d:Nat)),y4])
 | [],acc,a,x4,_=>⟨x4,by simp[rB,vB]⟩
 | d::r,acc,a,x4,hl=>by
   subst h1
   obtain⟨y4,ih⟩:=zWr (.fz (.int (ps.length:Nat))) x2 rfl r (acc++[a % ps.length]) (a / ps.length) (.fz d) (by simp at hl ⊢;omega)
   refine⟨y4,?_⟩
   rw[rN (ρ1:=[.fz (.int (a:Nat)),.fz (.int (ps.length:Nat)),x2,.ow (acc.map fun d=>.int (d:Nat)),.fz d])
     (ρ2:=[.fz (.int ((a / ps.length:Nat):Nat)),.fz (.int (ps.length:Nat)),x2,.ow ((acc++[a % ps.length]).map fun d=>.int (d:Nat)),.fz d]) rfl ?_,ih]
   · rw[List.length_cons,Nat.pow_succ,Nat.mul_comm,←Nat.div_div_eq_div_mul]
     simp[vB]
   · unfold vM
     rw[yQ (zXx (d:=.int ((a % ps.length:Nat):Nat)) (ds:=acc.map fun d=>.int (d:Nat)) (zQt hB hs rfl rfl) rfl (by rw[List.length_map];simp at hl;omega))]
     unfold pP zK
     rw[zRd hB hs (a:=a) rfl rfl,List.map_append]
     rfl
theorem zOO {f:Ef}{ρ:List B}{L:Nat}(h:f ρ=some (.int (L:Nat)))(hL:L<=1000):iR f ρ=some (tI 0 L):=by
 unfold iR
 rw[h,Option.bind_some]
 show(if decide (-1000000<=(L:Int))&&decide ((L:Int)<=1000000) then some (tI 0 (L:Int).toNat) else none)=_
 rw[decide_eq_true (by omega),decide_eq_true (by omega),Int.toNat_natCast]
 rfl
theorem zTN (a L:Nat)(hL:L<=100):oC [.int (a:Nat),.int (ps.length:Nat),.int (L:Nat)]=some ((vB ps.length a L).reverse.map fun d=>.int (d:Nat)):=by
 obtain⟨y4,e⟩:=zWr hB hs (.fz (.int (ps.length:Nat))) (.fz (.int (L:Nat))) rfl (tI 0 L) [] a .no (by rw[rJ];simp;omega)
 rw[rJ,List.nil_append] at e
 show(nX [.fz (.int (a:Nat)),.fz (.int (ps.length:Nat)),.fz (.int (L:Nat)),.no,.no]).bind zXF=_
 unfold nX
 rw[yQ (ρ':=[.fz (.int (a:Nat)),.fz (.int (ps.length:Nat)),.fz (.int (L:Nat)),.ow [],.no]) rfl]
 unfold nN
 have fr:wX (iR (eV 2)) (gN 4) vM [.fz (.int (a:Nat)),.fz (.int (ps.length:Nat)),.fz (.int (L:Nat)),.ow [],.no]=some (.nx [.fz (.int ((a / ps.length^L:Nat):Nat)),.fz (.int (ps.length:Nat)),.fz (.int (L:Nat)),.ow ((vB ps.length a L).map fun d=>.int (d:Nat)),y4]):=by
   unfold wX
   rw[zOO hB hs (L:=L) rfl (by omega),Option.bind_some]
   exact e
 rw[yQ fr]
 unfold nF
 rw[List.map_reverse]
 rfl
end
end My
namespace My
open PySem L2
theorem zWN {t:Tf}{f g:Sf}{ρ:List B}{r:Option D}(h:t ρ=some false)(k:(g ρ).bind xC=r):(zM (sIf t f yU) g ρ).bind xC=r:=xI (by unfold sIf;rw[h];rfl) k
theorem wV {i:Nat}{f:Ef}{g:Sf}{ρ:List B}{d:D}{r:Option D}(h:f ρ=some d)(k:(g (ρ.set i (.fz d))).bind xC=r):(zM (zK i f) g ρ).bind xC=r:=xI (by unfold zK;rw[h];rfl) k
theorem zUu {f:Ef}{ρ:List B}(h:f ρ=some (.bl true)):xS (tB1 f) ρ=some false:=by unfold xS tB1;rw[h];rfl
theorem zZf (x0 x1:B):∀(its:List D) (p:Int) (x3:B),∃y3,rB (gN 3) jM its [x0,x1,.fz (.int p),x3]=some (.nx [x0,x1,.fz (.int (p*2^its.length)),y3])
 | [],p,x3=>⟨x3,by simp[rB]⟩
 | d::r,p,x3=>by
   obtain⟨y3,ih⟩:=zZf x0 x1 r (p*2) (.fz d)
   refine⟨y3,?_⟩
   rw[rN (ρ1:=[x0,x1,.fz (.int p),.fz d]) (ρ2:=[x0,x1,.fz (.int (p*2)),.fz d]) rfl ?_,ih,List.length_cons,Int.pow_succ,Int.mul_comm (2^r.length) 2,←Int.mul_assoc]
   unfold jM zK
   rw[show pK (eV 2) (eC (.int 2)) [x0,x1,.fz (.int p),.fz d]=some (.int (p*2)) from yK rfl rfl (zVx (by decide) (by decide))]
   rfl
theorem zXV (n L:Nat)(hn:n<=3)(hL:L<=100):rR [.int (n:Nat),.int (L:Nat)]=some (.int (2^(n*L))):=by
 have hm:n*L<=300:=Nat.le_trans (Nat.mul_le_mul hn hL) (by decide)
 obtain⟨y3,e⟩:=zZf (.fz (.int (n:Nat))) (.fz (.int (L:Nat))) (tI 0 (n*L)) 1 .no
 rw[rJ,Int.one_mul] at e
 show(zZC [.fz (.int (n:Nat)),.fz (.int (L:Nat)),.no,.no]).bind xC=_
 unfold zZC
 refine wV (d:=.int 1) rfl ?_
 unfold bL
 refine xI (ρ':=[.fz (.int (n:Nat)),.fz (.int (L:Nat)),.fz (.int (2^(n*L))),y3]) ?_ rfl
 unfold wX
 have hmul:pK (eV 0) (eV 1) [.fz (.int (n:Nat)),.fz (.int (L:Nat)),.fz (.int 1),.no]=some (.int ((n*L:Nat):Nat)):=by
   rw[Int.natCast_mul]
   exact yK rfl rfl (zZM (by omega) (by omega))
 have hir:iR (pK (eV 0) (eV 1)) [.fz (.int (n:Nat)),.fz (.int (L:Nat)),.fz (.int 1),.no]=some (tI 0 (n*L)):=by
   unfold iR
   rw[hmul,Option.bind_some]
   show(if decide (-1000000<=((n*L:Nat):Int))&&decide (((n*L:Nat):Int)<=1000000) then some (tI 0 ((n*L:Nat):Int).toNat) else none)=_
   generalize n*L=m at hm
   rw[decide_eq_true (by omega),decide_eq_true (by omega),Int.toNat_natCast]
   rfl
 dsimp only[List.set]
 rw[hir,Option.bind_some]
 exact e
theorem zOI {n L:Nat}(hn:n=2∨n=3)(hL:L<=100)(xs:List Int)(hl:xs.length=n)(hb:∀x∈xs,0<=x/\x < 2^L):oJ [.int (n:Nat),.int (L:Nat),.tup (xs.map D.int)]=some (.bl true):=by
 have hf:=zXV 1 L (by decide) hL
 rw[Nat.one_mul] at hf
 generalize(2:Int)^L=S at hb hf
 show(nH [.fz (.int (n:Nat)),.fz (.int (L:Nat)),.fz (.tup (xs.map D.int)),.no]).bind xC=_
 unfold nH
 refine wV (d:=.int S) ((rC rfl rfl).trans hf) ?_
 unfold mX yY
 have e1:xJ (eB2 gEq (xP (eV 2)) (eV 0)) [.fz (.int (n:Nat)),.fz (.int (L:Nat)),.fz (.tup (xs.map D.int)),.fz (.int S)]=some (.bl true):=by
   show(gEq (.int ((xs.map D.int).length:Nat)) (.int (n:Nat))).map D.bl=_
   rw[List.length_map,hl]
   show(some (decide ((n:Int)=n))).map D.bl=_
   rw[decide_eq_true rfl];rfl
 have e2:zTZ (eL (yV (iT (eV 2)) 1 [3] (gN 0) tOK (xJ (eB3 gLe gLt (eC (.int 0)) (eV 0) (eV 1))))) [.fz (.int (n:Nat)),.fz (.int (L:Nat)),.fz (.tup (xs.map D.int)),.fz (.int S)]=some (.bl true):=by
   have e3:yV (iT (eV 2)) 1 [3] (gN 0) tOK (xJ (eB3 gLe gLt (eC (.int 0)) (eV 0) (eV 1))) [.fz (.int (n:Nat)),.fz (.int (L:Nat)),.fz (.tup (xs.map D.int)),.fz (.int S)]=some ((xs.map D.int).map fun _=>.bl true):=by
     show(okL (xs.map D.int)).bind (fun ds=>oA (gN 0) tOK _ ds [.no,.fz (.int S)] [])=_
     rw[zZL (by rw[List.length_map];omega),Option.bind_some]
     rw[fZ (h:=fun _=>.bl true)]
     · rfl
     · intro d hd
       obtain⟨a,ha,rfl⟩:=List.mem_map.mp hd
       obtain⟨h1,h2⟩:=hb a ha
       simp[xJ,eB3,gLe,gLt,eC,eV,sK,h1,h2]
   unfold zTZ
   rw[zZa e3,Option.bind_some,List.map_map]
   show(zVQ (xs.map fun _=>.bl true)).map _=_
   rw[zWM (fun _=>true)]
   simp
 unfold kT tB1
 dsimp only[List.set]
 rw[e1,e2]
 rfl
theorem zVY {n:Nat}(hn:n=2∨n=3):xA [.int (n:Nat)]=some (stD (wM n) false):=by rcases hn with rfl | rfl<;>kernel_rfl
theorem mM {n:Nat}(hn:n=2∨n=3):wM n∈z9 n:=by rcases hn with rfl | rfl<;>decide +kernel
theorem zYE {n:Int}{j:Bool}{ps:List Pt}{ρ:List B}(h:eV 0 ρ=some (yL n j ps)):xP (xY (Str.ofString "Curve") (Str.ofString "parts") (eV 0)) ρ=some (.int (ps.length:Nat)):=by
 unfold xP
 rw[gC ρ (eV 0) h,Option.bind_some]
 show some (D.int ((ps.map yN).length:Nat))=_
 rw[List.length_map]
theorem kH {n:Int}{j:Bool}{ps:List Pt}{ρ:List B}(h:eV 0 ρ=some (yL n j ps)):xY (Str.ofString "Curve") (Str.ofString "dims") (eV 0) ρ=some (.int n):=by
 unfold xY;rw[h];rfl
def zXL:Sf:=zM (zK 6 (xR (eL (yV (iT (eV 2)) 1 [5] (gN 0) tOK (yG (kZ (eV 0) (eV 1)) (eC (.int 2)))))))
   (zM (zK 7 (zO 3 pI (zZ (eV 0) (zZ (eV 3) (zZ (eV 6) zS)))))
   (zM (zK 4 (vT (pK (eV 4) (xP (xY "Curve" "parts" (eV 0)))) (eV 7)))
   (zM (zK 3 (eIx (zO 3 xK (zZ (eV 0) (zZ (eV 3) (zZ (eV 7) zS)))) (eC (.int 1))))
   (zK 5 (kZ (eV 5) (eC (.int 2)))))))
theorem zTT (x:Int){k:Nat}(hk:k<=100):zUr x (2^k)=true:=by
 unfold zUr
 have h0:(0:Int) < 2^k:=Int.pow_pos (by decide)
 have h1:((2:Int)^k).natAbs=2^k:=by rw[Int.natAbs_pow];rfl
 have h2:((2:Int)^k).natAbs.log2 < 9000:=by
   rw[h1,Nat.log2_two_pow];omega
 rw[decide_eq_true h0,decide_eq_true h2]
 rfl
theorem zWx (x1 x3 x4 x6 x7:B)(x0:B){k:Nat}(hk:k<=100)(xs:List Int)(hl:xs.length<=100):xR (eL (yV (iT (eV 2)) 1 [5] (gN 0) tOK (yG (kZ (eV 0) (eV 1)) (eC (.int 2))))) [x0,x1,.fz (zE xs),x3,x4,.fz (.int (2^k)),x6,x7]=some (zE (xs.map fun x=>x / 2^k % 2)):=by
 have hc:=fun x=>zTT x hk
 generalize(2:Int)^k=h at hc
 have e3:yV (iT (eV 2)) 1 [5] (gN 0) tOK (yG (kZ (eV 0) (eV 1)) (eC (.int 2))) [x0,x1,.fz (zE xs),x3,x4,.fz (.int h),x6,x7]=some ((xs.map D.int).map fun d=>match d with | .int x=>.int (x / h % 2) | d=>d):=by
   show(okL (xs.map D.int)).bind (fun ds=>oA (gN 0) tOK _ ds [.no,.fz (.int h)] [])=_
   rw[zZL (by rw[List.length_map];omega),Option.bind_some]
   rw[fZ (h:=fun d=>match d with | .int x=>.int (x / h % 2) | d=>d)]
   · rfl
   · intro d hd
     obtain⟨a,ha,rfl⟩:=List.mem_map.mp hd
     exact yK (yK rfl rfl (hc a)) rfl rfl
 unfold xR
 rw[zZa e3,Option.bind_some,List.map_map]
 unfold zE
 rw[List.map_map]
 rfl
section
variable {n:Nat} (hn:n=2∨n=3) {ps:List Pt} (ok:PtsOk n ps) (j:Bool)
include hn ok
theorem zWt (x1:B):∀(ds:List Nat) (t:Tn) (b:Bool) (g:Nat->Int) (acc:Nat) (h:Int) (fuel:Nat) (x6 x7:B),t∈z9 n->(∀d∈ds,d < ps.length)->ds.length < fuel->ds.length<=60->h=(match ds.length with | 0=>0 | m+1=>2^m) ->
   (∀i,i < n->g i % 2^ds.length=cW ps i t b 0 ds) ->
   ∃y3 y5 y6 y7,vN (eB2 gGt (eV 5) (eC (.int 0))) zXL fuel [.fz (yL n j ps),x1,.fz (zE ((List.range n).map g)),.fz (stD t b),.fz (.int (acc:Nat)),.fz (.int h),x6,x7] =
     some (.nx [.fz (yL n j ps),x1,.fz (zE ((List.range n).map g)),y3,.fz (.int ((ds.foldl (fun s d=>s*ps.length+d) acc:Nat):Nat)),y5,y6,y7])
 | [],t,b,g,acc,h,0,x6,x7,_,_,hf,_,_,_=>by cases hf
 | [],t,b,g,acc,h,fuel+1,x6,x7,_,_,_,_,hh,_=>by
   subst hh
   exact⟨.fz (stD t b),.fz (.int 0),x6,x7,rfl⟩
 | d::r,t,b,g,acc,h,0,x6,x7,_,_,hf,_,_,_=>by cases hf
 | d::r,t,b,g,acc,h,fuel+1,x6,x7,ht,hd,hf,hl,hh,hg=>by
   rw[List.length_cons] at hf hl hh
   have hk:=hd d List.mem_cons_self
   have hr:∀x∈r,x < ps.length:=fun x hx=>hd x (List.mem_cons_of_mem _ hx)
   have hs:=ok.small hn
   have ht':=zPs hn ok ht (b:=b) hk
   -- coordinates
   have hco:∀i,i < n->g i / 2^r.length % 2=(zA t (wI ps b d).c).getD i 0/\g i % 2^r.length=cW ps i (yF t (wI ps b d).t) (b != (wI ps b d).b) 0 r:=fun i hi=>by
     have h1:=hg i hi
     have h2:=fF hn ok i r _ (b != (wI ps b d).b) ht' hr
     have hb:=dB hn (gW hn t ht _ (zQa hn ok (b:=b) hk)) i
     unfold cW at h1
     rw[bK,List.length_cons,Int.pow_succ] at h1
     have hp:(0:Int) < 2^r.length:=Int.pow_pos (by decide)
     generalize(zA t (wI ps b d).c).getD i 0=e at hb h1
     generalize cW ps i _ _ 0 r=y at h1 h2
     generalize(2:Int)^r.length=p at h1 h2 hp
     have hdm:=Int.emod_add_mul_ediv (g i) (p*2)
     generalize hq:g i / (p*2)=q at hdm
     rw[h1] at hdm
     have hx:g i=y+p*(e+2*q):=by
       rw[←hdm,Int.mul_add,Int.mul_comm p e,←Int.mul_assoc,Int.mul_zero,Int.zero_add]
       omega
     have hdiv:g i / p=e+2*q:=by
       rw[hx,Int.add_mul_ediv_left _ _ (by omega),Int.ediv_eq_zero_of_lt h2.1 h2.2,Int.zero_add]
     refine⟨by rw[hdiv];omega,?_⟩
     rw[hx,Int.add_mul_emod_self_left]
     exact Int.emod_eq_of_lt h2.1 h2.2
   have hcorner:((List.range n).map g).map (fun x=>x / 2^r.length % 2)=zA t (wI ps b d).c:=by
     have hcl:(zA t (wI ps b d).c).length=n:=tH hn _ (gW hn t ht _ (zQa hn ok (b:=b) hk))
     refine List.ext_getElem (by simp[hcl]) fun i h1 h2=>?_
     have hi:i < n:=by simpa using h1
     rw[List.getElem_map,List.getElem_map,List.getElem_range,(hco i hi).1,List.getD_eq_getElem?_getD,List.getElem?_eq_getElem h2]
     rfl
   have e1:=zWx x1 (.fz (stD t b)) (.fz (.int (acc:Nat))) x6 x7 (.fz (yL n j ps)) (k:=r.length) (by omega) ((List.range n).map g) (by rw[List.length_map,List.length_range];omega)
   rw[hcorner] at e1
   have e2:=zSN hn ok ht b j hk
   rw[bY hk] at e2
   have e3:=zUG hn ok ht b j hk
   rw[bY hk] at e3
   obtain⟨y3,y5,y6,y7,ih⟩:=zWt x1 r (yF t (wI ps b d).t) (b != (wI ps b d).b) g (acc*ps.length+d) (h / 2) fuel (.fz (zE (zA t (wI ps b d).c))) (.fz (.int (d:Nat))) ht' hr (by omega) (by omega) (by
     rw[hh]
     show(2:Int)^r.length / 2=_
     cases hz:r.length with
     | zero=>rfl
     | succ m=>show(2:Int)^(m+1) / 2=2^m;rw[Int.pow_succ];omega) fun i hi=>(hco i hi).2
   refine⟨y3,y5,y6,y7,?_⟩
   have hh':h=2^r.length:=hh
   subst hh'
   have hp:(0:Int) < 2^r.length:=Int.pow_pos (by decide)
   have tt:eB2 gGt (eV 5) (eC (.int 0)) [.fz (yL n j ps),x1,.fz (zE ((List.range n).map g)),.fz (stD t b),.fz (.int (acc:Nat)),.fz (.int (2^r.length)),x6,x7]=some true:=by
     show some (decide ((0:Int) < 2^r.length))=_
     rw[decide_eq_true hp]
   rw[vN,tt,Option.bind_some,if_pos rfl]
   have hbody:zXL [.fz (yL n j ps),x1,.fz (zE ((List.range n).map g)),.fz (stD t b),.fz (.int (acc:Nat)),.fz (.int (2^r.length)),x6,x7]=some (.nx [.fz (yL n j ps),x1,.fz (zE ((List.range n).map g)),.fz (stD (yF t (wI ps b d).t) (b != (wI ps b d).b)),.fz (.int ((acc*ps.length+d:Nat):Nat)),.fz (.int (2^r.length / 2)),.fz (zE (zA t (wI ps b d).c)),.fz (.int (d:Nat))]):=by
     unfold zXL
     rw[vF e1]
     dsimp only[List.set]
     rw[vF (d:=.int (d:Nat)) ((tQ rfl rfl rfl).trans e2)]
     dsimp only[List.set]
     rw[vF (d:=.int ((acc*ps.length+d:Nat):Nat)) (by
       rw[Int.natCast_add,Int.natCast_mul]
       exact yK (yK rfl (zYE rfl) (zVx (by omega) (by omega))) rfl rfl)]
     dsimp only[List.set]
     rw[vF (d:=stD (yF t (wI ps b d).t) (b != (wI ps b d).b)) (by
       unfold eIx
       rw[tQ rfl rfl rfl,e3]
       rfl)]
     dsimp only[List.set]
     unfold zK
     rw[show kZ (eV 5) (eC (.int 2)) _=some (.int (2^r.length / 2)) from yK rfl rfl (by rfl)]
     rfl
   rw[hbody,Option.bind_some]
   exact ih
end
end My
namespace My
open PySem L2
theorem zPC {x y z:D}(h:oJ [x,y,z]=some (.bl true)):rF [x,y,z]=some .non:=by
 show(nV [.fz x,.fz y,.fz z]).bind xC=_
 unfold nV sIf
 rw[zUu ((tQ rfl rfl rfl).trans h)]
 rfl
section
variable {n:Nat} (hn:n=2∨n=3) {ps:List Pt} (ok:PtsOk n ps) (j:Bool) {L a:Nat} (hL:L<=60) (ha:a < ps.length^L)
include hn ok hL
include ha
theorem zRs:sH [yL n j ps,.int (L:Nat),.int (a:Nat)]=some (zE (plW ps n (wM n) false (fun _=>0) (vB ps.length a L).reverse)):=by
 have hB:0 < ps.length:=by rw[ok.len];exact Nat.pow_pos (by decide)
 have hs:=ok.small hn
 have hf:=zXV n L (by omega) (by omega)
 have hlt:(a:Int) < 2^(n*L):=by
   have h1:ps.length^L=2^(n*L):=by rw[ok.len,←Nat.pow_mul]
   rw[h1] at ha
   have h2:((2^(n*L):Nat):Int)=2^(n*L):=by rw[Int.natCast_pow];rfl
   rw[←h2]
   exact Int.ofNat_lt.mpr ha
 obtain⟨y3,y5,y6,e2⟩:=zZI hn ok j (.fz (.int (L:Nat))) (.fz (.int (a:Nat))) (vB ps.length a L).reverse (wM n) false (fun _=>0) .no .no (mM hn) (fun d hd=>bW hB L a d (List.mem_reverse.mp hd))
 have e1:=zTN hB hs a L (by omega)
 show(lM [.fz (yL n j ps),.fz (.int (L:Nat)),.fz (.int (a:Nat)),.no,.no,.no,.no]).bind xC=_
 unfold lM
 refine zWN ?_ ?_
 · unfold xS eB3
   rw[rC (kH (n:=n) (j:=j) (ps:=ps) rfl) rfl,hf]
   generalize(2:Int)^(n*L)=S at hlt
   simp[eC,eV,sK,gLe,gLt,hlt]
 unfold lL
 refine wV ((fP (kH (n:=n) (j:=j) (ps:=ps) rfl)).trans (zVY hn)) ?_
 unfold mC
 refine wV (d:=zE ((List.range n).map fun _=>(0:Int))) (by
   unfold zWZ
   rw[kH (n:=n) (j:=j) (ps:=ps) rfl]
   rcases hn with rfl | rfl<;>kernel_rfl) ?_
 unfold lY
 refine xI (ρ':=[.fz (yL n j ps),.fz (.int (L:Nat)),.fz (.int (a:Nat)),y3,.fz (zE (plW ps n (wM n) false (fun _=>0) (vB ps.length a L).reverse)),y5,y6]) ?_ rfl
 unfold wX
 rw[zOL rfl (zYE (n:=n) (j:=j) (ps:=ps) rfl) rfl,e1,Option.bind_some]
 exact e2
theorem zUb:vO [yL n j ps,.int (L:Nat),zE (plW ps n (wM n) false (fun _=>0) (vB ps.length a L).reverse)]=some (.int (a:Nat)):=by
 have hB:0 < ps.length:=by rw[ok.len];exact Nat.pow_pos (by decide)
 have hs:=ok.small hn
 have hf:=zXV 1 L (by omega) (by omega)
 rw[Nat.one_mul] at hf
 have hlen:(vB ps.length a L).reverse.length=L:=by rw[List.length_reverse,bQ]
 have hds:∀d∈(vB ps.length a L).reverse,d < ps.length:=fun d hd=>bW hB L a d (List.mem_reverse.mp hd)
 have hbd:∀i,0<=cW ps i (wM n) false 0 (vB ps.length a L).reverse/\cW ps i (wM n) false 0 (vB ps.length a L).reverse < 2^L:=fun i=>by
   have:=fF hn ok i (vB ps.length a L).reverse (wM n) false (mM hn) hds
   rwa[hlen] at this
 have hhas:=zOI (n:=n) (L:=L) hn (by omega) (plW ps n (wM n) false (fun _=>0) (vB ps.length a L).reverse) (by simp[plW]) (fun x hx=>by
   unfold plW at hx
   obtain⟨i,_,rfl⟩:=List.mem_map.mp hx
   exact hbd i)
 obtain⟨y3,y5,y6,y7,e2⟩:=zWt hn ok j (.fz (.int (L:Nat))) (vB ps.length a L).reverse (wM n) false (fun i=>cW ps i (wM n) false 0 (vB ps.length a L).reverse) 0 (2^L / 2) 100 .no .no (mM hn) hds (by rw[hlen];omega) (by rw[hlen];exact hL) (by
     rw[hlen]
     cases L with
     | zero=>rfl
     | succ m=>show(2:Int)^(m+1) / 2=2^m;rw[Int.pow_succ];omega) (fun i _=>by rw[hlen];exact Int.emod_eq_of_lt (hbd i).1 (hbd i).2)
 rw[zWB hB L a 0 ha,Nat.zero_mul,Nat.zero_add] at e2
 show(nY [.fz (yL n j ps),.fz (.int (L:Nat)),.fz (zE (plW ps n (wM n) false (fun _=>0) (vB ps.length a L).reverse)),.no,.no,.no,.no,.no]).bind xC=_
 unfold nY
 refine xI (ρ':=[.fz (yL n j ps),.fz (.int (L:Nat)),.fz (zE (plW ps n (wM n) false (fun _=>0) (vB ps.length a L).reverse)),.no,.no,.no,.no,.no]) (by
   unfold zXb
   rw[tQ (kH (n:=n) (j:=j) (ps:=ps) rfl) rfl rfl,show rF [.int (n:Nat),.int (L:Nat),zE (plW ps n (wM n) false (fun _=>0) (vB ps.length a L).reverse)]=some .non from zPC hhas]
   rfl) ?_
 unfold nC
 refine wV ((fP (kH (n:=n) (j:=j) (ps:=ps) rfl)).trans (zVY hn)) ?_
 unfold nR
 refine wV (d:=.int 0) rfl ?_
 unfold nJ
 refine wV (d:=.int (2^L / 2)) (yK ((rC rfl rfl).trans hf) rfl (by rfl)) ?_
 unfold nE
 exact xI (g:=nZ) e2 rfl
end
theorem iG {x:Int}{m:Nat}(h:x.natAbs < 2^m)(hm:m<=2097152):Builtin.Int.intBits x<=2097152:=Nat.le_trans (PyProof.Rows.intBits_le h) hm
end My
namespace My
open PySem L2
theorem zVJ:((z9 2).all fun t=>(zD 2).all fun c=>(zD 2).any fun d=>decide (zA t d=c))=true:=by decide +kernel
theorem zVk:((z9 3).all fun t=>(zD 3).all fun c=>(zD 3).any fun d=>decide (zA t d=c))=true:=by decide +kernel
theorem zTO {n:Nat}(hn:n=2∨n=3){t:Tn}(ht:t∈z9 n){c:List Int}(hc:c∈zD n):∃d∈zD n,zA t d=c:=by
 have h:((zD n).any fun d=>decide (zA t d=c))=true:=by
   rcases hn with rfl | rfl
   · exact List.all_eq_true.mp (List.all_eq_true.mp zVJ t ht) c hc
   · exact List.all_eq_true.mp (List.all_eq_true.mp zVk t ht) c hc
 obtain⟨d,h1,h2⟩:=List.any_eq_true.mp h
 exact⟨d,h1,of_decide_eq_true h2⟩
theorem zV7 {n:Nat}(hn:n=2∨n=3)(e:Nat->Int)(he:∀i < n,e i=0∨e i=1):(List.range n).map e∈zD n:=by
 rcases hn with rfl | rfl
 · show [e 0,e 1]∈zD 2
   rcases he 0 (by decide) with h0 | h0<;>rcases he 1 (by decide) with h1 | h1<;>rw[h0,h1]<;>decide +kernel
 · show [e 0,e 1,e 2]∈zD 3
   rcases he 0 (by decide) with h0 | h0<;>rcases he 1 (by decide) with h1 | h1<;>rcases he 2 (by decide) with h2 | h2<;>rw[h0,h1,h2]<;>decide +kernel
theorem zXf {B:Nat}(hB:0 < B):∀es:List Nat,(∀e∈es,e < B)->∃a,a < B^es.length/\vB B a es.length=es
 | [],_=>⟨0,by simp,rfl⟩
 | e::r,h=>by
   obtain⟨a,h1,h2⟩:=zXf hB r fun x hx=>h x (List.mem_cons_of_mem _ hx)
   have he:=h e List.mem_cons_self
   refine⟨a*B+e,?_,?_⟩
   · rw[List.length_cons,Nat.pow_succ]
     have:(a+1)*B<=B^r.length*B:=Nat.mul_le_mul_right B h1
     rw[Nat.add_mul,Nat.one_mul] at this
     omega
   · rw[List.length_cons,vB]
     have q1:(a*B+e) % B=e:=by rw[Nat.add_comm,Nat.add_mul_mod_self_right];exact Nat.mod_eq_of_lt he
     have q2:(a*B+e) / B=a:=by rw[Nat.add_comm,Nat.add_mul_div_right _ _ hB,Nat.div_eq_of_lt he,Nat.zero_add]
     rw[q1,q2,h2]
section
variable {n:Nat} (hn:n=2∨n=3) {ps:List Pt} (ok:PtsOk n ps)
include hn ok
theorem zYV:∀(L:Nat) (t:Tn) (b:Bool) (y:Nat->Int),t∈z9 n->(∀i < n,0<=y i/\y i < 2^L)->∃ds:List Nat,ds.length=L/\(∀d∈ds,d < ps.length)/\∀i < n,cW ps i t b 0 ds=y i
 | 0,t,b,y,ht,hy=>⟨[],rfl,fun _ h=>absurd h (by simp),fun i hi=>by
     have:=hy i hi
     unfold cW
     simp at this
     omega⟩
 | L+1,t,b,y,ht,hy=>by
   have hp:(0:Int) < 2^L:=Int.pow_pos (by decide)
   have he:∀i < n,y i / 2^L=0∨y i / 2^L=1:=fun i hi=>by
     have h:=hy i hi
     rw[Int.pow_succ] at h
     have h1:0<=y i / 2^L:=Int.ediv_nonneg h.1 (Int.le_of_lt hp)
     have h2:y i / 2^L < 2:=Int.ediv_lt_of_lt_mul hp (by rw[Int.mul_comm];exact h.2)
     omega
   obtain⟨c,hc,ec⟩:=zTO hn ht (zV7 hn (fun i=>y i / 2^L) he)
   obtain⟨p,hpm,hpc⟩:=List.mem_map.mp (ok.perm.mem_iff.mpr hc)
   obtain⟨k,hk,ek⟩:=List.getElem_of_mem hpm
   have hd:ixB b ps.length k < ps.length:=nD hk
   have hpt:wI ps b (ixB b ps.length k)=p:=by
     unfold wI
     rw[zUm hk,List.getD_eq_getElem?_getD,List.getElem?_eq_getElem hk,ek]
     rfl
   obtain⟨ds,h1,h2,h3⟩:=zYV L (yF t p.t) (b != p.b) (fun i=>y i % 2^L) (oR hn ht (ok.turn p hpm)) fun i hi=>⟨Int.emod_nonneg _ (Int.ne_of_gt hp),Int.emod_lt_of_pos _ hp⟩
   refine⟨ixB b ps.length k::ds,by rw[List.length_cons,h1],fun d hd'=>?_,fun i hi=>?_⟩
   · rcases List.mem_cons.mp hd' with rfl | h
     · exact hd
     · exact h2 d h
   · have hg:((List.range n).map fun i=>y i / 2^L).getD i 0=y i / 2^L:=by
       rw[List.getD_eq_getElem?_getD,List.getElem?_map,List.getElem?_range hi];rfl
     unfold cW
     rw[hpt,hpc,ec,bK,h3 i hi,h1,hg]
     have:=Int.emod_add_mul_ediv (y i) (2^L)
     rw[Int.mul_comm] at this
     rw[Int.mul_zero,Int.zero_add]
     omega
theorem zUW (L:Nat)(y:Nat->Int)(hy:∀i < n,0<=y i/\y i < 2^L):∃a,a < ps.length^L/\plW ps n (wM n) false (fun _=>0) (vB ps.length a L).reverse=(List.range n).map y:=by
 have hpos:0 < ps.length:=by rw[ok.len];exact Nat.pow_pos (by decide)
 obtain⟨ds,h1,h2,h3⟩:=zYV hn ok L (wM n) false y (mM hn) hy
 obtain⟨a,h4,h5⟩:=zXf hpos ds.reverse fun e he=>h2 e (List.mem_reverse.mp he)
 rw[List.length_reverse,h1] at h4 h5
 refine⟨a,h4,?_⟩
 rw[h5,List.reverse_reverse]
 unfold plW
 exact List.map_congr_left fun i hi=>h3 i (List.mem_range.mp hi)
end
end My
namespace My
open PySem L2
theorem iRn {f:Ef}{ρ:List B}{L:Nat}(h:f ρ=some (.int (L:Nat)))(hL:L<=1000):iR f ρ=some (tI 0 L):=by
 unfold iR
 rw[h,Option.bind_some]
 show(if decide (-1000000<=(L:Int))&&decide ((L:Int)<=1000000) then some (tI 0 (L:Int).toNat) else none)=_
 rw[decide_eq_true (by omega),decide_eq_true (by omega),Int.toNat_natCast]
 rfl
theorem zSu (q:Int)(h:0<=q):∃L:Nat,L<=60/\oK [.int q]=some (.int (L:Nat)):=by
 have t:eB2 gEq (yG (eV 0) (eC (.int 6))) (eC (.int 0)) [.fz (.int q)]=some (decide (q % 6=0)):=qV (yK rfl rfl rfl)
 show ∃L:Nat,L<=60/\(mY [.fz (.int q)]).bind xC=some (.int (L:Nat))
 unfold mY
 by_cases hq:q % 6=0
 · refine⟨(q / 6 % 61).toNat,by omega,?_⟩
   rw[show((q / 6 % 61).toNat:Int)=q / 6 % 61 by omega]
   rw[gH (d:=.int (q / 6 % 61)) ((wP t).trans (by rw[decide_eq_true hq,if_pos rfl];unfold yY;rw[show yG (vV (eV 0) (eC (.int 6))) (eC (.int 61)) [.fz (.int q)]=some (.int (q / 6 % 61)) from yK (yK rfl rfl rfl) rfl rfl];rfl))]
   rfl
 · refine⟨(q / 6 % 13).toNat,by omega,?_⟩
   rw[show((q / 6 % 13).toNat:Int)=q / 6 % 13 by omega]
   rw[yQ (ρ':=[.fz (.int q)]) ((wP t).trans (by rw[decide_eq_false hq];rfl))]
   unfold nI yY
   rw[show yG (vV (eV 0) (eC (.int 6))) (eC (.int 13)) [.fz (.int q)]=some (.int (q / 6 % 13)) from yK (yK rfl rfl rfl) rfl rfl]
   rfl
theorem bS (ns:List Int)(k:Nat):∃c,w6 [.lst (ns.map .int),.int (k:Nat)]=some (.int c):=by
 show ∃c,(qU [.fz (.lst (ns.map .int)),.fz (.int (k:Nat))]).bind xC=some (.int c)
 have t:eB2 gLt (eV 1) (xP (eV 0)) [.fz (.lst (ns.map .int)),.fz (.int (k:Nat))]=some (decide ((k:Int) < (ns.length:Nat))):=by
   show some (decide ((k:Int) < ((ns.map D.int).length:Nat)))=_
   rw[List.length_map]
 unfold qU
 by_cases h:(k:Int) < (ns.length:Nat)
 · refine⟨ns.getD k 0,?_⟩
   rw[gH (d:=.int (ns.getD k 0)) ((wP t).trans (by
     rw[decide_eq_true h,if_pos rfl]
     unfold yY
     rw[show eIx (eV 0) (eV 1) [.fz (.lst (ns.map .int)),.fz (.int (k:Nat))]=some (.int (ns.getD k 0)) from by
       show atI (ns.map D.int) (k:Nat)=_
       rw[fT,fX ns _ 0 (by omega) h]
       rfl]
     rfl))]
   rfl
 · refine⟨0,?_⟩
   rw[yQ (ρ':=[.fz (.lst (ns.map .int)),.fz (.int (k:Nat))]) ((wP t).trans (by rw[decide_eq_false h];rfl))]
   rfl
theorem zYy {n:Nat}(hn:n=2∨n=3)(x0 x2:B):∀(its:List D) (p:Nat) (x4 x5 x6:B),p*(2^n)^its.length<=2^200->0 < p ->
   ∃y4,rB (gN 4) wA its [x0,.fz (.int (n:Nat)),x2,.fz (.int (p:Nat)),x4,x5,x6]=some (.nx [x0,.fz (.int (n:Nat)),x2,.fz (.int ((p*(2^n)^its.length:Nat):Nat)),y4,x5,x6])
 | [],p,x4,x5,x6,_,_=>⟨x4,by simp[rB]⟩
 | d::r,p,x4,x5,x6,hp,h0=>by
   have hp':p*2^n*(2^n)^r.length<=2^200:=by
     rw[List.length_cons,Nat.pow_succ,Nat.mul_comm ((2^n)^r.length) (2^n),←Nat.mul_assoc] at hp
     exact hp
   obtain⟨y4,ih⟩:=zYy hn x0 x2 r (p*2^n) (.fz d) x5 x6 hp' (Nat.mul_pos h0 (Nat.pow_pos (by decide)))
   refine⟨y4,?_⟩
   have hple:p<=2^200:=by
     have h1:p*1<=p*2^n*(2^n)^r.length:=by
       rw[Nat.mul_assoc]
       exact Nat.mul_le_mul_left p (Nat.mul_pos (Nat.pow_pos (by decide)) (Nat.pow_pos (Nat.pow_pos (by decide))))
     omega
   have hb:Builtin.Int.intBits (p:Int)<=2097152:=iG (m:=201) (by
     rw[Int.natAbs_natCast]
     exact Nat.lt_of_le_of_lt hple (Nat.pow_lt_pow_right (by decide) (by decide))) (by decide)
   rw[rN (ρ1:=[x0,.fz (.int (n:Nat)),x2,.fz (.int (p:Nat)),.fz d,x5,x6]) (ρ2:=[x0,.fz (.int (n:Nat)),x2,.fz (.int ((p*2^n:Nat):Nat)),.fz d,x5,x6]) rfl ?_,ih]
   · rw[List.length_cons,Nat.pow_succ,Nat.mul_comm ((2^n)^r.length) (2^n),←Nat.mul_assoc]
   · unfold wA zK
     have hf:eIx (eL (yO (zZ (eC (.int 4)) (zZ (eC (.int 8)) zS)))) (mU (eV 1) (eC (.int 2))) [x0,.fz (.int (n:Nat)),x2,.fz (.int (p:Nat)),.fz d,x5,x6]=some (.int ((2^n:Nat):Nat)):=by
       rcases hn with rfl | rfl<;>kernel_rfl
     have hb2:Builtin.Int.intBits ((2^n:Nat):Int)<=2097152:=by rcases hn with rfl | rfl<;>decide
     rw[show mJ (eV 3) (eIx (eL (yO (zZ (eC (.int 4)) (zZ (eC (.int 8)) zS)))) (mU (eV 1) (eC (.int 2)))) [x0,.fz (.int (n:Nat)),x2,.fz (.int (p:Nat)),.fz d,x5,x6]=some (.int ((p*2^n:Nat):Nat)) from by
       rw[Int.natCast_mul]
       refine yK rfl hf ?_
       unfold cQ
       rw[decide_eq_true hb,decide_eq_true hb2];rfl]
     rfl
theorem zWv (x0 x1 x2 x4:B)(M p z:Int):sW [x0,x1,x2,.fz (.int M),x4,.fz (.int p),.fz (.int z)]=some (.rt (.int (if p=0 then 0 else if p=1 then M - 1 else z))):=by
 unfold sW
 by_cases h0:p=0
 · rw[if_pos h0,gH (d:=.int 0) ((wP (qV (x:=p) rfl)).trans (by rw[decide_eq_true h0];rfl))]
 · rw[if_neg h0,yQ ((wP (qV (x:=p) rfl)).trans (by rw[decide_eq_false h0];rfl))]
   unfold pD
   by_cases h1:p=1
   · rw[if_pos h1,gH (d:=.int (M - 1)) ((wP (qV (x:=p) rfl)).trans (by rw[decide_eq_true h1];rfl))]
   · rw[if_neg h1,yQ ((wP (qV (x:=p) rfl)).trans (by rw[decide_eq_false h1];rfl))]
     rfl
def zZt:Int:=7046029254386353131^(3:Int).toNat
def zYd (c M:Int):Int :=
 if (if (10:Int)^12<=c then c / 2^30 % 1024 % 5 else c % 5)=0 then 0 else if (if (10:Int)^12<=c then c / 2^30 % 1024 % 5 else c % 5)=1 then M - 1 else(if (10:Int)^12<=c then c / 2^40 % M else c*zZt % M)
theorem zSW (M:Int):zYd 1 M=M - 1:=by
 unfold zYd
 rw[if_neg (by decide),if_pos (by decide)]
theorem zUZ (c:Int){M:Int}(h:0 < M):0<=zYd c M/\zYd c M < M:=by
 unfold zYd
 have h1:=Int.emod_nonneg (c / 2^40) (Int.ne_of_gt h)
 have h2:=Int.emod_lt_of_pos (c / 2^40) h
 have h3:=Int.emod_nonneg (c*zZt) (Int.ne_of_gt h)
 have h4:=Int.emod_lt_of_pos (c*zZt) h
 generalize(if (10:Int)^12<=c then c / 2^30 % 1024 % 5 else c % 5)=p
 by_cases q0:p=0
 · rw[if_pos q0];omega
 · rw[if_neg q0]
   by_cases q1:p=1
   · rw[if_pos q1];omega
   · rw[if_neg q1]
     split
     · exact⟨h1,h2⟩
     · exact⟨h3,h4⟩
theorem cC {f:Ef}{ρ:List B}{c:Int}(h:f ρ=some (.int c)):eB2 gGe f (hJ (eC (.int 10)) (eC (.int 12))) ρ=some (decide ((10:Int)^12<=c)):=by
 unfold eB2
 rw[h,Option.bind_some,show hJ (eC (.int 10)) (eC (.int 12)) ρ=some (.int (10^12)) from yK (C:=zWz) (g:=fun i j=>i^j.toNat) (i:=10) (j:=12) rfl rfl (by decide),Option.bind_some]
 rfl
theorem zTy:Builtin.Int.intBits zZt<=2097152:=by decide +kernel
theorem zQ8 (ρ:List B):hJ (eC (.int 7046029254386353131)) (eC (.int 3)) ρ=some (.int zZt):=yK (C:=zWz) (g:=fun i j=>i^j.toNat) (i:=7046029254386353131) (j:=3) rfl rfl (by decide)
theorem zZS {n L:Nat}(hn:n=2∨n=3)(hL:L<=60)(c:Int)(hc:Builtin.Int.intBits c<=1048576):uW [.int c,.int (n:Nat),.int (L:Nat)]=some (.int (zYd c (((2^n)^L:Nat):Int))):=by
 have hle:(2^n)^L<=2^200:=by
   rw[←Nat.pow_mul]
   exact Nat.pow_le_pow_right (by decide) (Nat.le_trans (Nat.mul_le_mul (show n<=3 by omega) hL) (by decide))
 obtain⟨y4,e⟩:=zYy hn (.fz (.int c)) (.fz (.int (L:Nat))) (tI 0 L) 1 .no .no .no (by rw[rJ,Nat.one_mul];exact hle) (by decide)
 rw[rJ,Nat.one_mul] at e
 have hpos:0 < (2^n)^L:=Nat.pow_pos (Nat.pow_pos (by decide))
 generalize(2^n)^L=M at e hpos hle
 have hM:(0:Int) < (M:Nat):=by omega
 have hbig:∀x5:B,yG (mJ (eV 0) (hJ (eC (.int 7046029254386353131)) (eC (.int 3)))) (eV 3) [.fz (.int c),.fz (.int (n:Nat)),.fz (.int (L:Nat)),.fz (.int (M:Nat)),y4,x5,.no]=some (.int (c*zZt % (M:Nat))):=fun x5=>by
   refine yK (i:=c*zZt) (j:=(M:Nat)) (yK (g:=fun i j=>i*j) rfl (zQ8 _) ?_) rfl (decide_eq_true hM)
   unfold cQ
   rw[decide_eq_true (Nat.le_trans hc (by decide)),decide_eq_true zTy]
   rfl
 show(pJ [.fz (.int c),.fz (.int (n:Nat)),.fz (.int (L:Nat)),.no,.no,.no,.no]).bind xC=_
 unfold pJ
 refine wV (d:=.int 1) rfl ?_
 unfold pO
 refine xI (ρ':=[.fz (.int c),.fz (.int (n:Nat)),.fz (.int (L:Nat)),.fz (.int (M:Nat)),y4,.no,.no]) ?_ ?_
 · show wX (iR (eV 2)) (gN 4) wA [.fz (.int c),.fz (.int (n:Nat)),.fz (.int (L:Nat)),.fz (.int ((1:Nat):Nat)),.no,.no,.no]=_
   unfold wX
   rw[iRn (L:=L) rfl (by omega),Option.bind_some]
   exact e
 unfold pG
 refine wV (d:=.int (c % 5)) (yK rfl rfl rfl) ?_
 unfold pW
 dsimp only[List.set]
 refine wV (d:=.int (c*zZt % (M:Nat))) (hbig _) ?_
 unfold oW zYd
 dsimp only[List.set]
 by_cases h:(10:Int)^12<=c
 · rw[if_pos h,if_pos h]
   refine xI (ρ':=[.fz (.int c),.fz (.int (n:Nat)),.fz (.int (L:Nat)),.fz (.int (M:Nat)),y4,.fz (.int (c / 2^30 % 1024 % 5)),.fz (.int (c / 2^40 % (M:Nat)))]) ((wP (cC rfl)).trans ?_) ?_
   · rw[decide_eq_true h,if_pos rfl]
     rw[vF (d:=.int (c / 2^30 % 1024 % 5)) (yK (i:=c / 2^30 % 1024) (j:=5) (yK (i:=c / 2^30) (j:=1024) (yK (C:=fun _ j=>decide (0<=j)) (g:=fun i j=>i / 2^j.toNat) (i:=c) (j:=30) rfl rfl rfl) rfl rfl) rfl rfl)]
     dsimp only[List.set]
     unfold zK
     rw[show yG (aF (eV 0) (eC (.int 40))) (eV 3) [.fz (.int c),.fz (.int (n:Nat)),.fz (.int (L:Nat)),.fz (.int (M:Nat)),y4,.fz (.int (c / 2^30 % 1024 % 5)),.fz (.int (c*zZt % (M:Nat)))]=some (.int (c / 2^40 % (M:Nat))) from
       yK (i:=c / 2^40) (j:=(M:Nat)) (yK (C:=fun _ j=>decide (0<=j)) (g:=fun i j=>i / 2^j.toNat) (i:=c) (j:=40) rfl rfl rfl) rfl (decide_eq_true hM)]
     rfl
   · rw[zWv];rfl
 · rw[if_neg h,if_neg h]
   refine xI (ρ':=[.fz (.int c),.fz (.int (n:Nat)),.fz (.int (L:Nat)),.fz (.int (M:Nat)),y4,.fz (.int (c % 5)),.fz (.int (c*zZt % (M:Nat)))]) ((wP (cC rfl)).trans ?_) ?_
   · rw[decide_eq_false h];rfl
   · rw[zWv];rfl
theorem zZE (x0 x1 x2:B):∀(its:List D) (p:Int) (x4:B),∃y4,rB (gN 4) pU its [x0,x1,x2,.fz (.int p),x4]=some (.nx [x0,x1,x2,.fz (.int (p*2^its.length)),y4])
 | [],p,x4=>⟨x4,by simp[rB]⟩
 | d::r,p,x4=>by
   obtain⟨y4,ih⟩:=zZE x0 x1 x2 r (p+p) (.fz d)
   refine⟨y4,?_⟩
   rw[rN (ρ1:=[x0,x1,x2,.fz (.int p),.fz d]) (ρ2:=[x0,x1,x2,.fz (.int (p+p)),.fz d]) rfl rfl,ih]
   have:(p+p)*2^r.length=p*(2^r.length*2):=by rw[Int.add_mul,←Int.mul_assoc];omega
   rw[List.length_cons,Int.pow_succ,this]
def asI:D->Int | .int i=>i | _=>0
theorem zY1 {elt:Ef}{F:Int->Int}{rest:List B}{n:Nat}(hn:n<=1000)(h:∀i:Nat,i < n->elt (.fz (.int (i:Nat))::rest)=some (.int (F (i:Nat)))):((some (tI 0 n)).bind okL).bind (fun ds=>oA (gN 0) tOK elt ds (.no::rest) [])=some (((List.range n).map fun i=>F (i:Nat)).map D.int):=by
 rw[Option.bind_some,zZL (by rw[rJ];omega),Option.bind_some]
 rw[fZ (h:=fun d=>.int (F (asI d)))]
 · unfold tI
   rw[List.nil_append,List.map_map,List.map_map]
   congr 1
   refine List.map_congr_left fun i _=>?_
   show D.int (F (0+(i:Nat)))=D.int (F (i:Nat))
   rw[Int.zero_add]
 · intro d hd
   obtain⟨i,hi,rfl⟩:=zW3 hd
   rw[Int.zero_add]
   exact h i hi
theorem zTn {n L:Nat}(hn:n=2∨n=3)(hL:L<=60)(c:Int)(hc:Builtin.Int.intBits c<=1048576):∃y:Nat->Int,(∀i,0<=y i/\y i < 2^L)/\rD [.int c,.int (n:Nat),.int (L:Nat)]=some (zE ((List.range n).map y)):=by
 obtain⟨y4,e⟩:=zZE (.fz (.int c)) (.fz (.int (n:Nat))) (.fz (.int (L:Nat))) (tI 0 L) 1 .no
 rw[rJ,Int.one_mul] at e
 have hS:(0:Int) < 2^L:=Int.pow_pos (by decide)
 generalize(2:Int)^L=S at e hS
 have hmod:∀x:Int,0<=x % S/\x % S < S:=fun x=>⟨Int.emod_nonneg _ (Int.ne_of_gt hS),Int.emod_lt_of_pos _ hS⟩
 have go:∀r,(uD [.fz (.int c),.fz (.int (n:Nat)),.fz (.int (L:Nat)),.fz (.int S),y4]).bind xC=r->rD [.int c,.int (n:Nat),.int (L:Nat)]=r:=fun r h=>by
   show(nP [.fz (.int c),.fz (.int (n:Nat)),.fz (.int (L:Nat)),.no,.no]).bind xC=_
   unfold nP
   refine wV (d:=.int 1) rfl ?_
   unfold nU
   refine xI (ρ':=[.fz (.int c),.fz (.int (n:Nat)),.fz (.int (L:Nat)),.fz (.int S),y4]) ?_ h
   dsimp only[List.set]
   unfold wX
   rw[iRn (L:=L) rfl (by omega),Option.bind_some]
   exact e
 by_cases h:(10:Int)^12<=c
 · refine⟨fun i=>c / 2^(220+(L:Int)*(i:Nat)).toNat % S,fun i=>hmod _,go _ ?_⟩
   have el:∀i:Nat,i < n->yG (aF (eV 2) (vT (eC (.int 220)) (mJ (eV 3) (eV 0)))) (eV 1) (.fz (.int (i:Nat))::[.fz (.int S),.fz (.int c),.fz (.int (L:Nat))])=some (.int (c / 2^(220+(L:Int)*(i:Nat)).toNat % S)):=fun i hi=>by
     have b1:Builtin.Int.intBits ((L:Nat):Int)<=2097152:=iG (m:=10) (by omega) (by decide)
     have b2:Builtin.Int.intBits ((i:Nat):Int)<=2097152:=iG (m:=10) (by omega) (by decide)
     have h0:(0:Int)<=(L:Int)*(i:Nat):=Int.mul_nonneg (by omega) (by omega)
     refine yK (i:=c / 2^(220+(L:Int)*(i:Nat)).toNat) (j:=S) (yK (C:=fun _ j=>decide (0<=j)) (g:=fun i j=>i / 2^j.toNat) (i:=c) (j:=220+(L:Int)*(i:Nat)) rfl (yK (g:=fun i j=>i+j) rfl (yK (g:=fun i j=>i*j) rfl rfl ?_) rfl) (decide_eq_true (by omega))) rfl (decide_eq_true hS)
     unfold cQ
     rw[decide_eq_true b1,decide_eq_true b2]
     rfl
   have ec:=zY1 (F:=fun k=>c / 2^(220+(L:Int)*k).toNat % S) (by omega) el
   unfold uD
   refine Eq.trans (congrArg (fun o=>Option.bind o xC) (gH (d:=zE ((List.range n).map fun i=>c / 2^(220+(L:Int)*(i:Nat)).toNat % S)) ((wP (cC rfl)).trans ?_))) rfl
   rw[decide_eq_true h,if_pos rfl]
   unfold yY xR
   rw[zZa (ds:=((List.range n).map fun i=>c / 2^(220+(L:Int)*(i:Nat)).toNat % S).map D.int) (by
     unfold yV
     rw[iRn (L:=n) rfl (by omega)]
     exact ec)]
   rfl
 · refine⟨fun i=>c*(7046029254386353131+2*((i:Nat):Int))^(2:Int).toNat % S,fun i=>hmod _,go _ ?_⟩
   have el:∀i:Nat,i < n->yG (mJ (eV 2) (hJ (vT (eC (.int 7046029254386353131)) (mJ (eC (.int 2)) (eV 0))) (eC (.int 2)))) (eV 1) (.fz (.int (i:Nat))::[.fz (.int S),.fz (.int c)])=some (.int (c*(7046029254386353131+2*((i:Nat):Int))^(2:Int).toNat % S)):=fun i hi=>by
     have hi3:i=0∨i=1∨i=2:=by omega
     have b2:Builtin.Int.intBits ((7046029254386353131+2*((i:Nat):Int))^(2:Int).toNat)<=2097152:=by rcases hi3 with rfl | rfl | rfl<;>decide +kernel
     have b3:zWz (7046029254386353131+2*((i:Nat):Int)) 2=true:=by rcases hi3 with rfl | rfl | rfl<;>decide +kernel
     have b4:cQ 2 ((i:Nat):Int)=true:=by rcases hi3 with rfl | rfl | rfl<;>decide +kernel
     refine yK (i:=c*(7046029254386353131+2*((i:Nat):Int))^(2:Int).toNat) (j:=S) (yK (g:=fun i j=>i*j) rfl (yK (C:=zWz) (g:=fun i j=>i^j.toNat) (i:=7046029254386353131+2*((i:Nat):Int)) (j:=2) (yK (g:=fun i j=>i+j) (i:=7046029254386353131) (j:=2*((i:Nat):Int)) rfl (yK (C:=cQ) (g:=fun i j=>i*j) (i:=2) (j:=((i:Nat):Int)) rfl rfl b4) rfl) rfl b3) ?_) rfl (decide_eq_true hS)
     unfold cQ
     rw[decide_eq_true (Nat.le_trans hc (by decide)),decide_eq_true b2]
     rfl
   have ec:=zY1 (F:=fun k=>c*(7046029254386353131+2*k)^(2:Int).toNat % S) (by omega) el
   unfold uD
   refine xI (ρ':=[.fz (.int c),.fz (.int (n:Nat)),.fz (.int (L:Nat)),.fz (.int S),y4]) ((wP (cC rfl)).trans (by rw[decide_eq_false h];rfl)) ?_
   unfold nW yY xR
   rw[zZa (ds:=((List.range n).map fun i=>c*(7046029254386353131+2*((i:Nat):Int))^(2:Int).toNat % S).map D.int) (by
     unfold yV
     rw[iRn (L:=n) rfl (by omega)]
     exact ec)]
   rfl
theorem zNW (n:Nat)(S:Int)(xs:List Int)(hl:xs.length=n)(hb:∀x∈xs,0<=x/\x < S):fB [zE xs,.int (n:Nat),.int S]=some (.bl true):=by
 show(iD [.fz (zE xs),.fz (.int (n:Nat)),.fz (.int S),.no]).bind xC=_
 unfold iD
 refine zWN ?_ ?_
 · have g:gNe (.int ((xs.map D.int).length:Nat)) (.int (n:Nat))=some false:=by
     rw[List.length_map,hl]
     show(some (decide _)).map _=_
     rw[decide_eq_true rfl];rfl
   show(gNe (.int ((xs.map D.int).length:Nat)) (.int (n:Nat)))=_
   exact g
 unfold gY
 obtain⟨ρ',e,x3,rfl⟩:=fM (g:=gN 3) (body:=oB) (P:=fun ρ=>∃x3,ρ=[.fz (zE xs),.fz (.int (n:Nat)),.fz (.int S),x3]) (xs.map D.int) (fun d hd ρ hρ=>by
     obtain⟨x,hx,rfl⟩:=List.mem_map.mp hd
     obtain⟨x3,rfl⟩:=hρ
     refine⟨[.fz (zE xs),.fz (.int (n:Nat)),.fz (.int S),.fz (.int x)],[.fz (zE xs),.fz (.int (n:Nat)),.fz (.int S),.fz (.int x)],rfl,?_,_,rfl⟩
     obtain⟨h1,h2⟩:=hb x hx
     unfold oB
     refine(wP (b:=false) ?_).trans rfl
     show(xS (eB3 gLe gLt (eC (.int 0)) (eV 3) (eV 2)) [.fz (zE xs),.fz (.int (n:Nat)),.fz (.int S),.fz (.int x)])=_
     simp[xS,eB3,gLe,gLt,eC,eV,sK,h1,h2]) [.fz (zE xs),.fz (.int (n:Nat)),.fz (.int S),.no] ⟨_,rfl⟩
 refine xI (ρ':=[.fz (zE xs),.fz (.int (n:Nat)),.fz (.int S),x3]) ?_ rfl
 unfold wX
 show(some (xs.map D.int)).bind _=_
 exact e
theorem zZZ (x0 x1 x2 x3 x6 x7 x8 x9 x10:B):∀(its:List D) (p:Int) (x5:B),∃y5,rB (gN 5) vI its [x0,x1,x2,x3,.fz (.int p),x5,x6,x7,x8,x9,x10]=some (.nx [x0,x1,x2,x3,.fz (.int (p*2^its.length)),y5,x6,x7,x8,x9,x10])
 | [],p,x5=>⟨x5,by simp[rB]⟩
 | d::r,p,x5=>by
   obtain⟨y5,ih⟩:=zZZ x0 x1 x2 x3 x6 x7 x8 x9 x10 r (p+p) (.fz d)
   refine⟨y5,?_⟩
   rw[rN (ρ1:=[x0,x1,x2,x3,.fz (.int p),.fz d,x6,x7,x8,x9,x10]) (ρ2:=[x0,x1,x2,x3,.fz (.int (p+p)),.fz d,x6,x7,x8,x9,x10]) rfl rfl,ih]
   have:(p+p)*2^r.length=p*(2^r.length*2):=by rw[Int.add_mul,←Int.mul_assoc];omega
   rw[List.length_cons,Int.pow_succ,this]
theorem zRh {n L:Nat}(hn:n=2∨n=3)(hL:L<=60)(cv:D)(pl:Nat->List Int)
   (hp:∀a,a < (2^n)^L->sH [cv,.int (L:Nat),.int (a:Nat)]=some (zE (pl a)))
   (hq:∀a,a < (2^n)^L->vO [cv,.int (L:Nat),zE (pl a)]=some (.int (a:Nat)))
   (hl:∀a,a < (2^n)^L->(pl a).length=n) (hb:∀a,a < (2^n)^L->∀x∈pl a,0<=x/\x < 2^L)
   (ho:∀y:Nat->Int,(∀i < n,0<=y i/\y i < 2^L)->∃a,a < (2^n)^L/\pl a=(List.range n).map y)
   (c:Int) (hc:Builtin.Int.intBits c<=1048576):wO [cv,.int (n:Nat),.int (L:Nat),.int c]=some (.bl true):=by
 have e1:=zZS hn hL 1 (by decide)
 have e2:=zZS hn hL c hc
 rw[zSW] at e1
 obtain⟨y,hy,e3⟩:=zTn hn hL c hc
 obtain⟨b,hbM,hby⟩:=ho y fun i _=>hy i
 rw[←hby] at e3
 have hpos:0 < (2^n)^L:=Nat.pow_pos (Nat.pow_pos (by decide))
 obtain⟨h1,h2⟩:=zUZ c (M:=(((2^n)^L:Nat):Int)) (by omega)
 obtain⟨a,ha,haM⟩:∃a:Nat,zYd c (((2^n)^L:Nat):Int)=(a:Nat)/\a < (2^n)^L:=⟨(zYd c (((2^n)^L:Nat):Int)).toNat,by omega,by omega⟩
 rw[ha] at e2
 have pa:=hp a haM
 have pb:=hp b hbM
 have qa:=hq a haM
 have qb:=hq b hbM
 have la:=hl a haM
 have lb:=hl b hbM
 have ba:=hb a haM
 have inj:(b=a)↔(pl b=pl a):=⟨fun h=>by rw[h],fun h=>by
   rw[h,qa] at qb
   have:=Option.some.inj qb
   injection this with this
   omega⟩
 have ge:zXO (zE (pl b)) (zE (pl a))=some (decide (pl b=pl a)):=zUh (by rw[la,lb])
 generalize hA:pl a=A at pa qa la ba inj ge
 generalize hBB:pl b=Bp at pb qb lb e3 inj ge
 have eon:=zNW n (2^L) A la ba
 have s1:rX [.int (a:Nat),.int (a:Nat)]=some (.bl true):=eJ 3 _ rfl
 have s2:rX [zE Bp,zE Bp]=some (.bl true):=eJ 3 _ (zNE (n:=1) (by omega))
 obtain⟨y5,eS⟩:=zZZ (.fz cv) (.fz (.int (n:Nat))) (.fz (.int (L:Nat))) (.fz (.int c)) .no .no .no .no .no (tI 0 L) 1 .no
 rw[rJ,Int.one_mul] at eS
 generalize(2:Int)^L=S at eS eon
 generalize hM:(2^n)^L=M at e1 hbM haM
 show(uG [.fz cv,.fz (.int (n:Nat)),.fz (.int (L:Nat)),.fz (.int c),.no,.no,.no,.no,.no,.no,.no]).bind xC=_
 unfold uG
 refine wV (d:=.int 1) rfl ?_
 unfold uH
 refine xI (ρ':=[.fz cv,.fz (.int (n:Nat)),.fz (.int (L:Nat)),.fz (.int c),.fz (.int S),y5,.no,.no,.no,.no,.no]) ?_ ?_
 · dsimp only[List.set]
   unfold wX
   rw[iRn (L:=L) rfl (by omega),Option.bind_some]
   exact eS
 unfold uO
 refine wV (d:=.int ((M:Nat) - 1)) ((tQ rfl rfl rfl).trans e1) ?_
 unfold uF
 dsimp only[List.set]
 refine wV (d:=.int (a:Nat)) ((tQ rfl rfl rfl).trans e2) ?_
 unfold uS
 dsimp only[List.set]
 refine wV (d:=zE A) ((tQ rfl rfl rfl).trans pa) ?_
 unfold uI
 dsimp only[List.set]
 refine zWN (by
   unfold rV
   rw[zUu ((tQ rfl rfl rfl).trans eon),Option.bind_some,if_neg (by decide)]
   exact zUu ((rC ((tQ rfl rfl rfl).trans qa) rfl).trans s1)) ?_
 unfold uK
 refine wV (d:=zE Bp) ((tQ rfl rfl rfl).trans e3) ?_
 unfold uR
 dsimp only[List.set]
 refine wV (d:=.int (b:Nat)) ((tQ rfl rfl rfl).trans qb) ?_
 unfold uP
 dsimp only[List.set]
 refine zWN (by
   show(xS (eB3 gLe gLe (eC (.int 0)) (eV 10) (eV 6)) [.fz cv,.fz (.int (n:Nat)),.fz (.int (L:Nat)),.fz (.int c),.fz (.int S),y5,.fz (.int ((M:Nat) - 1)),.fz (.int (a:Nat)),.fz (zE A),.fz (zE Bp),.fz (.int (b:Nat))])=_
   have z1:decide ((0:Int)<=(b:Nat))=true:=decide_eq_true (by omega)
   have z2:decide (((b:Nat):Int)<=(M:Nat) - 1)=true:=decide_eq_true (by omega)
   show((some (decide ((0:Int)<=(b:Nat)))).bind fun k=>if k=true then some (decide (((b:Nat):Int)<=(M:Nat) - 1)) else some false).map _=_
   rw[z1,z2];rfl) ?_
 unfold uQ
 refine zWN (by
   show Option.bind (Option.map D.bl (some (((b:Nat):Int)==((a:Nat):Int)))) (fun x=>Option.bind (Option.map D.bl (zXO (zE Bp) (zE A))) fun y=>eR x y)=_
   rw[ge]
   show(some ((((b:Nat):Int)==((a:Nat):Int))==decide (Bp=A))).map _=_
   have:(((b:Nat):Int)==((a:Nat):Int))=decide (Bp=A):=by
     rw[Bool.eq_iff_iff,decide_eq_true_eq,←inj,beq_iff_eq]
     omega
   rw[this]
   simp) ?_
 unfold vC yY
 rw[rC ((tQ rfl rfl rfl).trans pb) (show eV 9 _=some (zE Bp) from rfl),s2]
 rfl
theorem dF (c s f:Int):0<=bI c s f:=by
 unfold bI zOF
 split<;>omega
theorem sq {f g:Sf}{ρ ρ':List B}{r:Option Out}(h:f ρ=some (.nx ρ'))(k:g ρ'=r):zM f g ρ=r:=by rw[yQ h];exact k
theorem zRB {n:Nat}(cv:D)(x0 x1 x3 x7:B)(s c:Int)(h:∀L,L<=60->wO [cv,.int (n:Nat),.int (L:Nat),.int c]=some (.bl true)) :
   ∃s' y7,kG [x0,x1,.fz (.int (n:Nat)),x3,.fz cv,.fz (.int s),.fz (.int c),x7]=some (.nx [x0,x1,.fz (.int (n:Nat)),x3,.fz cv,.fz (.int s'),.fz (.int c),y7]):=by
 have e1:=eY c 0 48271 (by decide) (by decide) (by decide) (by decide)
 obtain⟨L,hL,e2⟩:=zSu (bI c 0 48271) (dF _ _ _)
 have fin:∀L':Nat,L'<=60->∃s' y7,fY [x0,x1,.fz (.int (n:Nat)),x3,.fz cv,.fz (.int s),.fz (.int c),.fz (.int (L':Nat))]=some (.nx [x0,x1,.fz (.int (n:Nat)),x3,.fz cv,.fz (.int s'),.fz (.int c),y7]):=fun L' hL'=>by
   refine⟨s+(L':Nat),.fz (.int (L':Nat)),?_⟩
   unfold fY
   rw[vF (d:=.int (s+(L':Nat))) (yK rfl rfl rfl)]
   unfold aC
   dsimp only[List.set]
   exact(wP (zUu ((zOj rfl rfl rfl rfl).trans (h L' hL')))).trans rfl
 have t:eB2 gGt (eV 5) (eC (.int 700)) [x0,x1,.fz (.int (n:Nat)),x3,.fz cv,.fz (.int s),.fz (.int c),.fz (.int (L:Nat))]=some (decide ((700:Int) < s)):=rfl
 unfold kG
 rw[vF ((fP ((tQ rfl rfl rfl).trans e1)).trans e2)]
 unfold aY
 dsimp only[List.set]
 by_cases h7:(700:Int) < s
 · obtain⟨s',y7,e⟩:=fin ((L % 6:Nat)) (by omega)
   refine⟨s',y7,sq (ρ':=[x0,x1,.fz (.int (n:Nat)),x3,.fz cv,.fz (.int s),.fz (.int c),.fz (.int ((L % 6:Nat):Nat))]) ((wP t).trans ?_) e⟩
   rw[decide_eq_true h7,if_pos rfl]
   unfold zK
   rw[show yG (eV 7) (eC (.int 6)) [x0,x1,.fz (.int (n:Nat)),x3,.fz cv,.fz (.int s),.fz (.int c),.fz (.int (L:Nat))]=some (.int ((L % 6:Nat):Nat)) from by
     rw[Int.natCast_emod]
     exact yK rfl rfl rfl]
   rfl
 · obtain⟨s',y7,e⟩:=fin L hL
   exact⟨s',y7,sq ((wP t).trans (by rw[decide_eq_false h7];rfl)) e⟩
theorem zSo {n:Nat}(ns:List Int)(h:ns.length<=63)(hbit:∀n∈ns,Builtin.Int.intBits n<=1048576)(cv:D)(x1 x3:B)(hu:∀(L:Nat) (c:Int),L<=60->Builtin.Int.intBits c<=1048576->wO [cv,.int (n:Nat),.int (L:Nat),.int c]=some (.bl true)) :
   (cB [.fz (.lst (ns.map .int)),x1,.fz (.int (n:Nat)),x3,.fz cv,.no,.no,.no]).bind xC=some (.bl true):=by
 obtain⟨cs,hcs,hsub,hlen⟩:∃cs:List Int,zQ7 (ns.map D.int) (some 2) (some 62)=cs.map D.int/\(∀c∈cs,c∈ns)/\cs.length<=63:=by
   unfold zQ7
   refine⟨(ns.drop (HT.sIx (ns.map D.int).length 0 (some 2))).take (HT.sIx (ns.map D.int).length (ns.map D.int).length (some 62) - HT.sIx (ns.map D.int).length 0 (some 2)),?_,fun c hc=>List.mem_of_mem_drop (List.mem_of_mem_take hc),?_⟩
   · rw[List.map_take,List.map_drop]
   · rw[List.length_take,List.length_drop]
     omega
 have src:∀x5 x6 x7:B,hG (lJ (eV 0) (qM (eC (.int 2))) (qM (eC (.int 62)))) (yO (zZ (eC (.int 17)) zS)) [.fz (.lst (ns.map .int)),x1,.fz (.int (n:Nat)),x3,.fz cv,x5,x6,x7]=some ((cs++[17]).map .int):=fun x5 x6 x7=>by
   have e2:lJ (eV 0) (qM (eC (.int 2))) (qM (eC (.int 62))) [.fz (.lst (ns.map .int)),x1,.fz (.int (n:Nat)),x3,.fz cv,x5,x6,x7]=some (cs.map .int):=by
     simp only[lJ,qM,eV,eC,sK,List.getElem?_cons_zero,Option.bind_some,hcs]
   have e1:yO (zZ (eC (.int 17)) zS) [.fz (.lst (ns.map .int)),x1,.fz (.int (n:Nat)),x3,.fz cv,x5,x6,x7]=some [.int 17]:=rfl
   unfold hG
   rw[e2,e1,Option.bind_some,Option.bind_some]
   rw[zZL (by simp;omega),List.map_append]
   rfl
 obtain⟨ρ',e,s',y6,y7,rfl⟩:=fM (g:=gN 6) (body:=kG) (P:=fun ρ=>∃s y6 y7,ρ=[.fz (.lst (ns.map .int)),x1,.fz (.int (n:Nat)),x3,.fz cv,.fz (.int s),y6,y7]) ((cs++[17]).map .int) (fun d hd ρ hρ=>by
     obtain⟨c,hcm,rfl⟩:=List.mem_map.mp hd
     obtain⟨s,y6,y7,rfl⟩:=hρ
     have hbc:Builtin.Int.intBits c<=1048576:=by
       rcases List.mem_append.mp hcm with z | z
       · exact hbit c (hsub c z)
       · rw[List.mem_singleton.mp z];decide
     obtain⟨s',z7,e⟩:=zRB cv (.fz (.lst (ns.map .int))) x1 x3 y7 s c fun L hL=>hu L c hL hbc
     exact⟨_,_,rfl,e,_,_,_,rfl⟩) [.fz (.lst (ns.map .int)),x1,.fz (.int (n:Nat)),x3,.fz cv,.fz (.int 0),.no,.no] ⟨_,_,_,rfl⟩
 unfold cB
 refine wV (d:=.int 0) rfl ?_
 unfold zXT
 dsimp only[List.set]
 refine xI (g:=zXt) (ρ':=[.fz (.lst (ns.map .int)),x1,.fz (.int (n:Nat)),x3,.fz cv,.fz (.int s'),y6,y7]) ?_ rfl
 unfold wX
 rw[src,Option.bind_some]
 exact e
end My
namespace My
open PySem L2
theorem zRZ (ns:List Int)(h:ns.length<=63)(hb:∀n∈ns,Builtin.Int.intBits n<=1048576):zYX [.lst (ns.map .int)]=some (.bl true):=by
 obtain⟨c0,q0⟩:=bS ns 0
 obtain⟨c1,q1⟩:=bS ns 1
 have e1:=eY c0 0 69621 (by decide) (by decide) (by decide) (by decide)
 have r0:0<=bI c0 0 69621:=dF _ _ _
 generalize bI c0 0 69621=r at e1 r0
 obtain⟨n,hn,hnn⟩:∃n:Nat,(n=2∨n=3)/\(2+r % 2)=(n:Int):=by
   rcases bit r with h | h
   · exact⟨2,.inl rfl,by omega⟩
   · exact⟨3,.inr rfl,by omega⟩
 obtain⟨ps,ok,e3⟩:=zR3 hn c1
 have e4:=zQZ hn ok
 have e5:=of_eq hn ok _ rfl
 show(zXG [.fz (.lst (ns.map .int)),.no,.no,.no,.no,.no,.no,.no]).bind xC=_
 unfold zXG
 refine wV (d:=.int r) ((tQ ((rC rfl rfl).trans q0) rfl rfl).trans e1) ?_
 unfold zXZ
 dsimp only[List.set]
 refine wV (d:=.int (n:Nat)) (by rw[←hnn];exact yK rfl (yK rfl rfl rfl) rfl) ?_
 unfold zYe
 dsimp only[List.set]
 refine wV (d:=.lst (ps.map yH)) (zZa ((hU rfl ((rC rfl rfl).trans q1)).trans e3)) ?_
 unfold zYu
 dsimp only[List.set]
 refine wV (d:=yL n false ps) ((fP ((tQ rfl rfl rfl).trans e4)).trans e5) ?_
 dsimp only[List.set]
 refine zSo ns h hb (yL n false ps) _ _ fun L c hL hc=>zRh hn hL _ (fun a=>plW ps n (wM n) false (fun _=>0) (vB ps.length a L).reverse) (fun a ha=>zRs hn ok false hL (by rw[ok.len];exact ha)) (fun a ha=>zUb hn ok false hL (by rw[ok.len];exact ha)) (fun a _=>by simp[plW]) (fun a ha x hx=>?_) (fun y hy=>?_) c hc
 · have hB:0 < ps.length:=by rw[ok.len];exact Nat.pow_pos (by decide)
   have hlen:(vB ps.length a L).reverse.length=L:=by rw[List.length_reverse,bQ]
   unfold plW at hx
   obtain⟨i,_,rfl⟩:=List.mem_map.mp hx
   have:=fF hn ok i (vB ps.length a L).reverse (wM n) false (mM hn) fun d hd=>bW hB L a d (List.mem_reverse.mp hd)
   rwa[hlen] at this
 · obtain⟨a,h1,h2⟩:=zUW hn ok L y hy
   exact⟨a,by rw[←ok.len];exact h1,h2⟩
end My
open PySem PySem.W PyProof.Rows
set_option maxRecDepth 100000 in
set_option maxHeartbeats 0 in
theorem PySem.Challenge.cw_curveyard_k50_whole_number_and_place_holds : PySem.Challenge.rw_curveyard_k50_whole_number_and_place.Holds := by
 w_on;o_law
 refine PySem.W.holds_open (r:=PySem.Challenge.rw_curveyard_k50_whole_number_and_place.row) (q:=My.oM) (loose:=My.loose) (XP:=PySem.W.XL My.oM [])
   (YP:=PySem.W.InK My.zVL) My.zQB (PySem.W.InK.of My.zWa) PySem.W.InK.keeps
   (fun s e=>PySem.W.xl_of s (Bool.and_eq_true_iff.mp e).1) PySem.W.XL.keeps (by rfl) (by rfl) (by rfl)
   (fun s e=>PySem.W.recFacts_of (Bool.and_eq_true_iff.mp e).2) (by rfl) (by assumption) (by decide +kernel)
   ⟨rfl,rfl,rfl,rfl,rfl,by decide +kernel⟩ ?hw ?hc
 case hw=>w_witness2
 k_fill
 refine L2.zTU (l:=PySem.Challenge.rw_curveyard_k50_whole_number_and_place) (n:=63) (k:=7) (x:="_law_script") (CX:=fun _=>L2.CX0) (sp:=fun w=>L2.spF _ 1 My.zYX) rfl (by decide) rfl ⟨rfl,by decide,by decide⟩ (fun w h Y=>Y) ?F (fun w H a ns hl hb hO hS=>My.zOT hS (My.zRZ ns hl hb)) (fun _ _ _ _ _ z=>z)
 case F =>
   intro w mg fa h KX G hmg
   refine' My.zOP KX G hmg ?a0 ?l0 ?c0 ?k0 ?a1 ?l1 ?c1 ?k1 ?a2 ?l2 ?c2 ?k2 ?a3 ?l3 ?c3 ?k3 ?a4 ?l4 ?c4 ?k4 ?a5 ?l5 ?c5 ?k5 ?a6 ?l6 ?c6 ?k6 ?a7 ?l7 ?c7 ?k7 ?a8 ?l8 ?c8 ?k8 ?a9 ?l9 ?c9 ?k9 ?a10 ?l10 ?c10 ?k10 ?a11 ?l11 ?c11 ?k11 ?a12 ?l12 ?c12 ?k12 ?a13 ?l13 ?c13 ?k13 ?a14 ?l14 ?c14 ?k14 ?a15 ?l15 ?c15 ?k15 ?a16 ?l16 ?c16 ?k16 ?a17 ?l17 ?c17 ?k17 ?a18 ?l18 ?c18 ?k18 ?a19 ?l19 ?c19 ?k19 ?a20 ?l20 ?c20 ?k20 ?a21 ?l21 ?c21 ?k21 ?a22 ?l22 ?c22 ?k22 ?a23 ?l23 ?c23 ?k23 ?a24 ?l24 ?c24 ?k24 ?a25 ?l25 ?c25 ?k25 ?a26 ?l26 ?c26 ?k26 ?a27 ?l27 ?c27 ?k27 ?a28 ?l28 ?c28 ?k28 ?a29 ?l29 ?c29 ?k29 ?a30 ?l30 ?c30 ?k30 ?a31 ?l31 ?c31 ?k31 ?a32 ?l32 ?c32 ?k32 ?a33 ?l33 ?c33 ?k33 ?a34 ?l34 ?c34 ?k34 ?a35 ?l35 ?c35 ?k35 ?a36 ?l36 ?c36 ?k36 ?a37 ?l37 ?c37 ?k37 ?a38 ?l38 ?c38 ?k38 ?a39 ?l39 ?c39 ?k39 ?a40 ?l40 ?c40 ?k40 ?a41 ?l41 ?c41 ?k41 ?a42 ?l42 ?c42 ?k42 ?a43 ?l43 ?c43 ?k43 ?a44 ?l44 ?c44 ?k44 ?a45 ?l45 ?c45 ?k45 ?a46 ?l46 ?c46 ?k46 ?a47 ?l47 ?c47 ?k47 ?a48 ?l48 ?c48 ?k48 ?ca0 ?ci0 ?cn0 ?cl0 ?cc0 ?ck0 ?cpg0 ?chd0 ?cpo0 ?csa0 ?cmk0 ?ckc0 ?cf0_back ?cf0_corner ?cf0_turn ?ca1 ?ci1 ?cn1 ?cl1 ?cc1 ?ck1 ?cpg1 ?chd1 ?cpo1 ?csa1 ?cmk1 ?ckc1 ?cf1_dims ?cf1_joined ?cf1_name ?cf1_parts ?g_BITS ?g_FLIPS ?g_AXES ?g_LETTERS ?g_LONGEST_WORD ?g_PROMISES ?dl_PROMISES ?ds_PROMISES ?g_DIMS ?dl_DIMS ?ds_DIMS ?z_abs ?z_all ?z_bool ?z_int ?z_isinstance ?z_len ?z_list ?z_min ?z_range ?z_reversed ?z_sorted ?z_str ?z_sum ?z_tuple ?z_zip
   all_goals (try k_is)
   all_goals kernel_rfl

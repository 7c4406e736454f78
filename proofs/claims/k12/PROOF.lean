import PyProof.Rows.All
import OpenK.KLine
import KE.KItem
import Wide.Once
import Wide.FinOn
import Lean
import PyProof.EqAt
import PyProof.EqKinds
import PyProof.TupleCall
import PyProof.TupleKey
import KE.KIntText
import KE.IntTextLaws
import OpenK.KOwn
import KE.KIsAll
import PyProof.InstStoreFacts
import PyProof.RaisesMany
import PyProof.RulesAs
import KE.KTryMore
import PyProof.MaxThree
import PyProof.WalkInts
import KE.KRevIter
import PyProof.ListRange
import KE.RegMulBits
import PyProof.ReprRoads
import PyProof.ReprLen
import PyProof.Rows.SumAny
import PyProof.Rows.RuleN_abs
import Wide.Seal
import PyProof.FactsAll.bool_1
import PyProof.DictRoadsH
import PyProof.MinMaxWalk
import PyProof.Rows.CallKwBuiltin
import PyProof.ZipIter
import PyProof.StrLaws
import PyProof.Rows.FStr
import PyProof.Rows.StrNews
import PyProof.Rows.StrItems
import PyProof.StrLawsChain
import PyProof.StrLawsTight
import PyProof.StrCalls
import PyProof.LongRange
import OpenK.KTop
import PySem.Challenge.RW_curveyard_k12_promises_asked
set_option Elab.async false
set_option Elab.async false
set_option linter.all false
set_option maxRecDepth 100000
set_option maxRecDepth 100000
noncomputable section
section
open PySem PySem.Spec PyProof.Rows
def Qq:=@Option.bind_eq_some_iff
def Qw:=@wpAny_bind
def Qe:=@Option.bind_some
def Qr:=@Heap.get?_push_of_some
def Qt:=@Option.map_eq_some_iff
def Qy:=@Heap.lt_size
def Qu:=@List.getElem?_eq_getElem
def Qi:=@wpAny_pure
def Qo:=@List.length_map
def Qp:=@List.length_cons
def Qa:=@Heap.get?_push_size
def Qs:=@List.size_toArray
def Qd:=@List.mem_cons_of_mem
def Qf:=@List.mem_cons_self
def Qg:=@List.map_cons
def Qh:=@List.all_eq_true
def Qj:=@List.mem_cons
def Qk:=@List.getElem?_eq_some_iff
def Ql:=@Nat.le_refl
def Qz:=@List.getElem?_cons_succ
def Qx:=@Bool.and_eq_true
def Qc:=@decide_eq_true
def Qv:=@decide_eq_false
def Qb:=@Bool.false_ne_true
def Qn:=@if_pos
def Qm:=@List.getElem?_cons_zero
def Wq:=@List.getElem?_map
def Ww:=@wpAny_loadPart_at
def We:=@Nat.lt_of_lt_of_le
def Wr:=@List.length_append
def Wt:=@Nat.lt_irrefl
def Wy:=@Option.map_some
def Wu:=@Nat.ne_of_lt
def Wi:=@List.getElem?_set_ne
def Wo:=@List.getD_eq_getElem?_getD
def Wp:=@Bool.false_eq_true
def Wa:=@Option.some.inj
def Ws:=@List.not_mem_nil
def Wd:=@if_neg
def Wf:=@List.mem_singleton
def Wg:=@List.mem_map
def Wh:=@List.append_nil
def Wj:=@Nat.le_of_lt
def Wk:=@Heap.get?_update_self
def Wl:=@List.replicate_succ
def Wz:=@Heap.get?_update_other
def Wx:=@PySem.F.plainAttrs_str
def Wc:=@decide_eq_true_eq
def Wv:=@List.mem_append_right
def Wb:=@List.map_append
def Wn:=@wpAny_field
def Wm:=@beq_iff_eq
def Ew:=@Around.under_plainId
def Ee:=@Bool.and_eq_true_iff
def Er:=@List.lookup_cons
def Et:=@PyProof.Rows.callWith_type1
def Ey:=@wpAny_seqItems
def Eu:=@Nat.le_trans
def Ei:=@beq_eq_false_iff_ne
def Eo:=@PassesOwn.never
def Ep:=@List.getElem?_append_right
def Ea:=@List.getElem?_set_self
def Es:=@List.mem_range
def Ed:=@codeAny_builtin
def Eg:=@Heap.size_push
def Eh:=@List.mem_append
def Ej:=@plainId_quiet
def Ek:=@List.length_nil
def El:=@PySem.F.plainAttrs_list
def Ez:=@PySem.mem_of_lookup
def Ex:=@wpAny_holding
def Ec:=@List.getElem?_append_left
def Ev:=@Nat.add_assoc
def Eb:=@List.nil_append
def En:=@Bool.or_eq_true
def Em:=@List.getElem?_eq_none
def Rq:=@wpAny_mono
def Rw:=@Option.isSome_iff_exists
def Re:=@List.getElem?_replicate
def Rr:=@wpAny_callSpecial?_slot
def Rt:=@Int.toNat_natCast
def Ry:=@wpAny_newObj_type
def Ru:=@of_decide_eq_true
def Ri:=@if_true
def Ro:=@Array.getElem?_eq_some_iff
def Rp:=@congrArg
def Ra:=@wpAny_Call_Name_kw
def Rs:=@List.map_nil
def Rf:=@if_false
def Rg:=@wpAny_setField_rec
def Rh:=@List.contains_cons
def Rj:=@or_false
def Rk:=@wpAny_truthy_bool
def Rl:=@wpAny_updateSeq
def Rz:=@PySem.F.slot_list_append
def Rx:=@PySem.F.type_list_append
def Rc:=@Array.length_toList
def Rv:=@List.map_congr_left
def Rb:=@List.getElem_mem
def Rn:=@wpAny_passesOwn
def Rm:=@Nat.le_succ
def Tq:=@List.length_set
def Tw:=@PySem.W.kia_one
def Te:=@PySem.F.slot_str_join
def Tt:=@PySem.F.type_str_join
def Tu:=@List.map_map
def Ti:=@List.flatten_cons
def To:=@List.mem_of_getElem?
def Tp:=@codeAny_call_builtin
def Ta:=@wpAny_is_other
def Ts:=@MeetsSeq.plain_index_loop
def Td:=@beq_self_eq_true
def Tg:=@wpAny_call_entry
def Th:=@List.cons_append
def Tj:=@Nat.zero_le
def Tk:=@List.getElem?_range
def Tl:=@wpAny_execs_nil
def Tz:=@Bool.eq_iff_iff
def Tx:=@Nat.not_lt_zero
def Tc:=@List.pairwise_cons
def Tv:=@List.eraseIdx_cons_succ
def Tb:=@wpAny_ite_split
def Yq:=@List.append_assoc
def Yw:=@wpAny_letGo
def Ye:=@List.nodup_append
def Yr:=@builtinLookup_eq_fast
def Yt:=@List.mem_flatMap
def Yy:=@call_meets
def Yu:=@List.filterMap_cons
def Yi:=@List.nodup_cons
def Yo:=@SeqAt.EqAt.same
def Yp:=@List.forIn_cons
def Ya:=@Heap.SameBut.update
def Ys:=@wpAny_specialOf
def Yd:=@wpAny_isSubtype_exc
def Yf:=@List.find?_cons
def Yg:=@List.mem_filterMap
def Yh:=@codeAny_mono
def Yj:=@PySem.W.callWith_K
def Yk:=@Array.forIn_toList
def Yl:=@Heap.get?_some_iff
def Yz:=@Nat.lt_or_eq_of_le
def Yx:=@wpAny_tryCatch
def Yc:=@wpAny_pyIter_list
def Yv:=@List.reverse_cons
def Yb:=@List.getElem?_set
def Yn:=@wpAny_standAt
def Ym:=@sizeLine_eq
def Uq:=@List.all_cons
def Uw:=@wpAny_onRaise
def Ue:=@Bool.not_true
def Ur:=@List.sum_cons
def Ut:=@wpAny_execs_cons
def Uy:=@wpAny_isInstance
def Uu:=@List.cons_ne_nil
def Ui:=@List.range_succ_eq_map
def Uo:=@wpAny_nextOf_list_item
def Up:=@PySem.F.slot_str_split
def Ua:=@PySem.F.type_str_split
def Us:=@List.length_replicate
def Ud:=@List.length_singleton
def Uf:=@typeLookup_type
def Ug:=@List.contains_iff_mem
def Uh:=@Array.getElem?_setIfInBounds_self_of_lt
def Uj:=@PySem.F.slot_str_find
def Uk:=@PySem.F.type_str_find
def Ul:=@wpAny_call
def Uz:=@typeIs_str
def Ux:=@List.mem_append_left
def Uc:=@SeqAt.EqAt.bool_bool
def Uv:=@wpAny_updateSeq_pair
def Ub:=@List.forIn_nil
def Um:=@List.length_reverse
def Iq:=@ne_true_of_eq_false
def Iw:=@wpAny_pyIter_tuple
def Ie:=@Array.find?_toList
def Ir:=@Calls.spliced_cons
def Iy:=@SeqAt.EqAt.int_int
def Iu:=@wpAny_attempt
def Ii:=@Code.quiet_builtin
def Ip:=@List.cons.inj
def Ia:=@plainObj_wpAny_Assign_Attribute
def Ig:=@Calls.spliced_nil
def Ih:=@wpAny_rule
def Ij:=@Nat.lt_trichotomy
def Ik:=@wpAny_typeOf
def Il:=@Nat.zero_add
def Ix:=@wpAny_lookBehind
def Ic:=@pastItsLine_dict
def Iv:=@Nat.lt_succ_self
def Ib:=@List.length_take
def Im:=@wpAny_pyIter_zip
def Oq:=@List.map_reverse
def Ow:=@List.of_mem_zip
def Oe:=@Iff.rfl
def Ot:=@wpAny_of_eq
def Oy:=@Calls.Name_function_global
def Ou:=@SeqAt.RcNeAt.lists_lengths
def Oi:=@wpAny_loadPart
def Oo:=@List.drop_eq_getElem_cons
def Op:=@wpAny_setField
def Oa:=@MeetsSeq.entry_index_loop
def Os:=@refuseLoop_ref
end
namespace L2
open PySem PySem.Spec PyProof.Rows
def vW (s:Stmt)(j:Nat):Stmt:=match s with
 | .ClassDef _ _ _ body _ _ _ _ _ _ _=>body.getD j (.Pass ⟨0,0,0,0⟩)
 | _=>.Pass ⟨0,0,0,0⟩
def zF (s:Stmt):Arguments:=match s with
 | .FunctionDef _ a _ _ _ _ _ _ _ _=>a
 | _=>{ posonlyargs:=[],args:=[],vararg:=none,kwonlyargs:=[],kw_defaults:=[],kwarg:=none,defaults:=[] }
def zK (s:Stmt):List Stmt:=match s with
 | .FunctionDef _ _ b _ _ _ _ _ _ _=>b
 | _=>[]
def zV (s:Stmt):Scope:=match s with
 | .FunctionDef _ _ _ _ _ _ sc _ _ _=>sc
 | _=>{ kind:=.function,names:=[],isGenerator:=false,isCoroutine:=false }
end L2
namespace My
open PySem L2
def top (i:Nat):Stmt:=PySem.Challenge.pw_curveyard_k12_promises_asked.main.body.getD i (.Pass ⟨0,0,0,0⟩)
end My
namespace My
open PySem PySem.W L2 PyData
def zTr:Params->Frag:=fun P =>
 (nat_lit 3,⟨.type "dict",none,.dict #[⟨keyHash P "__name__",.str "__name__" 165,.str "law_curveyard_k12_promises_asked" 605⟩,⟨keyHash P "__doc__",.str "__doc__" 166,.none⟩,⟨keyHash P "__package__",.str "__package__" 167,.none⟩,⟨keyHash P "__loader__",.str "__loader__" 168,.builtin "__main__.__loader__#opaque"⟩,⟨keyHash P "__spec__",.str "__spec__" 169,.none⟩,⟨keyHash P "__annotations__",.str "__annotations__" 170,.ref 6⟩,⟨keyHash P "__builtins__",.str "__builtins__" 171,.ref 4⟩,⟨keyHash P "__file__",.str "__file__" 173,.str "/claim/cut.py" 172⟩,⟨keyHash P "__cached__",.str "__cached__" 174,.none⟩,⟨keyHash P "BITS",.str "BITS" 190,.str "01" 189⟩,⟨keyHash P "FLIPS",.str "FLIPS" 192,.str "+-" 191⟩,⟨keyHash P "AXES",.str "AXES" 194,.str "xyz" 193⟩,⟨keyHash P "turned",.str "turned" 200,.ref 19⟩,⟨keyHash P "still",.str "still" 206,.ref 24⟩,⟨keyHash P "after",.str "after" 212,.ref 29⟩,⟨keyHash P "turn_text",.str "turn_text" 218,.ref 34⟩,⟨keyHash P "turn_of",.str "turn_of" 224,.ref 39⟩,⟨keyHash P "corner_text",.str "corner_text" 230,.ref 44⟩,⟨keyHash P "corner_of",.str "corner_of" 236,.ref 49⟩,⟨keyHash P "Part",.str "Part" 271,.ref 66⟩,⟨keyHash P "Curve",.str "Curve" 306,.ref 87⟩,⟨keyHash P "first_state",.str "first_state" 313,.ref 98⟩,⟨keyHash P "part_at",.str "part_at" 326,.ref 105⟩,⟨keyHash P "walked",.str "walked" 335,.ref 112⟩,⟨keyHash P "YardError",.str "YardError" 355,.ref 122⟩,⟨keyHash P "TextError",.str "TextError" 380,.ref 142⟩,⟨keyHash P "BadRow",.str "BadRow" 396,.ref 154⟩,⟨keyHash P "CornerTwice",.str "CornerTwice" 412,.ref 166⟩,⟨keyHash P "Unmet",.str "Unmet" 441,.ref 185⟩,⟨keyHash P "LETTERS",.str "LETTERS" 445,.str "abcdefghijklmnopqrstuvwxyz" 444⟩,⟨keyHash P "LONGEST_WORD",.str "LONGEST_WORD" 447,.int 12 446⟩,⟨keyHash P "is_word",.str "is_word" 454,.ref 194⟩,⟨keyHash P "is_made_of",.str "is_made_of" 460,.ref 199⟩,⟨keyHash P "full",.str "full" 472,.ref 206⟩,⟨keyHash P "deeper",.str "deeper" 478,.ref 211⟩,⟨keyHash P "next_to",.str "next_to" 484,.ref 216⟩,⟨keyHash P "unmet_at",.str "unmet_at" 502,.ref 223⟩,⟨keyHash P "meeting_of",.str "meeting_of" 508,.ref 228⟩,⟨keyHash P "PROMISES",.str "PROMISES" 515,.ref 229⟩,⟨keyHash P "DIMS",.str "DIMS" 522,.ref 230⟩,⟨keyHash P "curve_text",.str "curve_text" 529,.ref 237⟩,⟨keyHash P "curve_rows",.str "curve_rows" 535,.ref 242⟩,⟨keyHash P "part_row",.str "part_row" 543,.ref 249⟩,⟨keyHash P "curve_of",.str "curve_of" 553,.ref 256⟩,⟨keyHash P "curve_from",.str "curve_from" 567,.ref 263⟩,⟨keyHash P "words_at",.str "words_at" 575,.ref 270⟩,⟨keyHash P "read_head",.str "read_head" 582,.ref 277⟩,⟨keyHash P "read_part",.str "read_part" 594,.ref 284⟩,⟨keyHash P "fitted",.str "fitted" 604,.ref 291⟩,⟨keyHash P "_law_mix",.str "_law_mix" 615,.ref 298⟩,⟨keyHash P "_law_same",.str "_law_same" 624,.ref 305⟩,⟨keyHash P "_law_turned",.str "_law_turned" 630,.ref 310⟩,⟨keyHash P "_law_after",.str "_law_after" 636,.ref 315⟩,⟨keyHash P "_law_undone",.str "_law_undone" 645,.ref 322⟩,⟨keyHash P "_law_turn",.str "_law_turn" 651,.ref 327⟩,⟨keyHash P "_law_base",.str "_law_base" 660,.ref 334⟩,⟨keyHash P "_law_joined",.str "_law_joined" 666,.ref 339⟩,⟨keyHash P "_law_corners",.str "_law_corners" 672,.ref 344⟩,⟨keyHash P "_law_loose",.str "_law_loose" 684,.ref 351⟩,⟨keyHash P "_law_altered",.str "_law_altered" 699,.ref 358⟩,⟨keyHash P "_law_fourth",.str "_law_fourth" 713,.ref 365⟩,⟨keyHash P "_law_drawn",.str "_law_drawn" 722,.ref 372⟩,⟨keyHash P "_law_curve",.str "_law_curve" 728,.ref 377⟩,⟨keyHash P "_law_part_at",.str "_law_part_at" 742,.ref 384⟩,⟨keyHash P "_law_state",.str "_law_state" 748,.ref 389⟩,⟨keyHash P "_law_faces",.str "_law_faces" 759,.ref 396⟩,⟨keyHash P "_law_unmet",.str "_law_unmet" 765,.ref 401⟩,⟨keyHash P "_law_least",.str "_law_least" 776,.ref 408⟩,⟨keyHash P "_law_caught",.str "_law_caught" 786,.ref 415⟩,⟨keyHash P "_law_asked",.str "_law_asked" 796,.ref 422⟩,⟨keyHash P "law",.str "law" 806,.ref 429⟩] 71,#[]⟩) ::
 (nat_lit 18,⟨.type "code",none,.fields #[.str "turned" 195,.str "turned" 196,.str "/claim/cut.py" 197,.int 5 0,.int 2 0,.int 0 0,.int 0 0,.int 3 0,.ref 15,.bool true,.int 181 0,.ref 16,.none,.none,.none,.ref 17,.int 198 0,.int 5 0,.str "/claim/cut.py" 199],#[]⟩) ::
 (nat_lit 19,⟨.type "function",none,.func (fnOf "turned" "turned" (zF (top 4)) (zK (top 4)) (zV (top 4)) (.none) (.none) (.none) (.str "curveyard.turns" 187) none (.ref 18) (.none)),#[]⟩) ::
 (nat_lit 23,⟨.type "code",none,.fields #[.str "still" 201,.str "still" 202,.str "/claim/cut.py" 203,.int 7 0,.int 1 0,.int 0 0,.int 0 0,.int 3 0,.ref 20,.bool true,.int 181 0,.ref 21,.none,.none,.none,.ref 22,.int 204 0,.int 7 0,.str "/claim/cut.py" 205],#[]⟩) ::
 (nat_lit 24,⟨.type "function",none,.func (fnOf "still" "still" (zF (top 5)) (zK (top 5)) (zV (top 5)) (.none) (.none) (.none) (.str "curveyard.turns" 187) none (.ref 23) (.none)),#[]⟩) ::
 (nat_lit 28,⟨.type "code",none,.fields #[.str "after" 207,.str "after" 208,.str "/claim/cut.py" 209,.int 9 0,.int 2 0,.int 0 0,.int 0 0,.int 3 0,.ref 25,.bool true,.int 181 0,.ref 26,.none,.none,.none,.ref 27,.int 210 0,.int 9 0,.str "/claim/cut.py" 211],#[]⟩) ::
 (nat_lit 29,⟨.type "function",none,.func (fnOf "after" "after" (zF (top 6)) (zK (top 6)) (zV (top 6)) (.none) (.none) (.none) (.str "curveyard.turns" 187) none (.ref 28) (.none)),#[]⟩) ::
 (nat_lit 33,⟨.type "code",none,.fields #[.str "turn_text" 213,.str "turn_text" 214,.str "/claim/cut.py" 215,.int 11 0,.int 1 0,.int 0 0,.int 0 0,.int 3 0,.ref 30,.bool true,.int 181 0,.ref 31,.none,.none,.none,.ref 32,.int 216 0,.int 11 0,.str "/claim/cut.py" 217],#[]⟩) ::
 (nat_lit 34,⟨.type "function",none,.func (fnOf "turn_text" "turn_text" (zF (top 7)) (zK (top 7)) (zV (top 7)) (.none) (.none) (.none) (.str "curveyard.turns" 187) none (.ref 33) (.none)),#[]⟩) ::
 (nat_lit 38,⟨.type "code",none,.fields #[.str "turn_of" 219,.str "turn_of" 220,.str "/claim/cut.py" 221,.int 13 0,.int 2 0,.int 0 0,.int 0 0,.int 3 0,.ref 35,.bool true,.int 181 0,.ref 36,.none,.none,.none,.ref 37,.int 222 0,.int 13 0,.str "/claim/cut.py" 223],#[]⟩) ::
 (nat_lit 39,⟨.type "function",none,.func (fnOf "turn_of" "turn_of" (zF (top 8)) (zK (top 8)) (zV (top 8)) (.none) (.none) (.none) (.str "curveyard.turns" 187) none (.ref 38) (.none)),#[]⟩) ::
 (nat_lit 43,⟨.type "code",none,.fields #[.str "corner_text" 225,.str "corner_text" 226,.str "/claim/cut.py" 227,.int 21 0,.int 1 0,.int 0 0,.int 0 0,.int 3 0,.ref 40,.bool true,.int 181 0,.ref 41,.none,.none,.none,.ref 42,.int 228 0,.int 21 0,.str "/claim/cut.py" 229],#[]⟩) ::
 (nat_lit 44,⟨.type "function",none,.func (fnOf "corner_text" "corner_text" (zF (top 9)) (zK (top 9)) (zV (top 9)) (.none) (.none) (.none) (.str "curveyard.turns" 187) none (.ref 43) (.none)),#[]⟩) ::
 (nat_lit 48,⟨.type "code",none,.fields #[.str "corner_of" 231,.str "corner_of" 232,.str "/claim/cut.py" 233,.int 23 0,.int 2 0,.int 0 0,.int 0 0,.int 3 0,.ref 45,.bool true,.int 181 0,.ref 46,.none,.none,.none,.ref 47,.int 234 0,.int 23 0,.str "/claim/cut.py" 235],#[]⟩) ::
 (nat_lit 49,⟨.type "function",none,.func (fnOf "corner_of" "corner_of" (zF (top 10)) (zK (top 10)) (zV (top 10)) (.none) (.none) (.none) (.str "curveyard.turns" 187) none (.ref 48) (.none)),#[]⟩) ::
 (nat_lit 62,⟨.type "code",none,.fields #[.str "__init__" 251,.str "Part.__init__" 252,.str "/claim/cut.py" 253,.int 31 0,.int 4 0,.int 0 0,.int 0 0,.int 3 0,.ref 57,.bool true,.int 181 0,.ref 58,.none,.ref 59,.ref 60,.ref 61,.int 258 0,.int 31 0,.str "/claim/cut.py" 259],#[]⟩) ::
 (nat_lit 63,⟨.type "function",none,.func (fnOf "__init__" "Part.__init__" (zF (vW (top 12) 0)) (zK (vW (top 12) 0)) (zV (vW (top 12) 0)) (.none) (.none) (.none) (.str "curveyard.curves" 237) none (.ref 62) (.none)),#[]⟩) ::
 (nat_lit 65,⟨.type "dict",none,.dict #[⟨keyHash P "__module__",.str "__module__" 246,.str "curveyard.curves" 237⟩,⟨keyHash P "__firstlineno__",.str "__firstlineno__" 250,.int 29 249⟩,⟨keyHash P "__init__",.str "__init__" 260,.ref 63⟩,⟨keyHash P "__static_attributes__",.str "__static_attributes__" 264,.ref 64⟩,⟨keyHash P "__dict__",.str "__dict__" 266,.ref 67⟩,⟨keyHash P "__weakref__",.str "__weakref__" 268,.ref 68⟩,⟨keyHash P "__doc__",.str "__doc__" 269,.none⟩] 4,#[]⟩) ::
 (nat_lit 66,⟨.type "type",none,.cls { name:="Part",bases:=[.type "object"],mro:=[.ref 66,.type "object"],ns:=65,qualname:="Part",hasDict:=true,slotNames:=[],subclasses:=[],abstract:=false,collection:=none,hasDel:=false },#[none,none,some (.str "Part" 239),some (.str "Part" 247),some (.builtin "object.__new__"),some (.bool true)]⟩) ::
 (nat_lit 67,⟨.type "getset_descriptor",none,.fields #[.str "__dict__" 265,.ref 66,.builtin "function.__dict__",.builtin "function.__dict__#set"],#[]⟩) ::
 (nat_lit 68,⟨.type "getset_descriptor",none,.fields #[.str "__weakref__" 267,.ref 66,.builtin "ExceptionGroup.__weakref__",.none],#[]⟩) ::
 (nat_lit 83,⟨.type "code",none,.fields #[.str "__init__" 284,.str "Curve.__init__" 285,.str "/claim/cut.py" 286,.int 37 0,.int 5 0,.int 0 0,.int 0 0,.int 3 0,.ref 78,.bool true,.int 181 0,.ref 79,.none,.ref 80,.ref 81,.ref 82,.int 292 0,.int 37 0,.str "/claim/cut.py" 293],#[]⟩) ::
 (nat_lit 84,⟨.type "function",none,.func (fnOf "__init__" "Curve.__init__" (zF (vW (top 13) 0)) (zK (vW (top 13) 0)) (zV (vW (top 13) 0)) (.none) (.none) (.none) (.str "curveyard.curves" 237) none (.ref 83) (.none)),#[]⟩) ::
 (nat_lit 86,⟨.type "dict",none,.dict #[⟨keyHash P "__module__",.str "__module__" 279,.str "curveyard.curves" 237⟩,⟨keyHash P "__firstlineno__",.str "__firstlineno__" 283,.int 35 282⟩,⟨keyHash P "__init__",.str "__init__" 294,.ref 84⟩,⟨keyHash P "__static_attributes__",.str "__static_attributes__" 299,.ref 85⟩,⟨keyHash P "__dict__",.str "__dict__" 301,.ref 88⟩,⟨keyHash P "__weakref__",.str "__weakref__" 303,.ref 89⟩,⟨keyHash P "__doc__",.str "__doc__" 304,.none⟩] 4,#[]⟩) ::
 (nat_lit 87,⟨.type "type",none,.cls { name:="Curve",bases:=[.type "object"],mro:=[.ref 87,.type "object"],ns:=86,qualname:="Curve",hasDict:=true,slotNames:=[],subclasses:=[],abstract:=false,collection:=none,hasDel:=false },#[none,none,some (.str "Curve" 272),some (.str "Curve" 280),some (.builtin "object.__new__"),some (.bool true)]⟩) ::
 (nat_lit 88,⟨.type "getset_descriptor",none,.fields #[.str "__dict__" 300,.ref 87,.builtin "function.__dict__",.builtin "function.__dict__#set"],#[]⟩) ::
 (nat_lit 89,⟨.type "getset_descriptor",none,.fields #[.str "__weakref__" 302,.ref 87,.builtin "ExceptionGroup.__weakref__",.none],#[]⟩) ::
 (nat_lit 97,⟨.type "code",none,.fields #[.str "first_state" 307,.str "first_state" 308,.str "/claim/cut.py" 309,.int 42 0,.int 1 0,.int 0 0,.int 0 0,.int 3 0,.ref 92,.bool true,.int 181 0,.ref 93,.none,.ref 94,.ref 95,.ref 96,.int 311 0,.int 42 0,.str "/claim/cut.py" 312],#[]⟩) ::
 (nat_lit 98,⟨.type "function",none,.func (fnOf "first_state" "first_state" (zF (top 14)) (zK (top 14)) (zV (top 14)) (.none) (.none) (.none) (.str "curveyard.curves" 237) none (.ref 97) (.none)),#[]⟩) ::
 (nat_lit 104,⟨.type "code",none,.fields #[.str "part_at" 314,.str "part_at" 315,.str "/claim/cut.py" 316,.int 44 0,.int 3 0,.int 0 0,.int 0 0,.int 3 0,.ref 99,.bool true,.int 181 0,.ref 100,.none,.ref 101,.ref 102,.ref 103,.int 324 0,.int 44 0,.str "/claim/cut.py" 325],#[]⟩) ::
 (nat_lit 105,⟨.type "function",none,.func (fnOf "part_at" "part_at" (zF (top 15)) (zK (top 15)) (zV (top 15)) (.none) (.none) (.none) (.str "curveyard.curves" 237) none (.ref 104) (.none)),#[]⟩) ::
 (nat_lit 111,⟨.type "code",none,.fields #[.str "walked" 327,.str "walked" 328,.str "/claim/cut.py" 329,.int 49 0,.int 3 0,.int 0 0,.int 0 0,.int 3 0,.ref 106,.bool true,.int 181 0,.ref 107,.none,.ref 108,.ref 109,.ref 110,.int 333 0,.int 49 0,.str "/claim/cut.py" 334],#[]⟩) ::
 (nat_lit 112,⟨.type "function",none,.func (fnOf "walked" "walked" (zF (top 16)) (zK (top 16)) (zV (top 16)) (.none) (.none) (.none) (.str "curveyard.curves" 237) none (.ref 111) (.none)),#[]⟩) ::
 (nat_lit 121,⟨.type "dict",none,.dict #[⟨keyHash P "__module__",.str "__module__" 345,.str "curveyard.errors" 336⟩,⟨keyHash P "__firstlineno__",.str "__firstlineno__" 349,.int 52 348⟩,⟨keyHash P "__static_attributes__",.str "__static_attributes__" 350,.ref 120⟩,⟨keyHash P "__weakref__",.str "__weakref__" 352,.ref 123⟩,⟨keyHash P "__doc__",.str "__doc__" 353,.none⟩] 3,#[]⟩) ::
 (nat_lit 122,⟨.type "type",none,.cls { name:="YardError",bases:=[.type "ValueError"],mro:=[.ref 122,.type "ValueError",.type "Exception",.type "BaseException",.type "object"],ns:=121,qualname:="YardError",hasDict:=true,slotNames:=[],subclasses:=[.ref 142,.ref 185],abstract:=false,collection:=none,hasDel:=false },#[some (.ref 113),none,some (.str "YardError" 338),some (.str "YardError" 346),some (.builtin "ValueError.__new__"),some (.bool true)]⟩) ::
 (nat_lit 123,⟨.type "getset_descriptor",none,.fields #[.str "__weakref__" 351,.ref 122,.builtin "ExceptionGroup.__weakref__",.none],#[]⟩) ::
 (nat_lit 138,⟨.type "code",none,.fields #[.str "__init__" 368,.str "TextError.__init__" 369,.str "/claim/cut.py" 370,.int 56 0,.int 2 0,.int 0 0,.int 0 0,.int 3 0,.ref 133,.bool true,.int 181 0,.ref 134,.none,.ref 135,.ref 136,.ref 137,.int 373 0,.int 56 0,.str "/claim/cut.py" 374],#[]⟩) ::
 (nat_lit 139,⟨.type "function",none,.func (fnOf "__init__" "TextError.__init__" (zF (vW (top 19) 0)) (zK (vW (top 19) 0)) (zV (vW (top 19) 0)) (.none) (.none) (.none) (.str "curveyard.errors" 336) none (.ref 138) (.none)),#[]⟩) ::
 (nat_lit 141,⟨.type "dict",none,.dict #[⟨keyHash P "__module__",.str "__module__" 363,.str "curveyard.errors" 336⟩,⟨keyHash P "__firstlineno__",.str "__firstlineno__" 367,.int 54 366⟩,⟨keyHash P "__init__",.str "__init__" 375,.ref 139⟩,⟨keyHash P "__static_attributes__",.str "__static_attributes__" 377,.ref 140⟩,⟨keyHash P "__doc__",.str "__doc__" 378,.none⟩] 2,#[]⟩) ::
 (nat_lit 142,⟨.type "type",none,.cls { name:="TextError",bases:=[.ref 122],mro:=[.ref 142,.ref 122,.type "ValueError",.type "Exception",.type "BaseException",.type "object"],ns:=141,qualname:="TextError",hasDict:=true,slotNames:=[],subclasses:=[.ref 154,.ref 166],abstract:=false,collection:=none,hasDel:=false },#[some (.ref 126),none,some (.str "TextError" 356),some (.str "TextError" 364),some (.builtin "ValueError.__new__"),some (.bool true)]⟩) ::
 (nat_lit 153,⟨.type "dict",none,.dict #[⟨keyHash P "__module__",.str "__module__" 388,.str "curveyard.errors" 336⟩,⟨keyHash P "__firstlineno__",.str "__firstlineno__" 392,.int 58 391⟩,⟨keyHash P "__static_attributes__",.str "__static_attributes__" 393,.ref 152⟩,⟨keyHash P "__doc__",.str "__doc__" 394,.none⟩] 2,#[]⟩) ::
 (nat_lit 154,⟨.type "type",none,.cls { name:="BadRow",bases:=[.ref 142],mro:=[.ref 154,.ref 142,.ref 122,.type "ValueError",.type "Exception",.type "BaseException",.type "object"],ns:=153,qualname:="BadRow",hasDict:=true,slotNames:=[],subclasses:=[],abstract:=false,collection:=none,hasDel:=false },#[some (.ref 145),none,some (.str "BadRow" 381),some (.str "BadRow" 389),some (.builtin "ValueError.__new__"),some (.bool true)]⟩) ::
 (nat_lit 165,⟨.type "dict",none,.dict #[⟨keyHash P "__module__",.str "__module__" 404,.str "curveyard.errors" 336⟩,⟨keyHash P "__firstlineno__",.str "__firstlineno__" 408,.int 60 407⟩,⟨keyHash P "__static_attributes__",.str "__static_attributes__" 409,.ref 164⟩,⟨keyHash P "__doc__",.str "__doc__" 410,.none⟩] 2,#[]⟩) ::
 (nat_lit 166,⟨.type "type",none,.cls { name:="CornerTwice",bases:=[.ref 142],mro:=[.ref 166,.ref 142,.ref 122,.type "ValueError",.type "Exception",.type "BaseException",.type "object"],ns:=165,qualname:="CornerTwice",hasDict:=true,slotNames:=[],subclasses:=[],abstract:=false,collection:=none,hasDel:=false },#[some (.ref 157),none,some (.str "CornerTwice" 397),some (.str "CornerTwice" 405),some (.builtin "ValueError.__new__"),some (.bool true)]⟩) ::
 (nat_lit 181,⟨.type "code",none,.fields #[.str "__init__" 425,.str "Unmet.__init__" 426,.str "/claim/cut.py" 427,.int 64 0,.int 4 0,.int 0 0,.int 0 0,.int 3 0,.ref 176,.bool true,.int 181 0,.ref 177,.none,.ref 178,.ref 179,.ref 180,.int 432 0,.int 64 0,.str "/claim/cut.py" 433],#[]⟩) ::
 (nat_lit 182,⟨.type "function",none,.func (fnOf "__init__" "Unmet.__init__" (zF (vW (top 22) 0)) (zK (vW (top 22) 0)) (zV (vW (top 22) 0)) (.none) (.none) (.none) (.str "curveyard.errors" 336) none (.ref 181) (.none)),#[]⟩) ::
 (nat_lit 184,⟨.type "dict",none,.dict #[⟨keyHash P "__module__",.str "__module__" 420,.str "curveyard.errors" 336⟩,⟨keyHash P "__firstlineno__",.str "__firstlineno__" 424,.int 62 423⟩,⟨keyHash P "__init__",.str "__init__" 434,.ref 182⟩,⟨keyHash P "__static_attributes__",.str "__static_attributes__" 438,.ref 183⟩,⟨keyHash P "__doc__",.str "__doc__" 439,.none⟩] 2,#[]⟩) ::
 (nat_lit 185,⟨.type "type",none,.cls { name:="Unmet",bases:=[.ref 122],mro:=[.ref 185,.ref 122,.type "ValueError",.type "Exception",.type "BaseException",.type "object"],ns:=184,qualname:="Unmet",hasDict:=true,slotNames:=[],subclasses:=[],abstract:=false,collection:=none,hasDel:=false },#[some (.ref 169),none,some (.str "Unmet" 413),some (.str "Unmet" 421),some (.builtin "ValueError.__new__"),some (.bool true)]⟩) ::
 (nat_lit 193,⟨.type "code",none,.fields #[.str "is_word" 448,.str "is_word" 449,.str "/claim/cut.py" 450,.int 71 0,.int 1 0,.int 0 0,.int 0 0,.int 3 0,.ref 188,.bool true,.int 181 0,.ref 189,.none,.ref 190,.ref 191,.ref 192,.int 452 0,.int 71 0,.str "/claim/cut.py" 453],#[]⟩) ::
 (nat_lit 194,⟨.type "function",none,.func (fnOf "is_word" "is_word" (zF (top 26)) (zK (top 26)) (zV (top 26)) (.none) (.none) (.none) (.str "curveyard.figures" 442) none (.ref 193) (.none)),#[]⟩) ::
 (nat_lit 198,⟨.type "code",none,.fields #[.str "is_made_of" 455,.str "is_made_of" 456,.str "/claim/cut.py" 457,.int 73 0,.int 3 0,.int 0 0,.int 0 0,.int 3 0,.ref 195,.bool true,.int 181 0,.ref 196,.none,.none,.none,.ref 197,.int 458 0,.int 73 0,.str "/claim/cut.py" 459],#[]⟩) ::
 (nat_lit 199,⟨.type "function",none,.func (fnOf "is_made_of" "is_made_of" (zF (top 27)) (zK (top 27)) (zV (top 27)) (.none) (.none) (.none) (.str "curveyard.figures" 442) none (.ref 198) (.none)),#[]⟩) ::
 (nat_lit 205,⟨.type "code",none,.fields #[.str "full" 463,.str "full" 464,.str "/claim/cut.py" 465,.int 76 0,.int 2 0,.int 0 0,.int 0 0,.int 3 0,.ref 200,.bool true,.int 181 0,.ref 201,.none,.ref 202,.ref 203,.ref 204,.int 470 0,.int 76 0,.str "/claim/cut.py" 471],#[]⟩) ::
 (nat_lit 206,⟨.type "function",none,.func (fnOf "full" "full" (zF (top 29)) (zK (top 29)) (zV (top 29)) (.none) (.none) (.none) (.str "curveyard.numbering" 461) none (.ref 205) (.none)),#[]⟩) ::
 (nat_lit 210,⟨.type "code",none,.fields #[.str "deeper" 473,.str "deeper" 474,.str "/claim/cut.py" 475,.int 81 0,.int 2 0,.int 0 0,.int 0 0,.int 3 0,.ref 207,.bool true,.int 181 0,.ref 208,.none,.none,.none,.ref 209,.int 476 0,.int 81 0,.str "/claim/cut.py" 477],#[]⟩) ::
 (nat_lit 211,⟨.type "function",none,.func (fnOf "deeper" "deeper" (zF (top 30)) (zK (top 30)) (zV (top 30)) (.none) (.none) (.none) (.str "curveyard.numbering" 461) none (.ref 210) (.none)),#[]⟩) ::
 (nat_lit 215,⟨.type "code",none,.fields #[.str "next_to" 479,.str "next_to" 480,.str "/claim/cut.py" 481,.int 83 0,.int 2 0,.int 0 0,.int 0 0,.int 3 0,.ref 212,.bool true,.int 181 0,.ref 213,.none,.none,.none,.ref 214,.int 482 0,.int 83 0,.str "/claim/cut.py" 483],#[]⟩) ::
 (nat_lit 216,⟨.type "function",none,.func (fnOf "next_to" "next_to" (zF (top 31)) (zK (top 31)) (zV (top 31)) (.none) (.none) (.none) (.str "curveyard.numbering" 461) none (.ref 215) (.none)),#[]⟩) ::
 (nat_lit 222,⟨.type "code",none,.fields #[.str "unmet_at" 487,.str "unmet_at" 488,.str "/claim/cut.py" 489,.int 86 0,.int 2 0,.int 0 0,.int 0 0,.int 3 0,.ref 217,.bool true,.int 181 0,.ref 218,.none,.ref 219,.ref 220,.ref 221,.int 500 0,.int 86 0,.str "/claim/cut.py" 501],#[]⟩) ::
 (nat_lit 223,⟨.type "function",none,.func (fnOf "unmet_at" "unmet_at" (zF (top 33)) (zK (top 33)) (zV (top 33)) (.none) (.none) (.none) (.str "curveyard.fitting" 485) none (.ref 222) (.none)),#[]⟩) ::
 (nat_lit 227,⟨.type "code",none,.fields #[.str "meeting_of" 503,.str "meeting_of" 504,.str "/claim/cut.py" 505,.int 102 0,.int 1 0,.int 0 0,.int 0 0,.int 3 0,.ref 224,.bool true,.int 181 0,.ref 225,.none,.none,.none,.ref 226,.int 506 0,.int 102 0,.str "/claim/cut.py" 507],#[]⟩) ::
 (nat_lit 228,⟨.type "function",none,.func (fnOf "meeting_of" "meeting_of" (zF (top 34)) (zK (top 34)) (zV (top 34)) (.none) (.none) (.none) (.str "curveyard.fitting" 485) none (.ref 227) (.none)),#[]⟩) ::
 (nat_lit 229,⟨.type "dict",none,.dict #[⟨keyHash P "joined",.str "joined" 511,.bool true⟩,⟨keyHash P "loose",.str "loose" 512,.bool false⟩] 2,#[]⟩) ::
 (nat_lit 230,⟨.type "dict",none,.dict #[⟨keyHash P "2",.str "2" 516,.int 2 517⟩,⟨keyHash P "3",.str "3" 518,.int 3 519⟩] 2,#[]⟩) ::
 (nat_lit 236,⟨.type "code",none,.fields #[.str "curve_text" 523,.str "curve_text" 524,.str "/claim/cut.py" 525,.int 111 0,.int 1 0,.int 0 0,.int 0 0,.int 3 0,.ref 231,.bool true,.int 181 0,.ref 232,.none,.ref 233,.ref 234,.ref 235,.int 527 0,.int 111 0,.str "/claim/cut.py" 528],#[]⟩) ::
 (nat_lit 237,⟨.type "function",none,.func (fnOf "curve_text" "curve_text" (zF (top 38)) (zK (top 38)) (zV (top 38)) (.none) (.none) (.none) (.str "curveyard.curvetext" 509) none (.ref 236) (.none)),#[]⟩) ::
 (nat_lit 241,⟨.type "code",none,.fields #[.str "curve_rows" 530,.str "curve_rows" 531,.str "/claim/cut.py" 532,.int 113 0,.int 1 0,.int 0 0,.int 0 0,.int 3 0,.ref 238,.bool true,.int 181 0,.ref 239,.none,.none,.none,.ref 240,.int 533 0,.int 113 0,.str "/claim/cut.py" 534],#[]⟩) ::
 (nat_lit 242,⟨.type "function",none,.func (fnOf "curve_rows" "curve_rows" (zF (top 39)) (zK (top 39)) (zV (top 39)) (.none) (.none) (.none) (.str "curveyard.curvetext" 509) none (.ref 241) (.none)),#[]⟩) ::
 (nat_lit 248,⟨.type "code",none,.fields #[.str "part_row" 536,.str "part_row" 537,.str "/claim/cut.py" 538,.int 117 0,.int 1 0,.int 0 0,.int 0 0,.int 3 0,.ref 243,.bool true,.int 181 0,.ref 244,.none,.ref 245,.ref 246,.ref 247,.int 541 0,.int 117 0,.str "/claim/cut.py" 542],#[]⟩) ::
 (nat_lit 249,⟨.type "function",none,.func (fnOf "part_row" "part_row" (zF (top 40)) (zK (top 40)) (zV (top 40)) (.none) (.none) (.none) (.str "curveyard.curvetext" 509) none (.ref 248) (.none)),#[]⟩) ::
 (nat_lit 255,⟨.type "code",none,.fields #[.str "curve_of" 544,.str "curve_of" 545,.str "/claim/cut.py" 546,.int 122 0,.int 1 0,.int 0 0,.int 0 0,.int 3 0,.ref 250,.bool true,.int 181 0,.ref 251,.none,.ref 252,.ref 253,.ref 254,.int 551 0,.int 122 0,.str "/claim/cut.py" 552],#[]⟩) ::
 (nat_lit 256,⟨.type "function",none,.func (fnOf "curve_of" "curve_of" (zF (top 41)) (zK (top 41)) (zV (top 41)) (.none) (.none) (.none) (.str "curveyard.curvetext" 509) none (.ref 255) (.none)),#[]⟩) ::
 (nat_lit 262,⟨.type "code",none,.fields #[.str "curve_from" 554,.str "curve_from" 555,.str "/claim/cut.py" 556,.int 129 0,.int 1 0,.int 0 0,.int 0 0,.int 3 0,.ref 257,.bool true,.int 181 0,.ref 258,.none,.ref 259,.ref 260,.ref 261,.int 565 0,.int 129 0,.str "/claim/cut.py" 566],#[]⟩) ::
 (nat_lit 263,⟨.type "function",none,.func (fnOf "curve_from" "curve_from" (zF (top 42)) (zK (top 42)) (zV (top 42)) (.none) (.none) (.none) (.str "curveyard.curvetext" 509) none (.ref 262) (.none)),#[]⟩) ::
 (nat_lit 269,⟨.type "code",none,.fields #[.str "words_at" 568,.str "words_at" 569,.str "/claim/cut.py" 570,.int 140 0,.int 2 0,.int 0 0,.int 0 0,.int 3 0,.ref 264,.bool true,.int 181 0,.ref 265,.none,.ref 266,.ref 267,.ref 268,.int 573 0,.int 140 0,.str "/claim/cut.py" 574],#[]⟩) ::
 (nat_lit 270,⟨.type "function",none,.func (fnOf "words_at" "words_at" (zF (top 43)) (zK (top 43)) (zV (top 43)) (.none) (.none) (.none) (.str "curveyard.curvetext" 509) none (.ref 269) (.none)),#[]⟩) ::
 (nat_lit 276,⟨.type "code",none,.fields #[.str "read_head" 576,.str "read_head" 577,.str "/claim/cut.py" 578,.int 144 0,.int 1 0,.int 0 0,.int 0 0,.int 3 0,.ref 271,.bool true,.int 181 0,.ref 272,.none,.ref 273,.ref 274,.ref 275,.int 580 0,.int 144 0,.str "/claim/cut.py" 581],#[]⟩) ::
 (nat_lit 277,⟨.type "function",none,.func (fnOf "read_head" "read_head" (zF (top 44)) (zK (top 44)) (zV (top 44)) (.none) (.none) (.none) (.str "curveyard.curvetext" 509) none (.ref 276) (.none)),#[]⟩) ::
 (nat_lit 283,⟨.type "code",none,.fields #[.str "read_part" 583,.str "read_part" 584,.str "/claim/cut.py" 585,.int 150 0,.int 3 0,.int 0 0,.int 0 0,.int 3 0,.ref 278,.bool true,.int 181 0,.ref 279,.none,.ref 280,.ref 281,.ref 282,.int 592 0,.int 150 0,.str "/claim/cut.py" 593],#[]⟩) ::
 (nat_lit 284,⟨.type "function",none,.func (fnOf "read_part" "read_part" (zF (top 45)) (zK (top 45)) (zV (top 45)) (.none) (.none) (.none) (.str "curveyard.curvetext" 509) none (.ref 283) (.none)),#[]⟩) ::
 (nat_lit 290,⟨.type "code",none,.fields #[.str "fitted" 595,.str "fitted" 596,.str "/claim/cut.py" 597,.int 159 0,.int 1 0,.int 0 0,.int 0 0,.int 3 0,.ref 285,.bool true,.int 181 0,.ref 286,.none,.ref 287,.ref 288,.ref 289,.int 602 0,.int 159 0,.str "/claim/cut.py" 603],#[]⟩) ::
 (nat_lit 291,⟨.type "function",none,.func (fnOf "fitted" "fitted" (zF (top 46)) (zK (top 46)) (zV (top 46)) (.none) (.none) (.none) (.str "curveyard.curvetext" 509) none (.ref 290) (.none)),#[]⟩) ::
 (nat_lit 297,⟨.type "code",none,.fields #[.str "_law_mix" 607,.str "_law_mix" 608,.str "/claim/cut.py" 609,.int 166 0,.int 2 0,.int 0 0,.int 0 0,.int 3 0,.ref 292,.bool true,.int 181 0,.ref 293,.none,.ref 294,.ref 295,.ref 296,.int 613 0,.int 166 0,.str "/claim/cut.py" 614],#[]⟩) ::
 (nat_lit 298,⟨.type "function",none,.func (fnOf "_law_mix" "_law_mix" (zF (top 48)) (zK (top 48)) (zV (top 48)) (.none) (.none) (.none) (.str "law_curveyard_k12_promises_asked" 605) none (.ref 297) (.none)),#[]⟩) ::
 (nat_lit 304,⟨.type "code",none,.fields #[.str "_law_same" 616,.str "_law_same" 617,.str "/claim/cut.py" 618,.int 169 0,.int 2 0,.int 0 0,.int 0 0,.int 3 0,.ref 299,.bool true,.int 181 0,.ref 300,.none,.ref 301,.ref 302,.ref 303,.int 622 0,.int 169 0,.str "/claim/cut.py" 623],#[]⟩) ::
 (nat_lit 305,⟨.type "function",none,.func (fnOf "_law_same" "_law_same" (zF (top 49)) (zK (top 49)) (zV (top 49)) (.none) (.none) (.none) (.str "law_curveyard_k12_promises_asked" 605) none (.ref 304) (.none)),#[]⟩) ::
 (nat_lit 309,⟨.type "code",none,.fields #[.str "_law_turned" 625,.str "_law_turned" 626,.str "/claim/cut.py" 627,.int 190 0,.int 2 0,.int 0 0,.int 0 0,.int 3 0,.ref 306,.bool true,.int 181 0,.ref 307,.none,.none,.none,.ref 308,.int 628 0,.int 190 0,.str "/claim/cut.py" 629],#[]⟩) ::
 (nat_lit 310,⟨.type "function",none,.func (fnOf "_law_turned" "_law_turned" (zF (top 50)) (zK (top 50)) (zV (top 50)) (.none) (.none) (.none) (.str "law_curveyard_k12_promises_asked" 605) none (.ref 309) (.none)),#[]⟩) ::
 (nat_lit 314,⟨.type "code",none,.fields #[.str "_law_after" 631,.str "_law_after" 632,.str "/claim/cut.py" 633,.int 192 0,.int 2 0,.int 0 0,.int 0 0,.int 3 0,.ref 311,.bool true,.int 181 0,.ref 312,.none,.none,.none,.ref 313,.int 634 0,.int 192 0,.str "/claim/cut.py" 635],#[]⟩) ::
 (nat_lit 315,⟨.type "function",none,.func (fnOf "_law_after" "_law_after" (zF (top 51)) (zK (top 51)) (zV (top 51)) (.none) (.none) (.none) (.str "law_curveyard_k12_promises_asked" 605) none (.ref 314) (.none)),#[]⟩) ::
 (nat_lit 321,⟨.type "code",none,.fields #[.str "_law_undone" 637,.str "_law_undone" 638,.str "/claim/cut.py" 639,.int 194 0,.int 1 0,.int 0 0,.int 0 0,.int 3 0,.ref 316,.bool true,.int 181 0,.ref 317,.none,.ref 318,.ref 319,.ref 320,.int 643 0,.int 194 0,.str "/claim/cut.py" 644],#[]⟩) ::
 (nat_lit 322,⟨.type "function",none,.func (fnOf "_law_undone" "_law_undone" (zF (top 52)) (zK (top 52)) (zV (top 52)) (.none) (.none) (.none) (.str "law_curveyard_k12_promises_asked" 605) none (.ref 321) (.none)),#[]⟩) ::
 (nat_lit 326,⟨.type "code",none,.fields #[.str "_law_turn" 646,.str "_law_turn" 647,.str "/claim/cut.py" 648,.int 199 0,.int 2 0,.int 0 0,.int 0 0,.int 3 0,.ref 323,.bool true,.int 181 0,.ref 324,.none,.none,.none,.ref 325,.int 649 0,.int 199 0,.str "/claim/cut.py" 650],#[]⟩) ::
 (nat_lit 327,⟨.type "function",none,.func (fnOf "_law_turn" "_law_turn" (zF (top 53)) (zK (top 53)) (zV (top 53)) (.none) (.none) (.none) (.str "law_curveyard_k12_promises_asked" 605) none (.ref 326) (.none)),#[]⟩) ::
 (nat_lit 333,⟨.type "code",none,.fields #[.str "_law_base" 652,.str "_law_base" 653,.str "/claim/cut.py" 654,.int 206 0,.int 1 0,.int 0 0,.int 0 0,.int 3 0,.ref 328,.bool true,.int 181 0,.ref 329,.none,.ref 330,.ref 331,.ref 332,.int 658 0,.int 206 0,.str "/claim/cut.py" 659],#[]⟩) ::
 (nat_lit 334,⟨.type "function",none,.func (fnOf "_law_base" "_law_base" (zF (top 54)) (zK (top 54)) (zV (top 54)) (.none) (.none) (.none) (.str "law_curveyard_k12_promises_asked" 605) none (.ref 333) (.none)),#[]⟩) ::
 (nat_lit 338,⟨.type "code",none,.fields #[.str "_law_joined" 661,.str "_law_joined" 662,.str "/claim/cut.py" 663,.int 216 0,.int 2 0,.int 0 0,.int 0 0,.int 3 0,.ref 335,.bool true,.int 181 0,.ref 336,.none,.none,.none,.ref 337,.int 664 0,.int 216 0,.str "/claim/cut.py" 665],#[]⟩) ::
 (nat_lit 339,⟨.type "function",none,.func (fnOf "_law_joined" "_law_joined" (zF (top 55)) (zK (top 55)) (zV (top 55)) (.none) (.none) (.none) (.str "law_curveyard_k12_promises_asked" 605) none (.ref 338) (.none)),#[]⟩) ::
 (nat_lit 343,⟨.type "code",none,.fields #[.str "_law_corners" 667,.str "_law_corners" 668,.str "/claim/cut.py" 669,.int 232 0,.int 1 0,.int 0 0,.int 0 0,.int 3 0,.ref 340,.bool true,.int 181 0,.ref 341,.none,.none,.none,.ref 342,.int 670 0,.int 232 0,.str "/claim/cut.py" 671],#[]⟩) ::
 (nat_lit 344,⟨.type "function",none,.func (fnOf "_law_corners" "_law_corners" (zF (top 56)) (zK (top 56)) (zV (top 56)) (.none) (.none) (.none) (.str "law_curveyard_k12_promises_asked" 605) none (.ref 343) (.none)),#[]⟩) ::
 (nat_lit 350,⟨.type "code",none,.fields #[.str "_law_loose" 673,.str "_law_loose" 674,.str "/claim/cut.py" 675,.int 237 0,.int 2 0,.int 0 0,.int 0 0,.int 3 0,.ref 345,.bool true,.int 181 0,.ref 346,.none,.ref 347,.ref 348,.ref 349,.int 682 0,.int 237 0,.str "/claim/cut.py" 683],#[]⟩) ::
 (nat_lit 351,⟨.type "function",none,.func (fnOf "_law_loose" "_law_loose" (zF (top 57)) (zK (top 57)) (zV (top 57)) (.none) (.none) (.none) (.str "law_curveyard_k12_promises_asked" 605) none (.ref 350) (.none)),#[]⟩) ::
 (nat_lit 357,⟨.type "code",none,.fields #[.str "_law_altered" 685,.str "_law_altered" 686,.str "/claim/cut.py" 687,.int 245 0,.int 2 0,.int 0 0,.int 0 0,.int 3 0,.ref 352,.bool true,.int 181 0,.ref 353,.none,.ref 354,.ref 355,.ref 356,.int 697 0,.int 245 0,.str "/claim/cut.py" 698],#[]⟩) ::
 (nat_lit 358,⟨.type "function",none,.func (fnOf "_law_altered" "_law_altered" (zF (top 58)) (zK (top 58)) (zV (top 58)) (.none) (.none) (.none) (.str "law_curveyard_k12_promises_asked" 605) none (.ref 357) (.none)),#[]⟩) ::
 (nat_lit 364,⟨.type "code",none,.fields #[.str "_law_fourth" 700,.str "_law_fourth" 701,.str "/claim/cut.py" 702,.int 256 0,.int 1 0,.int 0 0,.int 0 0,.int 3 0,.ref 359,.bool true,.int 181 0,.ref 360,.none,.ref 361,.ref 362,.ref 363,.int 711 0,.int 256 0,.str "/claim/cut.py" 712],#[]⟩) ::
 (nat_lit 365,⟨.type "function",none,.func (fnOf "_law_fourth" "_law_fourth" (zF (top 59)) (zK (top 59)) (zV (top 59)) (.none) (.none) (.none) (.str "law_curveyard_k12_promises_asked" 605) none (.ref 364) (.none)),#[]⟩) ::
 (nat_lit 371,⟨.type "code",none,.fields #[.str "_law_drawn" 714,.str "_law_drawn" 715,.str "/claim/cut.py" 716,.int 267 0,.int 2 0,.int 0 0,.int 0 0,.int 3 0,.ref 366,.bool true,.int 181 0,.ref 367,.none,.ref 368,.ref 369,.ref 370,.int 720 0,.int 267 0,.str "/claim/cut.py" 721],#[]⟩) ::
 (nat_lit 372,⟨.type "function",none,.func (fnOf "_law_drawn" "_law_drawn" (zF (top 60)) (zK (top 60)) (zV (top 60)) (.none) (.none) (.none) (.str "law_curveyard_k12_promises_asked" 605) none (.ref 371) (.none)),#[]⟩) ::
 (nat_lit 376,⟨.type "code",none,.fields #[.str "_law_curve" 723,.str "_law_curve" 724,.str "/claim/cut.py" 725,.int 276 0,.int 3 0,.int 0 0,.int 0 0,.int 3 0,.ref 373,.bool true,.int 181 0,.ref 374,.none,.none,.none,.ref 375,.int 726 0,.int 276 0,.str "/claim/cut.py" 727],#[]⟩) ::
 (nat_lit 377,⟨.type "function",none,.func (fnOf "_law_curve" "_law_curve" (zF (top 61)) (zK (top 61)) (zV (top 61)) (.none) (.none) (.none) (.str "law_curveyard_k12_promises_asked" 605) none (.ref 376) (.none)),#[]⟩) ::
 (nat_lit 383,⟨.type "code",none,.fields #[.str "_law_part_at" 729,.str "_law_part_at" 730,.str "/claim/cut.py" 731,.int 278 0,.int 3 0,.int 0 0,.int 0 0,.int 3 0,.ref 378,.bool true,.int 181 0,.ref 379,.none,.ref 380,.ref 381,.ref 382,.int 740 0,.int 278 0,.str "/claim/cut.py" 741],#[]⟩) ::
 (nat_lit 384,⟨.type "function",none,.func (fnOf "_law_part_at" "_law_part_at" (zF (top 62)) (zK (top 62)) (zV (top 62)) (.none) (.none) (.none) (.str "law_curveyard_k12_promises_asked" 605) none (.ref 383) (.none)),#[]⟩) ::
 (nat_lit 388,⟨.type "code",none,.fields #[.str "_law_state" 743,.str "_law_state" 744,.str "/claim/cut.py" 745,.int 284 0,.int 1 0,.int 0 0,.int 0 0,.int 3 0,.ref 385,.bool true,.int 181 0,.ref 386,.none,.none,.none,.ref 387,.int 746 0,.int 284 0,.str "/claim/cut.py" 747],#[]⟩) ::
 (nat_lit 389,⟨.type "function",none,.func (fnOf "_law_state" "_law_state" (zF (top 63)) (zK (top 63)) (zV (top 63)) (.none) (.none) (.none) (.str "law_curveyard_k12_promises_asked" 605) none (.ref 388) (.none)),#[]⟩) ::
 (nat_lit 395,⟨.type "code",none,.fields #[.str "_law_faces" 749,.str "_law_faces" 750,.str "/claim/cut.py" 751,.int 286 0,.int 4 0,.int 0 0,.int 0 0,.int 3 0,.ref 390,.bool true,.int 181 0,.ref 391,.none,.ref 392,.ref 393,.ref 394,.int 757 0,.int 286 0,.str "/claim/cut.py" 758],#[]⟩) ::
 (nat_lit 396,⟨.type "function",none,.func (fnOf "_law_faces" "_law_faces" (zF (top 64)) (zK (top 64)) (zV (top 64)) (.none) (.none) (.none) (.str "law_curveyard_k12_promises_asked" 605) none (.ref 395) (.none)),#[]⟩) ::
 (nat_lit 400,⟨.type "code",none,.fields #[.str "_law_unmet" 760,.str "_law_unmet" 761,.str "/claim/cut.py" 762,.int 294 0,.int 4 0,.int 0 0,.int 0 0,.int 3 0,.ref 397,.bool true,.int 181 0,.ref 398,.none,.none,.none,.ref 399,.int 763 0,.int 294 0,.str "/claim/cut.py" 764],#[]⟩) ::
 (nat_lit 401,⟨.type "function",none,.func (fnOf "_law_unmet" "_law_unmet" (zF (top 65)) (zK (top 65)) (zV (top 65)) (.none) (.none) (.none) (.str "law_curveyard_k12_promises_asked" 605) none (.ref 400) (.none)),#[]⟩) ::
 (nat_lit 407,⟨.type "code",none,.fields #[.str "_law_least" 766,.str "_law_least" 767,.str "/claim/cut.py" 768,.int 307 0,.int 2 0,.int 0 0,.int 0 0,.int 3 0,.ref 402,.bool true,.int 181 0,.ref 403,.none,.ref 404,.ref 405,.ref 406,.int 774 0,.int 307 0,.str "/claim/cut.py" 775],#[]⟩) ::
 (nat_lit 408,⟨.type "function",none,.func (fnOf "_law_least" "_law_least" (zF (top 66)) (zK (top 66)) (zV (top 66)) (.none) (.none) (.none) (.str "law_curveyard_k12_promises_asked" 605) none (.ref 407) (.none)),#[]⟩) ::
 (nat_lit 414,⟨.type "code",none,.fields #[.str "_law_caught" 777,.str "_law_caught" 778,.str "/claim/cut.py" 779,.int 314 0,.int 2 0,.int 0 0,.int 0 0,.int 3 0,.ref 409,.bool true,.int 181 0,.ref 410,.none,.ref 411,.ref 412,.ref 413,.int 784 0,.int 314 0,.str "/claim/cut.py" 785],#[]⟩) ::
 (nat_lit 415,⟨.type "function",none,.func (fnOf "_law_caught" "_law_caught" (zF (top 67)) (zK (top 67)) (zV (top 67)) (.none) (.none) (.none) (.str "law_curveyard_k12_promises_asked" 605) none (.ref 414) (.none)),#[]⟩) ::
 (nat_lit 421,⟨.type "code",none,.fields #[.str "_law_asked" 787,.str "_law_asked" 788,.str "/claim/cut.py" 789,.int 324 0,.int 2 0,.int 0 0,.int 0 0,.int 3 0,.ref 416,.bool true,.int 181 0,.ref 417,.none,.ref 418,.ref 419,.ref 420,.int 794 0,.int 324 0,.str "/claim/cut.py" 795],#[]⟩) ::
 (nat_lit 422,⟨.type "function",none,.func (fnOf "_law_asked" "_law_asked" (zF (top 68)) (zK (top 68)) (zV (top 68)) (.none) (.none) (.none) (.str "law_curveyard_k12_promises_asked" 605) none (.ref 421) (.none)),#[]⟩) ::
 (nat_lit 428,⟨.type "code",none,.fields #[.str "law" 797,.str "law" 798,.str "/claim/cut.py" 799,.int 336 0,.int 1 0,.int 0 0,.int 0 0,.int 3 0,.ref 423,.bool true,.int 181 0,.ref 424,.none,.ref 425,.ref 426,.ref 427,.int 804 0,.int 336 0,.str "/claim/cut.py" 805],#[]⟩) ::
 (nat_lit 429,⟨.type "function",none,.func (fnOf "law" "law" (zF (top 69)) (zK (top 69)) (zV (top 69)) (.none) (.none) (.none) (.str "law_curveyard_k12_promises_asked" 605) none (.ref 428) (.none)),#[]⟩)::[]
def oF:Program:=view PySem.Challenge.pw_curveyard_k12_promises_asked [69]
def loose:List Str:="BITS"::"FLIPS"::"AXES"::"turned"::"still"::"after"::"turn_text"::"turn_of"::"corner_text"::"corner_of"::"Part"::"Curve"::"first_state"::"part_at"::"walked"::"YardError"::"TextError"::"BadRow"::"CornerTwice"::"Unmet"::"LETTERS"::"LONGEST_WORD"::"is_word"::"is_made_of"::"full"::"deeper"::"next_to"::"unmet_at"::"meeting_of"::"PROMISES"::"DIMS"::"curve_text"::"curve_rows"::"part_row"::"curve_of"::"curve_from"::"words_at"::"read_head"::"read_part"::"fitted"::"_law_mix"::"_law_same"::"_law_turned"::"_law_after"::"_law_undone"::"_law_turn"::"_law_base"::"_law_joined"::"_law_corners"::"_law_loose"::"_law_altered"::"_law_fourth"::"_law_drawn"::"_law_curve"::"_law_part_at"::"_law_state"::"_law_faces"::"_law_unmet"::"_law_least"::"_law_caught"::"_law_asked"::[]
def zMW:List Addr:=nat_lit 3::nat_lit 18::nat_lit 19::nat_lit 23::nat_lit 24::nat_lit 28::nat_lit 29::nat_lit 33::nat_lit 34::nat_lit 38::nat_lit 39::nat_lit 43::nat_lit 44::nat_lit 48::nat_lit 49::nat_lit 62::nat_lit 63::nat_lit 65::nat_lit 66::nat_lit 67::nat_lit 68::nat_lit 83::nat_lit 84::nat_lit 86::nat_lit 87::nat_lit 88::nat_lit 89::nat_lit 97::nat_lit 98::nat_lit 104::nat_lit 105::nat_lit 111::nat_lit 112::nat_lit 121::nat_lit 122::nat_lit 123::nat_lit 138::nat_lit 139::nat_lit 141::nat_lit 142::nat_lit 153::nat_lit 154::nat_lit 165::nat_lit 166::nat_lit 181::nat_lit 182::nat_lit 184::nat_lit 185::nat_lit 193::nat_lit 194::nat_lit 198::nat_lit 199::nat_lit 205::nat_lit 206::nat_lit 210::nat_lit 211::nat_lit 215::nat_lit 216::nat_lit 222::nat_lit 223::nat_lit 227::nat_lit 228::nat_lit 229::nat_lit 230::nat_lit 236::nat_lit 237::nat_lit 241::nat_lit 242::nat_lit 248::nat_lit 249::nat_lit 255::nat_lit 256::nat_lit 262::nat_lit 263::nat_lit 269::nat_lit 270::nat_lit 276::nat_lit 277::nat_lit 283::nat_lit 284::nat_lit 290::nat_lit 291::nat_lit 297::nat_lit 298::nat_lit 304::nat_lit 305::nat_lit 309::nat_lit 310::nat_lit 314::nat_lit 315::nat_lit 321::nat_lit 322::nat_lit 326::nat_lit 327::nat_lit 333::nat_lit 334::nat_lit 338::nat_lit 339::nat_lit 343::nat_lit 344::nat_lit 350::nat_lit 351::nat_lit 357::nat_lit 358::nat_lit 364::nat_lit 365::nat_lit 371::nat_lit 372::nat_lit 376::nat_lit 377::nat_lit 383::nat_lit 384::nat_lit 388::nat_lit 389::nat_lit 395::nat_lit 396::nat_lit 400::nat_lit 401::nat_lit 407::nat_lit 408::nat_lit 414::nat_lit 415::nat_lit 421::nat_lit 422::nat_lit 428::nat_lit 429::[]
theorem zUL (P:Params):zMW=(zTr P).map (fun x=>x.1):=by kernel_rfl
abbrev hook:Hook:=kHook zTr zMW zUL
abbrev zQC (s:Shared):Bool:=xlAt oF [] s&&recOk (RowW.records PySem.Challenge.rw_curveyard_k12_promises_asked.row.toRowW) s
def rJ (w:World):Prop:=(openEnds treeTable PySem.Challenge.rw_curveyard_k12_promises_asked.row.prog w 6544).map (fun s=>openSeen oF loose (importedModules PySem.Challenge.rw_curveyard_k12_promises_asked.row.prog.main.body) zQC true s)=some (openGood oF loose)
theorem zTu (w:World):rJ (w.withFollow "special-get-raises" false):=by unfold rJ;kernel_rfl
theorem zSP (w:World):rJ (w.withFollow "special-get-raises" true):=by unfold rJ;kernel_rfl
theorem zO2 (w:World):(openEnds treeTable PySem.Challenge.rw_curveyard_k12_promises_asked.row.prog w 6544).map (fun s=>openSeen oF loose (importedModules PySem.Challenge.rw_curveyard_k12_promises_asked.row.prog.main.body) zQC true s)=some (openGood oF loose):=byRow2 "special-get-raises" (P:=rJ) zTu zSP w
def rG (w:World):Prop:=(openEnds treeTable PySem.Challenge.rw_curveyard_k12_promises_asked.row.prog w 6544).map hook.obs=some (hook.val w)
theorem zT8 (w:World):rG (w.withFollow "special-get-raises" false):=by unfold rG;kernel_rfl
theorem zTS (w:World):rG (w.withFollow "special-get-raises" true):=by unfold rG;kernel_rfl
theorem zOZ (w:World):(openEnds treeTable PySem.Challenge.rw_curveyard_k12_promises_asked.row.prog w 6544).map hook.obs=some (hook.val w):=byRow2 "special-get-raises" (P:=rG) zT8 zTS w
theorem zN8 {α β γ:Type}{x:Option α}{f:α->β}{g:α->γ}{a:β}{b:γ}(h1:x.map f=some a)(h2:x.map g=some b):x.map (fun s=>(f s,g s))=some (a,b):=by
 cases x with
 | none=>cases h1
 | some s=>cases h1;cases h2;rfl
theorem zNc:LeftO PySem.Challenge.rw_curveyard_k12_promises_asked.row.prog oF loose zQC hook.obs hook.val 6544:=fun w=>zN8 (zO2 w) (zOZ w)
end My
namespace L2
open PySem PySem.Spec PyProof.Rows
abbrev Key:=Sum Int Str
def zMO:Key->Value->Bool
 | .inl k,v=>Value.isInt k v
 | .inr x,v=>Value.isStrOf x v
def zJX (w:World):Key->Int
 | .inl k=>hashInt k
 | .inr x=>hashStr w x
theorem wG:∀ {k:Key} {v:Value},zMO k v=true->(∃i t,k=Sum.inl i/\v=Value.int i t)∨(∃x t,k=Sum.inr x/\v=Value.str x t)
 | .inl i,v,h=>by
   obtain⟨t,e⟩:=Value.isInt_shape (k:=i) (v:=v) h
   exact .inl ⟨i,t,rfl,e⟩
 | .inr x,v,h=>by
   obtain⟨t,e⟩:=Value.isStrOf_shape (x:=x) (v:=v) h
   exact .inr ⟨x,t,rfl,e⟩
theorem zMv (a b:Int):decide ((Sum.inl a:Key)=Sum.inl b)=(a==b):=by
 by_cases e:a=b
 · subst e;simp
 · have h:¬(Sum.inl a:Key)=Sum.inl b:=fun q=>e (Sum.inl.inj q)
   rw[Qv h]
   exact(Ei.mpr e).symm
theorem zLE (a b:Str):decide ((Sum.inr a:Key)=Sum.inr b)=decide (a=b):=by
 by_cases e:a=b
 · subst e;simp
 · have h:¬(Sum.inr a:Key)=Sum.inr b:=fun q=>e (Sum.inr.inj q)
   rw[Qv h,Qv e]
theorem zMr (a:Int)(b:Str):decide ((Sum.inl a:Key)=Sum.inr b)=false:=Qv (fun q=>nomatch q)
theorem zLd (a:Str)(b:Int):decide ((Sum.inr a:Key)=Sum.inl b)=false:=Qv (fun q=>nomatch q)
def zSg (prog:Program)(w:World):PySem.KeyKind prog w Key where
 is:=zMO
 hash:=zJX w
 inj:=fun v a b ha hb=>by
   rcases wG ha with⟨i,t,rfl,rfl⟩ | ⟨x,t,rfl,rfl⟩
   · rcases wG hb with⟨j,u,rfl,e⟩ | ⟨y,u,rfl,e⟩
     · injection e with e1 _;rw[e1]
     · exact nomatch e
   · rcases wG hb with⟨j,u,rfl,e⟩ | ⟨y,u,rfl,e⟩
     · exact nomatch e
     · injection e with e1 _;rw[e1]
 byValue:=fun k v h=>by
   rcases wG h with⟨i,t,rfl,rfl⟩ | ⟨x,t,rfl,rfl⟩<;>rfl
 pyHash:=fun hv h=>by
   rcases wG hv with⟨i,t,rfl,rfl⟩ | ⟨x,t,rfl,rfl⟩
   · exact wpAny_pyHash_int h
   · exact wpAny_pyHash_str h
 eqBool:=fun hu hv h=>by
   rcases wG hu with⟨i,t,rfl,rfl⟩ | ⟨x,t,rfl,rfl⟩
   · rcases wG hv with⟨j,u,rfl,rfl⟩ | ⟨y,u,rfl,rfl⟩
     · rw[zMv] at h;exact wpAny_eqBool_int h
     · rw[zMr] at h;exact SeqAt.EqAt.int_str i t y u _ _ _ _ h
   · rcases wG hv with⟨j,u,rfl,rfl⟩ | ⟨y,u,rfl,rfl⟩
     · rw[zLd] at h;exact SeqAt.EqAt.str_int x t j u _ _ _ _ h
     · rw[zLE] at h;exact wpAny_eqBool_str h
 «strs» := fun k x t v h=>by
   rcases wG h with⟨i,u,rfl,e⟩ | ⟨y,u,rfl,e⟩
   · exact nomatch e
   · injection e with e1 _
     subst e1
     cases v<;>rfl
inductive V where
 | non | bl (b:Bool) | int (i:Int) | str (x:Str) | byt (b:Array UInt8) | flt (b:UInt64) | ref (a:Addr) | ty (n:String)
 deriving DecidableEq
def RelV:V->Value->Prop
 | .non,u=>u=Value.none
 | .bl b,u=>u=Value.bool b
 | .int i,u=>∃t,u=Value.int i t
 | .str x,u=>∃t,u=Value.str x t
 | .byt b,u=>∃t,u=Value.bytes b t
 | .flt b,u=>∃t,u=Value.float b t
 | .ref a,u=>u=Value.ref a
 | .ty n,u=>u=Value.type n
abbrev Vals:List V->List Value->Prop:=Paired RelV
theorem Vals.length {xs:List V}{us:List Value}(r:Vals xs us):xs.length=us.length:=Paired.length r
theorem Vals.get:∀ {xs:List V} {us:List Value} {i:Nat} {x:V},Vals xs us->xs[i]?=some x->∃u,us[i]?=some u/\RelV x u
 | _,_,_,_,.nil,e=>by simp at e
 | _,_,0,_,.cons r _,e=>by simp at e;subst e;exact⟨_,rfl,r⟩
 | _,_,i+1,x,.cons _ t,e=>by
   obtain⟨u,h1,h2⟩:=Vals.get (i:=i) (x:=x) t (by simpa using e)
   exact⟨u,by simpa using h1,h2⟩
theorem Vals.set {x:V}{u:Value}(r:RelV x u):∀ {xs:List V} {us:List Value} (i:Nat),Vals xs us->Vals (xs.set i x) (us.set i u)
 | _,_,_,.nil=>.nil
 | _,_,0,.cons _ t=>.cons r t
 | _,_,i+1,.cons q t=>.cons q (Vals.set r i t)
theorem Vals.append:∀ {xs ys:List V} {us ws:List Value},Vals xs us->Vals ys ws->Vals (xs++ys) (us++ws)
 | _,_,_,_,.nil,s=>s
 | _,_,_,_,.cons r t,s=>.cons r (Vals.append t s)
theorem Vals.take:∀ {xs:List V} {us:List Value} (n:Nat),Vals xs us->Vals (xs.take n) (us.take n)
 | _,_,0,_=>.nil
 | _,_,_+1,.nil=>.nil
 | _,_,n+1,.cons r t=>.cons r (Vals.take n t)
theorem Vals.drop:∀ {xs:List V} {us:List Value} (n:Nat),Vals xs us->Vals (xs.drop n) (us.drop n)
 | _,_,0,r=>r
 | _,_,_+1,.nil=>.nil
 | _,_,n+1,.cons _ t=>Vals.drop n t
def RelO:Option V->Option Value->Prop
 | some v,some u=>RelV v u
 | none,none=>True
 | _,_=>False
def KV {κ:Type}:List (κ×V)->List (κ×Value)->Prop:=Paired fun(p:κ×V) (q:κ×Value)=>p.1=q.1/\RelV p.2 q.2
def kV:Key->V
 | .inl i=>.int i
 | .inr x=>.str x
inductive HO where
 /-- a list -/
 | lst (xs:List V)
 /-- a tuple (never changes) -/
 | tup (xs:List V)
 /-- a dict whose keys are ints and texts; one whose keys are tuples of ints and texts (the empty one is both) -/
 | dK (kvs:List (Key×V)) | dT (kvs:List (List Key×V))
 /-- a set of ints: its members, its size -/
 | set (S:Int->Bool) (n:Nat)
 /-- an instance of the class at C, its dict at dx, its attributes -/
 | ins (C dx:Addr) (fs:List (Str×V))
 /-- the dict of the instance at x -/
 | own (x:Addr)
 /-- the dict of an exception -/
 | xd (fs:List (Str×V))
 /-- a bound method, f of x -/
 | met (f x:Addr)
 /-- a range object lo, lo + 1, .. below hi -/
 | rng (lo hi:Int)
 /-- a thing that is known to the object (the script; a dict while a loop walks it): read, never written while it is so -/
 | frz (o:Obj) (u:HO)
 /-- a code object's table -/
 | tbl (ps:Array Value)
 /-- any other thing, by what is true of its one object (a def of one's own: SetO a S n := HO.ext fun h => ..) -/
 | ext (φ:Heap->Prop)
abbrev Hp:=Addr->Option HO
def upd (H:Hp)(a:Addr)(o:HO):Hp:=fun b=>if b=a then some o else H b
theorem zC {H:Hp}{a:Addr}{o:HO}:upd H a o a=some o:=by unfold upd;rw[Qn rfl]
theorem yQ {H:Hp}{a b:Addr}{o:HO}(h:b≠a):upd H a o b=H b:=by unfold upd;rw[Wd h]
theorem yJ {H:Hp}{a b:Addr}{o:HO}(h:H a=some o)(h':H b=none):a≠b:=by
 intro e;subst e;rw[h] at h';cases h'
section
variable (P:Program) (w:World)
def ObjOk (H:Hp)(h:Heap)(a:Addr):HO->Prop
 | .lst xs=>xs.length<=sizeLine/\∃(its:List Value) (n:Nat),Vals xs its/\h.get? a=some { cls:=.type "list",data:=.seq its.toArray n }
 | .tup xs=>xs.length<=sizeLine/\∃its:List Value,Vals xs its/\IsTup h a its.toArray
 | .dK kvs=>kvs.length<=sizeLine/\(a==sysModules)=false/\∃vs,KV kvs vs/\h.DictOf (zSg P w) a vs
 | .dT kvs=>kvs.length<=sizeLine/\(a==sysModules)=false/\∃xs:List (List Key×Addr×Value),
     Paired (fun(p:List Key×V) (q:List Key×Addr×Value)=>p.1=q.1/\H q.2.1=some (.tup (p.1.map kV))/\RelV p.2 q.2.2) kvs xs /\
     ∃o es ep,h.get? a=some o/\o.ExactDict/\o.data = .dict es ep/\es.toList=xs.map (entryOfKey (tupleKind (zSg P w)))/\(xs.map (·.1)).Nodup
 | .set S n=>h.SetOf (intKind P w) a S n
 | .ins C dx fs=>H dx=some (.own a)/\fs.length<=1000/\dx≠a/\h.get? a=some (PySem.W.instObj C dx) /\
     ∃mA,h.Ns1 dx mA/\(∀f,RelO (fs.lookup f) (mA f))/\PySem.Within mA (fs.map (·.1))
 | .own _=>∃o,h.get? a=some o
 | .xd fs=>∃mA,h.Ns1 a mA/\∀f,RelO (fs.lookup f) (mA f)
 | .rng lo hi=>∃t u v,h.get? a=some { cls:=.type "range",data:=.fields #[.int lo t,.int hi u,.int 1 v] }
 | .frz o u=>h.get? a=some o/\ObjOk H h a u
 | .tbl ps=>h.get? a=some { cls:=.none,data:=.fields ps }
 | .met f x=>h.get? a=some (PySem.W.methodObj (.ref f) (.ref x))
 | .ext φ=>φ h/\(∃o,h.get? a=some o)/\∀h1 h2:Heap,φ h1->(∀o,h1.get? a=some o->h2.get? a=some o)->φ h2
def HOk (H:Hp)(h:Heap):Prop:=∀a o,H a=some o->ObjOk P w H h a o
end
section
variable {P:Program} {w:World} {H H':Hp} {h h':Heap} {a:Addr} {o:HO}
theorem ObjOk.lt (x:ObjOk P w H h a o):a < h.objs.size:=by
 cases o with
 | lst xs=>obtain⟨_,_,_,_,e⟩:=x;exact Qy e
 | tup xs=>obtain⟨_,_,_,p⟩:=x;exact p.lt
 | dK kvs=>obtain⟨_,_,_,_,o,_,_,e,_⟩:=x;exact Qy e
 | dT kvs=>obtain⟨_,_,_,_,o,_,_,e,_⟩:=x;exact Qy e
 | set S n=>obtain⟨o,_,_,_,e,_⟩:=x;exact Qy e
 | ins C dx fs=>obtain⟨_,_,_,e,_⟩:=x;exact Qy e
 | own y=>obtain⟨_,e⟩:=x;exact Qy e
 | xd fs=>obtain⟨_,⟨_,_,_,e,_⟩,_⟩:=x;exact Qy e
 | rng lo hi=>obtain⟨_,_,_,e⟩:=x;exact Qy e
 | frz ob u=>obtain⟨e,_⟩:=x;exact Qy e
 | tbl ps=>exact Qy (show h.get? a=some _ from x)
 | met f y=>exact Qy (show h.get? a=some _ from x)
 | ext φ=>obtain⟨_,⟨_,e⟩,_⟩:=x;exact Qy e
theorem Paired.mapP {α β:Type}{F G:α->β->Prop}:∀ {l₁:List α} {l₂:List β},Paired F l₁ l₂->(∀a b,F a b->G a b)->Paired G l₁ l₂
 | _,_,.nil,_=>.nil
 | _,_,.cons r t,f=>.cons (f _ _ r) (Paired.mapP t f)
theorem ObjOk.stay (x:ObjOk P w H h a o)(k:∀b u,(b=a∨H b=some (.own a))->h.get? b=some u->h'.get? b=some u)
   (ho:∀b,H b=some (.own a)->H' b=some (.own a)) (ht:∀b xs,H b=some (.tup xs)->H' b=some (.tup xs)):ObjOk P w H' h' a o:=by
 induction o with
 | lst xs=>obtain⟨z,its,n,r,e⟩:=x;exact⟨z,its,n,r,k _ _ (.inl rfl) e⟩
 | tup xs=>obtain⟨z,its,r,ob,e,c⟩:=x;exact⟨z,its,r,ob,k _ _ (.inl rfl) e,c⟩
 | dK kvs=>obtain⟨z,y,vs,r,ob,es,ep,e,c⟩:=x;exact⟨z,y,vs,r,ob,es,ep,k _ _ (.inl rfl) e,c⟩
 | dT kvs =>
   obtain⟨z,y,xs,r,ob,es,ep,e,c⟩:=x
   exact⟨z,y,xs,Paired.mapP r fun p q z=>⟨z.1,ht _ _ z.2.1,z.2.2⟩,ob,es,ep,k _ _ (.inl rfl) e,c⟩
 | set S n=>obtain⟨ob,es,ep,t,e,c⟩:=x;exact⟨ob,es,ep,t,k _ _ (.inl rfl) e,c⟩
 | ins C dx fs =>
   obtain⟨d,z,ne,e,mA,⟨od,es,ep,e2,c⟩,r⟩:=x
   exact⟨ho _ d,z,ne,k _ _ (.inl rfl) e,mA,⟨od,es,ep,k _ _ (.inr d) e2,c⟩,r⟩
 | own y=>obtain⟨ob,e⟩:=x;exact⟨ob,k _ _ (.inl rfl) e⟩
 | xd fs=>obtain⟨mA,⟨od,es,ep,e,c⟩,r⟩:=x;exact⟨mA,⟨od,es,ep,k _ _ (.inl rfl) e,c⟩,r⟩
 | rng lo hi=>obtain⟨t,u,v,e⟩:=x;exact⟨t,u,v,k _ _ (.inl rfl) e⟩
 | frz ob u ih=>obtain⟨e,q⟩:=x;exact⟨k _ _ (.inl rfl) e,ih q⟩
 | tbl ps =>
   have e:h.get? a=some { cls:=.none,data:=.fields ps }:=x
   show h'.get? a=some { cls:=.none,data:=.fields ps }
   exact k a _ (.inl rfl) e
 | met f y =>
   have e:h.get? a=some (PySem.W.methodObj (.ref f) (.ref y)):=x
   show h'.get? a=some (PySem.W.methodObj (.ref f) (.ref y))
   exact k a _ (.inl rfl) e
 | ext φ=>obtain⟨p,⟨o,e⟩,st⟩:=x;exact⟨st _ _ p fun o q=>k _ _ (.inl rfl) q,⟨o,k _ _ (.inl rfl) e⟩,st⟩
theorem HOk.lt (x:HOk P w H h)(e:H a=some o):a < h.objs.size:=(x a o e).lt
theorem HOk.fresh (x:HOk P w H h)(e:h.objs.size<=a):H a=none:=by
 cases q:H a with
 | none=>rfl
 | some u=>exact absurd (We (x.lt q) e) (Wt _)
theorem HOk.kept (x:HOk P w H h)(k:∀b u,h.get? b=some u->h'.get? b=some u):HOk P w H h':=fun a o e =>
 (x a o e).stay (fun b u _ q=>k b u q) (fun _ q=>q) fun _ _ q=>q
theorem HOk.laid (x:HOk P w H h)(k:∀b u,h.get? b=some u->h'.get? b=some u)(hp:h.objs.size<=a)(new:ObjOk P w (upd H a o) h' a o):HOk P w (upd H a o) h':=fun b u e=>by
 have hn:=x.fresh hp
 by_cases hb:b=a
 · subst hb;rw[zC] at e;cases e;exact new
 · rw[yQ hb] at e
   exact(x b u e).stay (fun c v _ q=>k c v q) (fun c q=>by rw[yQ (yJ q hn)];exact q) fun c xs q=>by rw[yQ (yJ q hn)];exact q
end
def Rd (H:Hp)(a:Addr)(u:HO):Prop:=H a=some u∨∃o,H a=some (.frz o u)
theorem Rd.ok {P:Program}{w:World}{H:Hp}{h:Heap}{a:Addr}{u:HO}(r:Rd H a u)(x:HOk P w H h):ObjOk P w H h a u:=by
 rcases r with r | ⟨o,r⟩
 · exact x a u r
 · obtain⟨_,q⟩:=x a _ r
   exact q
def Mut:Option HO->Prop
 | some (.lst _)=>True
 | some (.dK _)=>True
 | some (.dT _)=>True
 | some (.set _ _)=>True
 | some (.ins _ _ _)=>True
 | some (.ext _)=>True
 | _=>False
section
variable {P:Program} {w:World} {H:Hp} {h h':Heap} {x e:Addr} {o':HO}
theorem HOk.write (ok:HOk P w H h)(mu:Mut (H x))(he:e=x∨H e=some (.own x))(k:∀b u,b≠e->h.get? b=some u->h'.get? b=some u)(heo:∃u,h'.get? e=some u)
   (new:ObjOk P w (upd H x o') h' x o'):HOk P w (upd H x o') h':=fun b u q=>by
 have nown:∀c y,H c=some (.own y)->c≠x:=fun c y r z=>by subst z;rw[r] at mu;exact mu
 have ntup:∀c xs,H c=some (.tup xs)->c≠x:=fun c xs r z=>by subst z;rw[r] at mu;exact mu
 by_cases hb:b=x
 · subst hb;rw[zC] at q;cases q;exact new
 · rw[yQ hb] at q
   by_cases hbe:b=e
   · have q':H b=some (.own x):=by
       rcases he with z | z
       · exact absurd (hbe.trans z) hb
       · rw[hbe];exact z
     rw[q] at q';cases q'
     obtain⟨v,hv⟩:=heo
     exact⟨v,by rw[hbe];exact hv⟩
   · refine(ok b u q).stay (fun c v hc r=>k c v ?_ r) (fun c r=>by rw[yQ (nown c b r)];exact r) fun c xs r=>by rw[yQ (ntup c xs r)];exact r
     rcases hc with rfl | hc
     · exact hbe
     · rintro rfl
       rcases he with z | z
       · exact nown c b hc z
       · rw[hc] at z;cases z;exact hb rfl
end
structure Un (fs ex:List Addr)(H H':Hp)(h h':Heap):Prop where
 keep:∀b o,h.get? b=some o->H b=none->b∉fs->b∉ex->h'.get? b=some o
 slot:∀b o,h.get? b=some o->H b=none->b∈fs->b∉ex->∃sl,h'.get? b=some { o with slots:=sl }
 free:∀b o,h.get? b=some o->H b=none->b∉ex->H' b=none
 there:∀b o,h.get? b=some o->b∉ex->∃o',h'.get? b=some o'
 tups:∀b xs,H b=some (.tup xs)->H' b=some (.tup xs)
 frzs:∀b o u,H b=some (.frz o u)->H' b=some (.frz o u)
 tbls:∀b ps,H b=some (.tbl ps)->∃more,H' b=some (.tbl (ps++more))
section
variable {fs fs' ex ex':List Addr} {H H1 H2:Hp} {h h1 h2 h':Heap} {a x e:Addr} {o:HO}
theorem Un.any (u:Un fs ex H H1 h h1){b:Addr}{ob:Obj}(q:h.get? b=some ob)(n:H b=none)(hx:b∉ex):∃sl,h1.get? b=some { ob with slots:=sl }:=by
 by_cases hb:b∈fs
 · exact u.slot b ob q n hb hx
 · exact⟨ob.slots,u.keep b ob q n hb hx⟩
theorem Un.trans (a:Un fs ex H H1 h h1)(b:Un fs ex H1 H2 h1 h2):Un fs ex H H2 h h2 where
 keep:=fun c ob q n hc hx=>b.keep c ob (a.keep c ob q n hc hx) (a.free c ob q n hx) hc hx
 slot:=fun c ob q n hc hx=>by
   obtain⟨sl,e1⟩:=a.slot c ob q n hc hx
   obtain⟨sl',e2⟩:=b.slot c _ e1 (a.free c ob q n hx) hc hx
   exact⟨sl',e2⟩
 free:=fun c ob q n hx=>by
   obtain⟨o',e1⟩:=a.there c ob q hx
   exact b.free c o' e1 (a.free c ob q n hx) hx
 there:=fun c ob q hx=>by
   obtain⟨o',e1⟩:=a.there c ob q hx
   exact b.there c o' e1 hx
 tups:=fun c xs q=>b.tups c xs (a.tups c xs q)
 frzs:=fun c ob xs q=>b.frzs c ob xs (a.frzs c ob xs q)
 tbls:=fun c ps q=>by
   obtain⟨m1,e1⟩:=a.tbls c ps q
   obtain⟨m2,e2⟩:=b.tbls c _ e1
   exact⟨m1++m2,by rw[e2,Array.append_assoc]⟩
theorem Un.kept (k:∀b u,h.get? b=some u->h'.get? b=some u):Un fs ex H H h h' :=
 ⟨fun b ob q _ _ _=>k b ob q,fun b ob q _ _ _=>⟨ob.slots,k b ob q⟩,fun _ _ _ n _=>n,fun b ob q _=>⟨ob,k b ob q⟩,fun _ _ q=>q,fun _ _ _ q=>q,fun _ ps q=>⟨#[],by rw[q];simp⟩⟩
theorem Un.refl:Un fs ex H H h h:=Un.kept fun _ _ q=>q
theorem Un.laid (k:∀b u,h.get? b=some u->h'.get? b=some u)(hp:h.objs.size<=a)(hn:H a=none):Un fs ex H (upd H a o) h h' where
 keep:=fun b u q _ _ _=>k b u q
 slot:=fun b u q _ _ _=>⟨u.slots,k b u q⟩
 free:=fun b u q n _=>by rw[yQ (Wu (We (Qy q) hp))];exact n
 there:=fun b u q _=>⟨u,k b u q⟩
 tups:=fun b xs q=>by rw[yQ (yJ q hn)];exact q
 frzs:=fun b u xs q=>by rw[yQ (yJ q hn)];exact q
 tbls:=fun b ps q=>⟨#[],by rw[yQ (yJ q hn),q];simp⟩
theorem Un.write (mu:Mut (H x))(he:e=x∨H e=some (.own x))(k:∀b u,b≠e->h.get? b=some u->h'.get? b=some u)(heo:∃u,h'.get? e=some u):Un fs ex H (upd H x o) h h':=by
 have hx:∀b,H b=none->b≠x:=fun b n z=>by subst z;rw[n] at mu;exact mu
 have hb:∀b,H b=none->b≠e:=fun b n z=>by
   subst z
   rcases he with r | r
   · exact hx b n r
   · rw[n] at r;cases r
 have hm:∀b u,H b=some u->¬Mut (some u)->b≠x:=fun b u q nm z=>by subst z;rw[q] at mu;exact nm mu
 refine⟨fun b u q n _ _=>k b u (hb b n) q,fun b u q n _ _=>⟨u.slots,k b u (hb b n) q⟩,fun b u q n _=>by rw[yQ (hx b n)];exact n,fun b u q _=>?_,
   fun b xs q=>by rw[yQ (hm b _ q fun z=>z)];exact q,fun b u xs q=>by rw[yQ (hm b _ q fun z=>z)];exact q,fun b ps q=>⟨#[],by rw[yQ (hm b _ q fun z=>z),q];simp⟩⟩
 by_cases hbe:b=e
 · subst hbe;exact heo
 · exact⟨u,k b u hbe q⟩
end
def trk (h:Heap)(H:Hp):List Addr:=(List.range h.objs.size).filter fun a=>(H a).isSome
def zVI (h:Heap)(H:Hp):Heap:=PySem.W.hideAll h (trk h H)
theorem zRc (h:Heap)(H:Hp):(zVI h H).objs.size=h.objs.size:=PySem.W.hideAll_size _ _
theorem zP5 {h:Heap}{H:Hp}{b:Addr}{o:Obj}(e:h.get? b=some o)(n:H b=none):(zVI h H).get? b=some o :=
 PySem.W.hideAll_get _ e fun hm=>by
   have q:(H b).isSome=true:=(List.mem_filter.mp hm).2
   rw[n] at q;simp at q
theorem zN4 {h:Heap}{H:Hp}{b:Addr}{o:Obj}(e:(zVI h H).get? b=some o):h.get? b=some o/\H b=none:=by
 have e':h.get? b=some o:=PySem.W.of_hideAll (trk h H) e
 refine⟨e',?_⟩
 cases q:H b with
 | none=>rfl
 | some x =>
   have hm:b∈trk h H:=List.mem_filter.mpr ⟨Es.mpr (Qy e'),by simp[q]⟩
   have z:(zVI h H).get? b=none:=PySem.W.hideAll_none (trk h H) hm
   rw[z] at e;cases e
def zNv (g h:Heap)(L:Addr):List (Addr×Obj):=(List.range h.objs.size).filterMap fun a=>if a=L∨(g.get? a).isSome=true then none else(h.get? a).map fun o=>(a,o)
def rest (g h:Heap)(L d:Addr):List (Addr×Obj):=(zNv g h L).filter fun p=>decide (p.1≠d)
structure Mod (K:PySem.W.Frag)(mg:Str->Option Value)(base:Heap):Prop where
 kin:K.In base
 glob:base.Ns mainGlobals mg
 blt:∃mb,base.Ns builtinsNs mb/\∀x:Str,x≠"__name__"->mb x=bootBuiltins x
 nolimit:base.NoLimit
/-- the context: a def's body (or a comprehension's block) running. base: fixed through the whole law; s₀, H₀: the entry; outer: the frames whose slots others may change (a def's callers); stack: all frames that run;
  ex: iterators that were made ahead of the entry and are walked here (a comprehension's);fn: the names whose cells were made at the entry (a def: all;a comprehension's block: its own);calm: not within an except suite;pn: pins that every state bears;xe: what is wanted of an exception that leaves the code -/
structure Cx where
 prog:Program
 w:World
 K:PySem.W.Frag
 mg:Str->Option Value
 base:Heap
 A:Around
 N:List Str
 s₀:Shared
 H₀:Hp
 env:Env
 outer:List Env
 stack:List Env
 ex:List Addr
 fn:Str->Bool
 calm:Bool
 pn:List (Addr×Obj)
 xe:Value->Shared->Prop
def frs (l:List Env):List Addr:=l.filterMap (·.frame)
abbrev Cx.fs (X:Cx):List Addr:=frs X.outer
def Vis (sc:Scope)(x:Str):Prop:=sc.names.lookup x=some .local∨sc.names.lookup x=some .cell∨sc.names.lookup x=some .free
def Loc (sc:Scope)(x:Str):Prop:=sc.names.lookup x=some .local∨sc.names.lookup x=some .cell
def zKf (env:Env)(h:Heap)(m:Str->Option Value)(x:Str)(u:Value):Prop :=
 (env.kindOf x=some .local/\m x=some u)∨((env.kindOf x=some .cell∨env.kindOf x=some .free)/\∃c,env.cells.lookup x=some c/\h.IsCell c (some u))
structure Cx.Ok (X:Cx):Prop where
 mod:Mod X.K X.mg X.base
 kind:X.env.scope.kind = .function
 glob:X.env.globals=mainGlobals
 blt:X.env.builtins=builtinsNs
 above:X.s₀.heap.objs.size<=X.env.locals
 inj:∀x y c,X.env.cells.lookup x=some c->X.env.cells.lookup y=some c->x=y
 has:∀x,(X.env.kindOf x=some .cell∨X.env.kindOf x=some .free)->∃c,X.env.cells.lookup x=some c
 cab:∀x c,X.fn x=true->X.env.cells.lookup x=some c->X.s₀.heap.objs.size<=c
 hd:X.calm=true->X.A.handled=none
 frames:X.A.frames=some X.stack
 stk:X.stack=X.outer∨(X.stack=X.env::X.outer/\X.env.frame=some X.env.locals)
 exf:∀b∈X.ex,b≠X.env.locals/\∀x c,X.env.cells.lookup x=some c->c≠b
 bs:∀b o,X.base.get? b=some o->X.s₀.heap.get? b=some o/\X.H₀ b=none
 bsz:X.base.objs.size<=X.s₀.heap.objs.size
 noex:∀b o,X.base.get? b=some o->b∉X.ex
 exfs:∀b∈X.ex,b∉X.fs
 funs:X.s₀.heap.FunFrames X.base X.outer
 frf:∀b∈X.fs,X.H₀ b=none
structure Inv (X:Cx)(pins:List (Addr×Obj))(σ:List (Option V))(H:Hp)(s:Shared):Prop where
 ok:X.Ok
 os:s.os=X.s₀.os
 bare:AllBare s.gens
 base:Un X.fs X.ex X.H₀ H X.s₀.heap s.heap
 loc:∃m,s.heap.Ns X.env.locals m/\∀(i:Nat) (x:Str) (v:V),X.N[i]?=some x->σ[i]?=some (some v)->Vis X.env.scope x->∃u,RelV v u/\zKf X.env s.heap m x u
 cell:∀x c,X.env.cells.lookup x=some c->∃v,s.heap.IsCell c v
 free:H X.env.locals=none
 freeC:∀x c,X.env.cells.lookup x=some c->H c=none
 pin:∀p∈X.pn++pins,s.heap.get? p.1=some p.2/\H p.1=none/\p.1≠X.env.locals/\p.1∉X.fs/\∀v,p.2.data ≠ .cell v
 hok:HOk X.prog X.w H s.heap
 len:σ.length=X.N.length
section
variable {X:Cx} {pins:List (Addr×Obj)} {σ:List (Option V)} {H H':Hp} {s:Shared} {h':Heap}
theorem Cx.Ok.nofr (ok:X.Ok){b:Addr}{o:Obj}(e:X.base.get? b=some o):b∉X.fs:=fun hb=>by
 have:=(ok.funs.mem hb).1
 rw[e] at this;cases this
theorem Inv.bs (I:Inv X pins σ H s):∀b o,X.base.get? b=some o->s.heap.get? b=some o/\H b=none:=fun b o e =>
 ⟨I.base.keep b o (I.ok.bs b o e).1 (I.ok.bs b o e).2 (I.ok.nofr e) (I.ok.noex b o e),I.base.free b o (I.ok.bs b o e).1 (I.ok.bs b o e).2 (I.ok.noex b o e)⟩
theorem Inv.bk (I:Inv X pins σ H s):∀b o,X.base.get? b=some o->s.heap.get? b=some o:=fun b o e=>(I.bs b o e).1
theorem Inv.mod (I:Inv X pins σ H s):Mod X.K X.mg X.base:=I.ok.mod
theorem Inv.kIn (I:Inv X pins σ H s):X.K.In s.heap:=I.ok.mod.kin.keeps I.bk
theorem Inv.lt (I:Inv X pins σ H s):X.env.locals < s.heap.objs.size:=let ⟨_,hn,_⟩:=I.loc;hn.lt
theorem Inv.sz (I:Inv X pins σ H s):X.s₀.heap.objs.size<=s.heap.objs.size:=Eu I.ok.above (Wj I.lt)
theorem Inv.nofs (I:Inv X pins σ H s){a:Addr}(h:s.heap.objs.size<=a):a∉X.fs:=fun hb=>by
 obtain⟨_,o,ho,_⟩:=I.ok.funs.mem hb
 exact absurd (We (Qy ho) (Eu I.sz h)) (Wt _)
theorem Inv.cne (I:Inv X pins σ H s):∀x c,X.env.cells.lookup x=some c->c≠X.env.locals:=fun x c e z=>by
 obtain⟨v,o,ho,hd⟩:=I.cell x c e
 obtain⟨m,⟨o',es,ep,ho',hd',_⟩,_⟩:=I.loc
 rw[z,ho'] at ho;cases ho;rw[hd'] at hd;cases hd
theorem Inv.funs (I:Inv X pins σ H s):s.heap.FunFrames X.base X.outer:=by
 have all:∀(l:List Env),(∀b∈frs l,b∈X.fs)->X.s₀.heap.FunFrames X.base l->s.heap.FunFrames X.base l:=by
   intro l
   induction l with
   | nil=>intro _ _;trivial
   | cons env r ih =>
     intro hs hl
     obtain⟨hk,⟨L,o,hf,hn,ho,hd⟩,hr⟩:=hl
     have hL:L∈X.fs:=hs L (by unfold frs;rw[Yu,hf];exact Qf)
     obtain⟨sl,e⟩:=I.base.slot L o ho (I.ok.frf L hL) hL fun z=>I.ok.exfs L z hL
     exact⟨hk,⟨L,_,hf,hn,e,hd⟩,ih (fun b hb=>hs b (by unfold frs;rw[Yu,hf];exact Qd _ hb)) hr⟩
 exact all X.outer (fun _ hb=>hb) I.ok.funs
theorem Inv.stack (I:Inv X pins σ H s):s.heap.FunFrames X.base X.stack:=by
 rcases I.ok.stk with e | ⟨e,hf⟩
 · rw[e];exact I.funs
 · rw[e]
   obtain⟨m,hn,_⟩:=I.loc
   refine .cons (by rw[I.ok.kind];decide) hf hn ?_ I.funs
   exact Heap.get?_none_of_le (Eu I.ok.bsz I.ok.above)
theorem Inv.stkSub (I:Inv X pins σ H s):∀b∈frs X.stack,b∈X.env.locals::X.fs:=fun b hb=>by
 rcases I.ok.stk with e | ⟨e,hf⟩
 · rw[e] at hb;exact Qd _ hb
 · rw[e] at hb
   unfold frs at hb
   rw[Yu,hf] at hb
   exact hb
theorem Inv.stkFree (I:Inv X pins σ H s):∀b∈frs X.stack,H b=none:=fun b hb=>by
 rcases Qj.mp (I.stkSub b hb) with e | hb
 · rw[e];exact I.free
 · obtain⟨_,o,ho,_⟩:=I.ok.funs.mem hb
   exact I.base.free b o ho (I.ok.frf b hb) fun z=>I.ok.exfs b z hb
theorem Inv.step {g':Array GenState}{t':Nat}{d':Drawn}{ch:List Addr}(I:Inv X pins σ H s)
   (hch:∀b∈ch,(b∈X.ex∨X.s₀.heap.objs.size<=b)/\b≠X.env.locals/\(∀x c,X.env.cells.lookup x=some c->c≠b)/\∀p∈X.pn++pins,p.1≠b)
   (keep:∀b o,b≠X.env.locals->b∉X.fs->b∉ch->s.heap.get? b=some o->H b=none->h'.get? b=some o)
   (slot:∀b o,b≠X.env.locals->b∈X.fs->b∉ch->s.heap.get? b=some o->H b=none->∃sl,h'.get? b=some { o with slots:=sl }) (free:∀b o,b∉ch->s.heap.get? b=some o->H b=none->H' b=none)
   (there:∀b o,b∉ch->s.heap.get? b=some o->∃o',h'.get? b=some o')
   (tups:∀b xs,H b=some (.tup xs)->H' b=some (.tup xs)) (frzs:∀b o u,H b=some (.frz o u)->H' b=some (.frz o u)) (tbls:∀b ps,H b=some (.tbl ps)->∃more,H' b=some (.tbl (ps++more)))
   (ns:∀m,s.heap.Ns X.env.locals m->h'.Ns X.env.locals m) (hok:HOk X.prog X.w H' h') (hg:AllBare g') :
   Inv X pins σ H' { s with heap:=h',gens:=g',drawn:=d',toks:=t' }:=by
 have neL:∀b o,X.s₀.heap.get? b=some o->b≠X.env.locals:=fun b o e=>Wu (We (Qy e) I.ok.above)
 have neC:∀b o,X.s₀.heap.get? b=some o->b∉X.ex->b∉ch:=fun b o e hx hb=>by
   rcases(hch b hb).1 with z | z
   · exact hx z
   · exact absurd (We (Qy e) z) (Wt _)
 have cellK:∀x c,X.env.cells.lookup x=some c->∀v,s.heap.IsCell c v->h'.IsCell c v:=fun x c e v ⟨o,ho,hd⟩=>by
   have nch:c∉ch:=fun z=>(hch c z).2.2.1 x c e rfl
   by_cases hc:c∈X.fs
   · obtain⟨sl,q⟩:=slot c o (I.cne x c e) hc nch ho (I.freeC x c e)
     exact⟨_,q,hd⟩
   · exact⟨o,keep c o (I.cne x c e) hc nch ho (I.freeC x c e),hd⟩
 refine⟨I.ok,I.os,hg,⟨fun b o e n hb hx=>?_,fun b o e n hb hx=>?_,fun b o e n hx=>?_,fun b o e hx=>?_,fun b xs e=>tups b xs (I.base.tups b xs e),fun b o xs e=>frzs b o xs (I.base.frzs b o xs e),fun b ps e=>?_⟩,?_,fun x c e=>?_,?_,fun x c e=>?_,fun p hp=>?_,hok,I.len⟩
 · exact keep b o (neL b o e) hb (neC b o e hx) (I.base.keep b o e n hb hx) (I.base.free b o e n hx)
 · obtain⟨sl,e1⟩:=I.base.slot b o e n hb hx
   obtain⟨sl',e2⟩:=slot b _ (neL b o e) hb (neC b o e hx) e1 (I.base.free b o e n hx)
   exact⟨sl',e2⟩
 · obtain⟨o',e1⟩:=I.base.there b o e hx
   exact free b o' (neC b o e hx) e1 (I.base.free b o e n hx)
 · obtain⟨o',e1⟩:=I.base.there b o e hx
   exact there b o' (neC b o e hx) e1
 · obtain⟨m1,e1⟩:=I.base.tbls b ps e
   obtain⟨m2,e2⟩:=tbls b _ e1
   exact⟨m1++m2,by rw[e2,Array.append_assoc]⟩
 · obtain⟨m,hn,hl⟩:=I.loc
   refine⟨m,ns m hn,fun i x v e1 e2 e3=>?_⟩
   obtain⟨u,r,l⟩:=hl i x v e1 e2 e3
   refine⟨u,r,?_⟩
   rcases l with l | ⟨k,c,e,z⟩
   · exact .inl l
   · exact .inr ⟨k,c,e,cellK x c e _ z⟩
 · obtain⟨v,z⟩:=I.cell x c e
   exact⟨v,cellK x c e v z⟩
 · obtain⟨m,⟨o,_,_,ho,_⟩,_⟩:=I.loc
   exact free _ o (fun z=>(hch _ z).2.1 rfl) ho I.free
 · obtain⟨v,o,ho,hd⟩:=I.cell x c e
   exact free c o (fun z=>(hch c z).2.2.1 x c e rfl) ho (I.freeC x c e)
 · obtain⟨e,n,ne,nf,d⟩:=I.pin p hp
   have nch:p.1∉ch:=fun z=>(hch p.1 z).2.2.2 p hp rfl
   exact⟨keep p.1 p.2 ne nf nch e n,free p.1 p.2 nch e n,ne,nf,d⟩
theorem Inv.un {t':Nat}(I:Inv X pins σ H s)(u:Un X.fs [] H H' s.heap h')(hok:HOk X.prog X.w H' h'):Inv X pins σ H' { s with heap:=h',toks:=t' }:=by
 obtain⟨m,⟨o,es,ep,ho,r⟩,_⟩:=id I.loc
 obtain⟨sl,hL⟩:=u.any ho I.free (by simp)
 exact I.step (g':=s.gens) (d':=s.drawn) (ch:=[]) (fun _ z=>nomatch z) (fun b o _ hb _ e n=>u.keep b o e n hb (by simp)) (fun b o _ hb _ e n=>u.slot b o e n hb (by simp)) (fun b o _ e n=>u.free b o e n (by simp)) (fun b o _ e=>u.there b o e (by simp)) u.tups u.frzs u.tbls (fun m' hm=>by
   obtain⟨o',es',ep',ho',r'⟩:=hm
   rw[ho] at ho';cases ho'
   exact⟨_,es',ep',hL,r'⟩) hok I.bare
theorem Inv.call {g':Array GenState}{t':Nat}{d':Drawn}{ch:List Addr}(I:Inv X pins σ H s)(u:Un (frs X.stack) ch H H' s.heap h')(hok:HOk X.prog X.w H' h')(hg:AllBare g')
   (hch:∀b∈ch,(b∈X.ex∨X.s₀.heap.objs.size<=b)/\b≠X.env.locals/\(∀x c,X.env.cells.lookup x=some c->c≠b)/\∀p∈X.pn++pins,p.1≠b) :
   Inv X pins σ H' { s with heap:=h',gens:=g',drawn:=d',toks:=t' }:=by
 obtain⟨m,⟨o,es,ep,ho,r⟩,_⟩:=id I.loc
 obtain⟨sl,hL⟩:=u.any ho I.free fun z=>(hch _ z).2.1 rfl
 exact I.step (ch:=ch) hch (fun b o hL hb hc e n=>u.keep b o e n (fun z=>(Qj.mp (I.stkSub b z)).elim hL hb) hc) (fun b o _ _ hc e n=>u.any e n hc) (fun b o hc e n=>u.free b o e n hc) (fun b o hc e=>u.there b o e hc) u.tups u.frzs u.tbls (fun m' hm=>by
   obtain⟨o',es',ep',ho',r'⟩:=hm
   rw[ho] at ho';cases ho'
   exact⟨_,es',ep',hL,r'⟩) hok hg
theorem Inv.turned {t':Nat}{it:Addr}(I:Inv X pins σ H s)(k:∀b o,b≠it->s.heap.get? b=some o->h'.get? b=some o)(hn:H it=none)(hL:it≠X.env.locals)
   (h1:it∈X.ex∨X.s₀.heap.objs.size<=it) (h2:∀x c,X.env.cells.lookup x=some c->c≠it) (h3:∀p∈X.pn++pins,p.1≠it):Inv X pins σ H { s with heap:=h',toks:=t' }:=by
 have nit:∀b u,H b=some u->b≠it:=fun b u e z=>by rw[z,hn] at e;cases e
 refine I.step (g':=s.gens) (d':=s.drawn) (ch:=[it]) (fun b hb=>?_) (fun b o _ _ hc e _=>k b o (fun z=>hc (by simp[z])) e) (fun b o _ _ hc e _=>⟨o.slots,k b o (fun z=>hc (by simp[z])) e⟩) (fun _ _ _ _ n=>n)
   (fun b o hc e=>⟨o,k b o (fun z=>hc (by simp[z])) e⟩) (fun _ _ e=>e) (fun _ _ _ e=>e) (fun b ps e=>⟨#[],by rw[e];simp⟩) (fun m hm=>?_) (fun b u e=>?_) I.bare
 · have e:b=it:=by simpa using hb
   subst e
   exact⟨h1,hL,h2,h3⟩
 · obtain⟨o,es,ep,ho,r⟩:=hm
   exact⟨o,es,ep,k _ o (Ne.symm hL) ho,r⟩
 · refine(I.hok b u e).stay (fun c v hc q=>k c v ?_ q) (fun _ q=>q) fun _ _ q=>q
   rcases hc with z | z
   · rw[z];exact nit b u e
   · exact nit c _ z
theorem Inv.tok (I:Inv X pins σ H s)(t:Nat):Inv X pins σ H { s with toks:=t }:=I.un (h':=s.heap) (t':=t) Un.refl I.hok
theorem Inv.kept {t':Nat}(I:Inv X pins σ H s)(k:∀b u,s.heap.get? b=some u->h'.get? b=some u):Inv X pins σ H { s with heap:=h',toks:=t' }:=I.un (Un.kept k) (I.hok.kept k)
theorem Inv.laid {a:Addr}{o:HO}{t':Nat}(I:Inv X pins σ H s)(k:∀b u,s.heap.get? b=some u->h'.get? b=some u)(hp:s.heap.objs.size<=a)(new:ObjOk X.prog X.w (upd H a o) h' a o) :
   Inv X pins σ (upd H a o) { s with heap:=h',toks:=t' }:=I.un (Un.laid k hp (I.hok.fresh hp)) (I.hok.laid k hp new)
theorem Inv.write {x e:Addr}{o:HO}{t':Nat}(I:Inv X pins σ H s)(mu:Mut (H x))(he:e=x∨H e=some (.own x))(k:∀b u,b≠e->s.heap.get? b=some u->h'.get? b=some u)(heo:∃u,h'.get? e=some u)
   (new:ObjOk X.prog X.w (upd H x o) h' x o):Inv X pins σ (upd H x o) { s with heap:=h',toks:=t' }:=I.un (Un.write mu he k heo) (I.hok.write mu he k heo new)
theorem Inv.pins_of {pins':List (Addr×Obj)}(I:Inv X pins σ H s)(h:∀p∈pins',s.heap.get? p.1=some p.2/\H p.1=none/\p.1≠X.env.locals/\p.1∉X.fs/\∀v,p.2.data ≠ .cell v):Inv X pins' σ H s :=
 ⟨I.ok,I.os,I.bare,I.base,I.loc,I.cell,I.free,I.freeC,fun p hp=>(Eh.mp hp).elim (fun z=>I.pin p (Ux _ z)) (h p),I.hok,I.len⟩
theorem zU3 {N:List Str}(hN:N.Nodup){i j:Nat}{x:Str}(a:N[i]?=some x)(b:N[j]?=some x):i=j:=by
 obtain⟨h1,e1⟩:=Qk.mp a
 obtain⟨h2,e2⟩:=Qk.mp b
 exact(List.getElem_inj hN).mp (e1.trans e2.symm)
theorem cM {M:Model}{A:Around}{E:Value->Shared->Prop}{i:Nat}{x:Str}{v:V}{u:Value}{Q:Unit->Shared->Prop}(I:Inv X pins σ H s)(hN:X.N.Nodup)(hi:X.N[i]?=some x)(hx:Loc X.env.scope x)(r:RelV v u)
   (h:∀s',Inv X pins (σ.set i (some v)) H s'->(∃a,Heap.SameBut a s.heap s'.heap/\(a=X.env.locals∨X.env.cells.lookup x=some a))->Q () s') (hf:X.fn x=true∨X.env.scope.names.lookup x=some .local:=by first | exact .inl rfl | exact .inr rfl | assumption):wpAny M A (storeName X.env x u) Q E s:=by
 obtain⟨m,hn,hl⟩:=id I.loc
 have hcls:(X.env.scope.kind == .class||(X.env.scope.kind == .module&&X.env.locals != X.env.globals))=false:=by rw[I.ok.kind];rfl
 have hiσ:i < σ.length:=by rw[I.len];exact(Qk.mp hi).1
 have cne:=I.cne
 have tracked:∀ {a:Addr} {h':Heap},(∃o,s.heap.get? a=some o/\H a=none)->Heap.SameBut a s.heap h'->HOk X.prog X.w H h':=fun {a h'} ha hs b ob e=>by
   obtain⟨_,_,hfree⟩:=ha
   refine(I.hok b ob e).stay (fun c w' hc q=>(hs.2 c ?_).trans q) (fun _ q=>q) fun _ _ q=>q
   rintro rfl
   rcases hc with rfl | hc
   · rw[hfree] at e;cases e
   · rw[hfree] at hc;cases hc
 rcases hx with hk | hk
 · refine wpAny_storeName_local hk hn (fun h' hn' hs=>?_) hcls
   obtain⟨oL,_,_,hoL,_⟩:=id hn
   refine h _ ⟨I.ok,I.os,I.bare,⟨fun b o e n hb hx=>?_,fun b o e n hb hx=>?_,I.base.free,fun b o e hx=>?_,I.base.tups,I.base.frzs,I.base.tbls⟩,⟨_,hn',fun j y v' e1 e2 e3=>?_⟩,fun y c e=>?_,I.free,I.freeC,fun p hp=>?_,tracked ⟨oL,hoL,I.free⟩ hs,by simpa using I.len⟩ ⟨_,hs,.inl rfl⟩
   · exact(hs.2 b (Wu (We (Qy e) I.ok.above))).trans (I.base.keep b o e n hb hx)
   · obtain⟨sl,e1⟩:=I.base.slot b o e n hb hx
     exact⟨sl,(hs.2 b (Wu (We (Qy e) I.ok.above))).trans e1⟩
   · obtain⟨o',e1⟩:=I.base.there b o e hx
     exact⟨o',(hs.2 b (Wu (We (Qy e) I.ok.above))).trans e1⟩
   · by_cases hj:j=i
     · subst hj
       rw[hi] at e1;cases e1
       rw[Ea hiσ] at e2
       cases e2
       exact⟨u,r,.inl ⟨hk,by simp⟩⟩
     · rw[Wi (Ne.symm hj)] at e2
       obtain⟨u',r',q⟩:=hl j y v' e1 e2 e3
       refine⟨u',r',?_⟩
       rcases q with⟨k,e⟩ | ⟨k,c,e,z⟩
       · refine .inl ⟨k,?_⟩
         have:y≠x:=fun e=>hj (zU3 hN e1 (e ▸ hi))
         simp[this,e]
       · exact .inr ⟨k,c,e,z.sameBut hs (cne y c e)⟩
   · obtain⟨w',z⟩:=I.cell y c e
     exact⟨w',z.sameBut hs (cne y c e)⟩
   · obtain⟨e,n,ne,nf,d⟩:=I.pin p hp
     exact⟨(hs.2 p.1 ne).trans e,n,ne,nf,d⟩
 · have hfn:X.fn x=true:=by
     rcases hf with z | z
     · exact z
     · rw[z] at hk;cases hk
   obtain⟨c,hc⟩:=I.ok.has x (.inl hk)
   obtain⟨w',z⟩:=I.cell x c hc
   refine wpAny_storeName_cell I.ok.kind hk hc z (fun h' hc' hs=>?_)
   obtain⟨oc,hoc,hocd⟩:=id z
   refine h { s with heap:=h' } ⟨I.ok,I.os,I.bare,⟨fun b o e n hb hx=>?_,fun b o e n hb hx=>?_,I.base.free,fun b o e hx=>?_,I.base.tups,I.base.frzs,I.base.tbls⟩,⟨m,hn.sameBut hs (Ne.symm (cne x c hc)),fun j y v' e1 e2 e3=>?_⟩,fun y c' e=>?_,I.free,I.freeC,fun p hp=>?_,tracked ⟨oc,hoc,I.freeC x c hc⟩ hs,by simpa using I.len⟩ ⟨c,hs,.inr hc⟩
   · exact(hs.2 b (Wu (We (Qy e) (I.ok.cab x c hfn hc)))).trans (I.base.keep b o e n hb hx)
   · obtain⟨sl,e1⟩:=I.base.slot b o e n hb hx
     exact⟨sl,(hs.2 b (Wu (We (Qy e) (I.ok.cab x c hfn hc)))).trans e1⟩
   · obtain⟨o',e1⟩:=I.base.there b o e hx
     exact⟨o',(hs.2 b (Wu (We (Qy e) (I.ok.cab x c hfn hc)))).trans e1⟩
   · by_cases hj:j=i
     · subst hj
       rw[hi] at e1;cases e1
       rw[Ea hiσ] at e2
       cases e2
       exact⟨u,r,.inr ⟨.inl hk,c,hc,hc'⟩⟩
     · rw[Wi (Ne.symm hj)] at e2
       obtain⟨u',r',q⟩:=hl j y v' e1 e2 e3
       refine⟨u',r',?_⟩
       rcases q with q | ⟨k,c',e,z'⟩
       · exact .inl q
       · refine .inr ⟨k,c',e,z'.sameBut hs ?_⟩
         rintro rfl
         exact hj (zU3 hN e1 (I.ok.inj _ _ _ e hc ▸ hi))
   · by_cases hcc:c'=c
     · subst hcc;exact⟨_,hc'⟩
     · obtain⟨w2,z2⟩:=I.cell y c' e
       exact⟨w2,z2.sameBut hs hcc⟩
   · obtain⟨e,n,ne,nf,d⟩:=I.pin p hp
     refine⟨(hs.2 p.1 ?_).trans e,n,ne,nf,d⟩
     intro q
     rw[q,hoc] at e
     have q':oc=p.2:=Wa e
     exact d w' (by rw[←q'];exact hocd)
theorem zYK {M:Model}{A:Around}{E:Value->Shared->Prop}{i:Nat}{x:Str}{v:V}{u:Value}{Q:Unit->Shared->Prop}(I:Inv X pins σ H s)(hN:X.N.Nodup)(hi:X.N[i]?=some x)(hx:Loc X.env.scope x)(r:RelV v u)
   (h:∀s',Inv X pins (σ.set i (some v)) H s'->Q () s') (hf:X.fn x=true∨X.env.scope.names.lookup x=some .local:=by first | exact .inl rfl | exact .inr rfl | assumption):wpAny M A (storeName X.env x u) Q E s :=
 cM I hN hi hx r (fun s' I' _=>h s' I') hf
theorem Inv.call' {s':Shared}{ch:List Addr}(I:Inv X pins σ H s)(ho:s'.os=s.os)(u:Un (frs X.stack) ch H H' s.heap s'.heap)(hok:HOk X.prog X.w H' s'.heap)(hg:AllBare s'.gens)
   (hch:∀b∈ch,(b∈X.ex∨X.s₀.heap.objs.size<=b)/\b≠X.env.locals/\(∀x c,X.env.cells.lookup x=some c->c≠b)/\∀p∈X.pn++pins,p.1≠b):Inv X pins σ H' s':=by
 obtain⟨h',g',d',t',o'⟩:=s'
 have e:o'=s.os:=ho
 subst e
 exact I.call (g':=g') (t':=t') (d':=d') u hok hg hch
end
abbrev XK:=Value->Option Addr->Hp->Prop
abbrev St:=List (Option V)
abbrev VK:=V->Hp->Prop
abbrev TE:=St->Hp->VK->Prop
abbrev TT:=St->Hp->(Bool->Hp->Prop)->Prop
abbrev TA:=St->Hp->(List V->Hp->Prop)->Prop
structure Ends where
 nx:St->Hp->Prop
 rt:VK
 bk:St->Hp->Prop:=fun _ _=>False
 ct:St->Hp->Prop:=fun _ _=>False
abbrev TS:=Ends->St->Hp->Prop
def EP (X:Cx)(pins:List (Addr×Obj))(σ:St)(Q:VK)(u:Value)(s':Shared):Prop:=∃v H',Inv X pins σ H' s'/\RelV v u/\Q v H'
def TP (X:Cx)(pins:List (Addr×Obj))(σ:St)(Q:Bool->Hp->Prop)(b:Bool)(s':Shared):Prop:=∃H',Inv X pins σ H' s'/\Q b H'
def AP (X:Cx)(pins:List (Addr×Obj))(σ:St)(Q:List V->Hp->Prop)(us:List Value)(s':Shared):Prop:=∃vs H',Inv X pins σ H' s'/\Vals vs us/\Q vs H'
def SP (X:Cx)(pins:List (Addr×Obj))(D:Ends)(f:Flow)(s':Shared):Prop :=
 match f with
 | .next=>∃σ' H',Inv X pins σ' H' s'/\D.nx σ' H'
 | .brk=>∃σ' H',Inv X pins σ' H' s'/\D.bk σ' H'
 | .cont=>∃σ' H',Inv X pins σ' H' s'/\D.ct σ' H'
 | .ret u=>∃v σ' H',Inv X pins σ' H' s'/\RelV v u/\D.rt v H'
def PE (X:Cx)(e:Expr)(t:TE):Prop :=
 ∀(pins:List (Addr×Obj)) (s:Shared) (σ:St) (H:Hp) (Q:VK),Inv X pins σ H s->t σ H Q->wpAny (model X.prog X.w) X.A (eval e X.env) (EP X pins σ Q) X.xe s
def PT (X:Cx)(e:Expr)(t:TT):Prop :=
 ∀(pins:List (Addr×Obj)) (s:Shared) (σ:St) (H:Hp) (Q:Bool->Hp->Prop),Inv X pins σ H s->t σ H Q->wpAny (model X.prog X.w) X.A (isTrue e X.env (eval e X.env)) (TP X pins σ Q) X.xe s
def PW (X:Cx)(e:Expr)(t:TT):Prop :=
 ∀(whole:Sem Value) (pins:List (Addr×Obj)) (s:Shared) (σ:St) (H:Hp) (Q:Bool->Hp->Prop),Inv X pins σ H s->t σ H Q->wpAny (model X.prog X.w) X.A (isTrue e X.env whole) (TP X pins σ Q) X.xe s
theorem PW.pt {X:Cx}{e:Expr}{t:TT}(h:PW X e t):PT X e t:=h _
def PA (X:Cx)(es:List Expr)(t:TA):Prop :=
 ∀(pos:Pos) (pins:List (Addr×Obj)) (s:Shared) (σ:St) (H:Hp) (Q:List V->Hp->Prop),Inv X pins σ H s->t σ H Q->wpAny (model X.prog X.w) X.A (spliced (backTo pos (starEach es X.env))) (AP X pins σ Q) X.xe s
def PS (X:Cx)(st:Stmt)(t:TS):Prop :=
 ∀(pins:List (Addr×Obj)) (s:Shared) (σ:St) (H:Hp) (D:Ends),Inv X pins σ H s->t D σ H->wpAny (model X.prog X.w) X.A (exec st X.env) (SP X pins D) X.xe s
def PSs (X:Cx)(st:List Stmt)(t:TS):Prop :=
 ∀(pins:List (Addr×Obj)) (s:Shared) (σ:St) (H:Hp) (D:Ends),Inv X pins σ H s->t D σ H->wpAny (model X.prog X.w) X.A (execs st X.env) (SP X pins D) X.xe s
theorem thn {α:Type}{t:Sem α}{Q Q':α->Shared->Prop}{M:Model}{A:Around}{E:Value->Shared->Prop}{s:Shared}(h:wpAny M A t Q E s)(hQ:∀a s,Q a s->Q' a s):wpAny M A t Q' E s:=Rq h hQ fun _ _ x=>x
section
variable {X:Cx}
def zNo (i:Nat):TE:=fun σ H Q=>∃v,σ[i]?=some (some v)/\Q v H
def tC (v:V):TE:=fun _ H Q=>Q v H
theorem pK {i:Nat}{x:Str}{pos:Pos}(hN:X.N[i]?=some x)(hv:Vis X.env.scope x)(hd:(x==("__debug__":Str))=false:=by decide)(hcd:(x==("__classdict__":Str))=false:=by decide):PE X (.Name x pos) (zNo i):=by
 intro pins s σ H Q I h
 obtain⟨v,e,h⟩:=h
 obtain⟨m,hn,hl⟩:=I.loc
 obtain⟨u,r,l⟩:=hl i x v hN e hv
 have fin:EP X pins σ Q u s:=⟨v,H,I,r,h⟩
 rcases l with⟨hk,hm⟩ | ⟨hk,c,hc,hcell⟩
 · exact wpAny_Name (wpAny_loadName_local I.ok.kind hk hn hm fin) hd
 · rcases hk with hk | hk
   · exact wpAny_Name (wpAny_loadName_cell I.ok.kind hk hc hcell fin) hd
   · exact wpAny_Name (wpAny_loadName_free I.ok.kind hk hc hcell fin hcd) hd
theorem zMh {i j pos}:PE X (.Constant (.int i) j pos) (tC (.int i)):=fun _ _ _ H _ I h=>wpAny_Constant_int ⟨.int i,H,I.tok _,⟨_,rfl⟩,h⟩
theorem zK9 {b j pos}:PE X (.Constant (.bool b) j pos) (tC (.bl b)):=fun _ _ _ H _ I h=>Constant_bool ⟨.bl b,H,I,rfl,h⟩
theorem zQr {j pos}:PE X (.Constant .none j pos) (tC .non):=fun _ _ _ H _ I h=>Constant_none ⟨.non,H,I,rfl,h⟩
theorem zLn {x j pos}:PE X (.Constant (.str x) j pos) (tC (.str x)):=fun _ _ _ H _ I h=>Calls.Constant_str ⟨.str x,H,I.tok _,⟨_,rfl⟩,h⟩
def Gl (X:Cx)(x:Str):Prop:=X.env.kindOf x=some .globalImplicit
theorem iP {E:Value->Shared->Prop}{pins:List (Addr×Obj)}{s:Shared}{σ:St}{H:Hp}{x:Str}{u:Value}{pos:Pos}{Q:Value->Shared->Prop}(I:Inv X pins σ H s)(hg:Gl X x)(hm:X.mg x=some u)(h:Q u s)
   (hd:(x==("__debug__":Str))=false:=by decide):wpAny (model X.prog X.w) X.A (eval (.Name x pos) X.env) Q E s :=
 Oy I.ok.kind hg (Calls.loadGlobal_global (by rw[I.ok.glob];exact I.mod.glob.keeps I.bk) hm h) hd
theorem oO {E:Value->Shared->Prop}{pins:List (Addr×Obj)}{s:Shared}{σ:St}{H:Hp}{x:Str}{u:Value}{pos:Pos}{Q:Value->Shared->Prop}(I:Inv X pins σ H s)(hg:Gl X x)(hm:X.mg x=none)(hv:bootBuiltins x=some u)(h:Q u s)
   (hn:x≠"__name__":=by decide) (hd:(x==("__debug__":Str))=false:=by decide):wpAny (model X.prog X.w) X.A (eval (.Name x pos) X.env) Q E s:=by
 obtain⟨mb,h1,h2⟩:=I.mod.blt
 exact Oy I.ok.kind hg (Calls.loadGlobal_builtin (by rw[I.ok.glob];exact I.mod.glob.keeps I.bk) hm (by rw[I.ok.blt];exact h1.keeps I.bk) ((h2 x hn).trans hv) h) hd
theorem cU {x:Str}{v:V}{u:Value}{pos:Pos}(hg:Gl X x)(hm:X.mg x=some u)(r:RelV v u)(hd:(x==("__debug__":Str))=false:=by decide):PE X (.Name x pos) (tC v) :=
 fun _ _ _ H _ I h=>iP I hg hm ⟨v,H,I,r,h⟩ hd
theorem zSi {x:Str}{v:V}{u:Value}{pos:Pos}(hg:Gl X x)(hm:X.mg x=none)(hv:bootBuiltins x=some u)(r:RelV v u)(hn:x≠"__name__":=by decide)(hd:(x==("__debug__":Str))=false:=by decide):PE X (.Name x pos) (tC v) :=
 fun _ _ _ H _ I h=>oO I hg hm hv ⟨v,H,I,r,h⟩ hn hd
variable {a b:Expr} {ta tb:TE} {pos:Pos}
def tB (t:TE):TT:=fun σ H Q=>t σ H fun x H1=>∃c,x = .bl c/\Q c H1
theorem zMl {e:Expr}{t:TE}(h:PE X e t)(he:∀whole,isTrue e X.env whole=(do let v ←whole;standAt e.pos;holding [v] (truthy v)):=by intro _;rfl):PT X e (tB t):=by
 intro pins s σ H Q I hw
 refine isTrue_plain (thn (h pins s σ H _ I hw) fun v s1 ⟨x,H1,I1,r1,q1⟩=>?_) (he _)
 obtain⟨d,rfl,q⟩:=q1
 cases r1
 exact Rk ⟨H1,I1,q⟩
variable {tA tB':TT} {rest:List Expr}
def zJE (t u:TT):TT:=fun σ H Q=>t σ H fun c H1=>if c=true then u σ H1 Q else Q false H1
def tOr (t u:TT):TT:=fun σ H Q=>t σ H fun c H1=>if c=true then Q true H1 else u σ H1 Q
def zJG (t:TT):TT:=fun σ H Q=>t σ H fun c H1=>Q (!c) H1
theorem zOb (ha:PT X a tA):PW X (.BoolOp .And [a] pos) tA:=by
 intro wh pins s σ H Q I h
 refine isTrue_and (thn (ha pins s σ H Q I h) fun c s1 e=>?_)
 cases c with
 | true=>exact isTrue_and_nil e
 | false=>exact e
theorem zLZ (ha:PT X a tA):PW X (.BoolOp .Or [a] pos) tA:=by
 intro wh pins s σ H Q I h
 refine isTrue_or (thn (ha pins s σ H Q I h) fun c s1 e=>?_)
 cases c with
 | false=>exact isTrue_or_nil e
 | true=>exact e
theorem zM9 (ha:PT X a tA)(hb:PW X (.BoolOp .And (b::rest) pos) tB'):PW X (.BoolOp .And (a::b::rest) pos) (zJE tA tB'):=by
 intro wh pins s σ H Q I h
 refine isTrue_and (thn (ha pins s σ H _ I h) fun c s1 ⟨H1,I1,q1⟩=>?_)
 cases c with
 | true=>exact hb wh pins s1 σ H1 Q I1 q1
 | false=>exact⟨H1,I1,q1⟩
theorem zK7 (ha:PT X a tA)(hb:PW X (.BoolOp .Or (b::rest) pos) tB'):PW X (.BoolOp .Or (a::b::rest) pos) (tOr tA tB'):=by
 intro wh pins s σ H Q I h
 refine isTrue_or (thn (ha pins s σ H _ I h) fun c s1 ⟨H1,I1,q1⟩=>?_)
 cases c with
 | true=>exact⟨H1,I1,q1⟩
 | false=>exact hb wh pins s1 σ H1 Q I1 q1
theorem zLX (ha:PT X a tA):PT X (.UnaryOp .Not a pos) (zJG tA):=by
 intro pins s σ H Q I h
 exact isTrue_not (ha pins s σ H (fun c H1=>Q (!c) H1) I h)
def zKZ (ta tb:TE):TE:=fun σ H Q=>ta σ H fun x H1=>∃c,x = .bl c/\if c=true then tb σ H1 Q else Q (.bl false) H1
def zK6 (ta:TE):TE:=fun σ H Q=>ta σ H fun x H1=>∃c,x = .bl c/\Q (.bl (!c)) H1
theorem zM4 {op}{t:TE}(h:PE X a t):PE X (.BoolOp op [a] pos) t:=fun pins s σ H Q I hw=>BoolOp_one (h pins s σ H Q I hw)
theorem zM5 (ha:PE X a ta)(hb:PE X (.BoolOp .And (b::rest) pos) tb):PE X (.BoolOp .And (a::b::rest) pos) (zKZ ta tb):=by
 intro pins s σ H Q I h
 refine BoolOp_and (thn (ha pins s σ H _ I h) fun v s1 ⟨x,H1,I1,r1,q1⟩=>?_)
 obtain⟨c,rfl,q1⟩:=q1
 cases r1
 refine Rk ?_
 cases c with
 | true=>exact hb pins s1 σ H1 Q I1 q1
 | false=>exact⟨.bl false,H1,I1,rfl,q1⟩
theorem zLg (ha:PE X a ta):PE X (.UnaryOp .Not a pos) (zK6 ta):=by
 intro pins s σ H Q I h
 refine UnaryOp_ (thn (ha pins s σ H _ I h) fun v s1 ⟨x,H1,I1,r1,q1⟩=>?_)
 obtain⟨c,rfl,q1⟩:=q1
 cases r1
 exact not_of (Rk ⟨.bl (!c),H1,I1,rfl,q1⟩)
def tIf (t:TT)(ta tb:TE):TE:=fun σ H Q=>t σ H fun c H1=>if c=true then ta σ H1 Q else tb σ H1 Q
theorem zQc {c:Expr}(hc:PT X c tA)(ha:PE X a ta)(hb:PE X b tb):PE X (.IfExp c a b pos) (tIf tA ta tb):=by
 intro pins s σ H Q I h
 refine wpAny_IfExp (thn (hc pins s σ H _ I h) fun d s1 ⟨H1,I1,q1⟩=>?_)
 cases d with
 | true=>exact ha pins s1 σ H1 Q I1 q1
 | false=>exact hb pins s1 σ H1 Q I1 q1
end
def SqL (K:PySem.W.Frag)(H:Hp)(a:Addr)(xs:List V):Prop :=
 Rd H a (.lst xs) ∨
   ∃(o:Obj) (its:Array Value) (n:Nat),K.lookup a=some o/\o.cls = .type "list"/\o.dict=none/\o.data = .seq its n/\its.size<=sizeLine/\Vals xs its.toList
def SqT (K:PySem.W.Frag)(H:Hp)(a:Addr)(xs:List V):Prop :=
 Rd H a (.tup xs) ∨
   ∃(o:Obj) (its:Array Value) (n:Nat),K.lookup a=some o/\o.cls = .type "tuple"/\o.data = .seq its n/\its.size<=sizeLine/\Vals xs its.toList
def zJQ:Value->Option V
 | .none=>some .non
 | .bool b=>some (.bl b)
 | .int i _=>some (.int i)
 | .str x _=>some (.str x)
 | .bytes b _=>some (.byt b)
 | .float b _=>some (.flt b)
 | .ref a=>some (.ref a)
 | .type n=>some (.ty n)
 | _=>none
theorem RelV.abs {x:V}{u:Value}(r:RelV x u):zJQ u=some x:=by
 cases x with
 | non=>cases r;rfl
 | bl _=>cases r;rfl
 | int _=>obtain⟨t,rfl⟩:=r;rfl
 | str _=>obtain⟨t,rfl⟩:=r;rfl
 | byt _=>obtain⟨t,rfl⟩:=r;rfl
 | flt _=>obtain⟨t,rfl⟩:=r;rfl
 | ref _=>cases r;rfl
 | ty _=>cases r;rfl
theorem RelV.inj {x y:V}{u:Value}(r:RelV x u)(q:RelV y u):x=y:=Wa (r.abs.symm.trans q.abs)
theorem Vals.inj:∀ {xs ys:List V} {us:List Value},Vals xs us->Vals ys us->xs=ys
 | _,_,_,.nil,.nil=>rfl
 | _,_,_,.cons r t,.cons r' t'=>by rw[r.inj r',Vals.inj t t']
section
variable {X:Cx} {pins:List (Addr×Obj)} {σ:St} {H:Hp} {s:Shared} {a:Addr} {xs ys:List V}
theorem SqL.of {K:PySem.W.Frag}(h:H a=some (.lst xs)):SqL K H a xs:=.inl (.inl h)
theorem SqT.of {K:PySem.W.Frag}(h:H a=some (.tup xs)):SqT K H a xs:=.inl (.inl h)
theorem Inv.list (I:Inv X pins σ H s)(h:SqL X.K H a xs):∃its:List Value,Vals xs its/\PlainL s.heap a its.toArray/\xs.length<=sizeLine:=by
 rcases h with h | ⟨o,its,n,hk,hc,hd,hs,hz,r⟩
 · obtain⟨z,its,n,r,e⟩:=h.ok I.hok
   exact⟨its,r,⟨_,n,e,rfl,rfl,rfl⟩,z⟩
 · refine⟨its.toList,r,⟨o,n,I.kIn a o hk,hc,hd,by simpa using hs⟩,?_⟩
   have e:=r.length
   simp only[Rc] at e
   omega
theorem Inv.tuple (I:Inv X pins σ H s)(h:SqT X.K H a xs):∃its:List Value,Vals xs its/\IsTup s.heap a its.toArray/\xs.length<=sizeLine:=by
 rcases h with h | ⟨o,its,n,hk,hc,hs,hz,r⟩
 · obtain⟨z,its,r,p⟩:=h.ok I.hok
   exact⟨its,r,p,z⟩
 · refine⟨its.toList,r,⟨o,I.kIn a o hk,hc,n,by simpa using hs⟩,?_⟩
   have e:=r.length
   simp only[Rc] at e
   omega
theorem Inv.list_inj (I:Inv X pins σ H s)(h:SqL X.K H a xs)(h':SqL X.K H a ys):xs=ys:=by
 obtain⟨its,r,⟨o,n,e,_,_,d⟩,_⟩:=I.list h
 obtain⟨its',r',⟨o',n',e',_,_,d'⟩,_⟩:=I.list h'
 rw[e] at e';cases e'
 rw[d] at d'
 injection d' with d1 _
 have:its=its':=by simpa using Rp Array.toList d1
 subst this
 exact r.inj r'
theorem Inv.tuple_inj (I:Inv X pins σ H s)(h:SqT X.K H a xs)(h':SqT X.K H a ys):xs=ys:=by
 obtain⟨its,r,⟨o,e,_,n,d⟩,_⟩:=I.tuple h
 obtain⟨its',r',⟨o',e',_,n',d'⟩,_⟩:=I.tuple h'
 rw[e] at e';cases e'
 rw[d] at d'
 injection d' with d1 _
 have:its=its':=by simpa using Rp Array.toList d1
 subst this
 exact r.inj r'
end
abbrev Cx.wish (X:Cx)(E:Value->Shared->Prop):Cx:={ X with xe:=E }
abbrev Cx.nox (X:Cx):Cx:=X.wish fun _ _=>False
theorem Cx.Ok.wish {X:Cx}(ok:X.Ok)(E:Value->Shared->Prop):(X.wish E).Ok :=
 ⟨ok.mod,ok.kind,ok.glob,ok.blt,ok.above,ok.inj,ok.has,ok.cab,ok.hd,ok.frames,ok.stk,ok.exf,ok.bs,ok.bsz,ok.noex,ok.exfs,ok.funs,ok.frf⟩
theorem Cx.Ok.unwish {X:Cx}{E:Value->Shared->Prop}(ok:(X.wish E).Ok):X.Ok :=
 ⟨ok.mod,ok.kind,ok.glob,ok.blt,ok.above,ok.inj,ok.has,ok.cab,ok.hd,ok.frames,ok.stk,ok.exf,ok.bs,ok.bsz,ok.noex,ok.exfs,ok.funs,ok.frf⟩
section
variable {X:Cx} {pins:List (Addr×Obj)} {σ:St} {H:Hp} {s:Shared} {E:Value->Shared->Prop}
theorem Inv.wish (I:Inv X pins σ H s)(E:Value->Shared->Prop):Inv (X.wish E) pins σ H s:=⟨I.ok.wish E,I.os,I.bare,I.base,I.loc,I.cell,I.free,I.freeC,I.pin,I.hok,I.len⟩
theorem Inv.unwish (I:Inv (X.wish E) pins σ H s):Inv X pins σ H s:=⟨I.ok.unwish,I.os,I.bare,I.base,I.loc,I.cell,I.free,I.freeC,I.pin,I.hok,I.len⟩
theorem SP.unwish {D:Ends}{f:Flow}{s':Shared}(h:SP (X.wish E) pins D f s'):SP X pins D f s':=by
 cases f with
 | next=>obtain⟨σ',H',I,q⟩:=h;exact⟨σ',H',I.unwish,q⟩
 | brk=>obtain⟨σ',H',I,q⟩:=h;exact⟨σ',H',I.unwish,q⟩
 | cont=>obtain⟨σ',H',I,q⟩:=h;exact⟨σ',H',I.unwish,q⟩
 | ret u=>obtain⟨v,σ',H',I,r,q⟩:=h;exact⟨v,σ',H',I.unwish,r,q⟩
theorem PSs.nox {st:List Stmt}{t:TS}(h:PSs X.nox st t):PSs X st t:=fun pins s σ H D I hw =>
 Rq (h pins s σ H D (I.wish _) hw) (fun _ _ q=>q.unwish) fun _ _ z=>False.elim z
end
section
variable {X:Cx} {st:Stmt} {rest:List Stmt} {t u:TS} {e:Expr} {te:TE} {pos:Pos}
def zKy:TS:=fun D σ H=>D.nx σ H
def zKl (t u:TS):TS:=fun D σ H=>t { D with nx:=u D } σ H
theorem zVH:PSs X [] zKy:=fun _ _ σ H _ I h=>Tl ⟨σ,H,I,h⟩
theorem jB (h1:PS X st t)(h2:PSs X rest u):PSs X (st::rest) (zKl t u):=by
 intro pins s σ H D I h
 refine Ut (thn (h1 pins s σ H { D with nx:=u D } I h) fun f s1 q=>?_)
 cases f with
 | next =>
   obtain⟨σ',H',I',q⟩:=q
   exact h2 pins s1 σ' H' D I' q
 | ret v=>exact q
 | brk=>exact q
 | cont=>exact q
theorem zNS (h1:PS X st t):PSs X [st] t:=by
 intro pins s σ H D I h
 refine Ut (thn (h1 pins s σ H D I h) fun f s1 q=>?_)
 cases f with
 | next=>exact Tl q
 | ret v=>exact q
 | brk=>exact q
 | cont=>exact q
def zKJ:TS:=fun D σ H=>D.ct σ H
theorem zUf:PS X (.Continue pos) zKJ:=fun _ _ σ H _ I h=>wpAny_Continue ⟨σ,H,I,h⟩
theorem Inv.quiet {pins:List (Addr×Obj)}{σ:St}{H:Hp}{s:Shared}(I:Inv X pins σ H s):interactive X.env=false:=by simp[interactive,I.ok.kind]
def zK5 (te:TE):TS:=fun D σ H=>te σ H fun _ H1=>D.nx σ H1
theorem zS1 (he:PE X e te)(hs:swapsWith e none pos.line X.env=pure false:=by rfl):PS X (.Expr e pos) (zK5 te):=by
 intro pins s σ H D I h
 exact wpAny_Expr_any (thn (he pins s σ H _ I h) fun v s1 ⟨x,H1,I1,r1,q1⟩=>⟨σ,H1,I1,q1⟩) I.quiet hs
def zJH (te:TE):TS:=fun D σ H=>te σ H D.rt
theorem zWD (he:PE X e te):PS X (.Return (some e) pos) (zJH te):=by
 intro pins s σ H D I h
 exact wpAny_Return_some (thn (he pins s σ H _ I h) fun v s1 ⟨x,H1,I1,r1,q1⟩=>⟨x,σ,H1,I1,r1,q1⟩)
def zKm (c:TT)(t u:TS):TS:=fun D σ H=>c σ H fun b H1=>if b=true then t D σ H1 else u D σ H1
theorem zMH {c:Expr}{a b:List Stmt}{tc:TT}(hc:PT X c tc)(ha:PSs X a t)(hb:PSs X b u):PS X (.If c a b pos) (zKm tc t u):=by
 intro pins s σ H D I h
 refine wpAny_If (thn (hc pins s σ H _ I h) fun d s1 ⟨H1,I1,q1⟩=>?_)
 cases d with
 | true=>exact ha pins s1 σ H1 D I1 q1
 | false=>exact hb pins s1 σ H1 D I1 q1
end
abbrev TG:=V->St->Hp->(St->Hp->Prop)->Prop
abbrev TGs:=List V->St->Hp->(St->Hp->Prop)->Prop
def PG (X:Cx)(target:Expr)(t:TG):Prop :=
 ∀(pins:List (Addr×Obj)) (s:Shared) (σ:St) (H:Hp) (v:V) (u:Value) (Q:St->Hp->Prop),Inv X pins σ H s->RelV v u->t v σ H Q ->
   wpAny (model X.prog X.w) X.A (assign target X.env u) (fun _ s'=>∃σ' H',Inv X pins σ' H' s'/\Q σ' H') X.xe s
def PGs (X:Cx)(ts:List Expr)(t:TGs):Prop :=
 ∀(pins:List (Addr×Obj)) (s:Shared) (σ:St) (H:Hp) (vs:List V) (us:List Value) (Q:St->Hp->Prop),Inv X pins σ H s->Vals vs us->t vs σ H Q ->
   wpAny (model X.prog X.w) X.A (assignInOrder ((assignEach ts X.env).map (·.2)) us) (fun _ s'=>∃σ' H',Inv X pins σ' H' s'/\Q σ' H') X.xe s
abbrev zMp:=V->V->V->Hp->(Hp->Prop)->Prop
def zLU (X:Cx)(t:zMp):Prop :=
 ∀(pins:List (Addr×Obj)) (s:Shared) (σ:St) (H:Hp) (o i v:V) (ov iv u:Value) (Q:Hp->Prop),Inv X pins σ H s->RelV o ov->RelV i iv->RelV v u->t o i v H Q ->
   wpAny (model X.prog X.w) X.A (setItem ov iv u) (fun _ s'=>∃H',Inv X pins σ H' s'/\Q H') X.xe s
section
variable {X:Cx} {pos:Pos}
def zU8 (i:Nat):TG:=fun v σ H Q=>Q (σ.set i (some v)) H
theorem zOf {i:Nat}{x:Str}(hN:X.N.Nodup)(hi:X.N[i]?=some x)(hx:Loc X.env.scope x)(hf:X.fn x=true∨X.env.scope.names.lookup x=some .local:=by first | exact .inl rfl | exact .inr rfl | assumption):PG X (.Name x pos) (zU8 i):=by
 intro pins s σ H v u Q I r h
 exact wpAny_assign_Name (zYK I hN hi hx r (fun s' I'=>⟨_,H,I',h⟩) hf)
def zJT:TGs:=fun vs σ H Q=>vs=[]/\Q σ H
def zKC (t:TG)(u:TGs):TGs:=fun vs σ H Q=>∃v r,vs=v::r/\t v σ H fun σ' H'=>u r σ' H' Q
theorem zNH:PGs X [] zJT:=by
 intro pins s σ H vs us Q I r h
 obtain⟨e,h⟩:=h
 subst e
 cases r
 exact assignInOrder_nil ⟨σ,H,I,h⟩
theorem zQq {e:Expr}{es:List Expr}{t:TG}{u:TGs}(h1:PG X e t)(h2:PGs X es u)
   (hs:(assignEach (e::es) X.env).map (·.2)=assign e X.env::(assignEach es X.env).map (·.2):=by rfl):PGs X (e::es) (zKC t u):=by
 intro pins s σ H vs us Q I r h
 obtain⟨v,vr,e1,h⟩:=h
 subst e1
 cases r with
 | cons r rr =>
   rw[hs]
   refine assignInOrder_cons (thn (h1 pins s σ H _ _ _ I r h) fun _ s1 ⟨σ1,H1,I1,q1⟩=>?_)
   exact h2 pins s1 σ1 H1 _ _ Q I1 rr q1
def zJU (K:PySem.W.Frag)(n:Nat)(t:TGs):TG:=fun v σ H Q=>∃a xs,v = .ref a/\SqT K H a xs/\xs.length=n/\t xs σ H Q
theorem zLr {es:List Expr}{k:Nat}{t:TGs}{n:Nat}(hc:X.calm=true)(h:PGs X es t)
   (hn:(assignEach es X.env).length=n:=by rfl) (hst:(assignEach es X.env).findIdx? (·.1)=none:=by rfl):PG X (.Tuple es k pos) (zJU X.K n t):=by
 intro pins s σ H v u Q I r hw
 obtain⟨a,xs,e1,hq,hl,hw⟩:=hw
 subst e1
 cases r
 obtain⟨its,rv,ht,hz⟩:=I.tuple hq
 refine assign_Tuple_tuple (I.ok.hd hc) ht (by simp[hn,←hl,rv.length]) hst fun h' hx=>?_
 have I1:Inv X pins σ H { s with heap:=h' }:=I.kept (t':=s.toks) fun b o e=>hx b o (Wu (Qy e)) e
 exact h pins _ σ H xs _ Q I1 (by simpa using rv) hw
def zJW (to ti:TE)(t:zMp):TG:=fun v σ H Q=>to σ H fun o H1=>ti σ H1 fun i H2=>t o i v H2 fun H3=>Q σ H3
theorem zPE {o i:Expr}{to ti:TE}{t:zMp}(ho:PE X o to)(hi:PE X i ti)(hs:zLU X t)
   (ha:∀v,assign (.Subscript o i pos) X.env v=(do
     let ov ←holding [v] (eval o X.env)
     let iv ←holding [v,ov] (eval i X.env)
     standAt pos
     holding [v,ov,iv] (setItem ov iv v)
     release [v,ov,iv] []):=by intro _;rfl):PG X (.Subscript o i pos) (zJW to ti t):=by
 intro pins s σ H v u Q I r h
 rw[ha]
 refine Qw (Ex (thn (ho pins s σ H _ I h) fun ov s1 ⟨x,H1,I1,r1,q1⟩=>?_))
 refine Qw (Ex (thn (hi pins s1 σ H1 _ I1 q1) fun iv s2 ⟨y,H2,I2,r2,q2⟩=>?_))
 refine Qw (Yn (Qw (Ex (thn (hs pins s2 σ H2 x y v ov iv u _ I2 r1 r2 r q2) fun _ s3 ⟨H3,I3,q3⟩=>?_))))
 exact wpAny_release ⟨σ,H3,I3,q3⟩
def zR8 (te:TE)(g:TG):TS:=fun D σ H=>te σ H fun x H1=>g x σ H1 D.nx
theorem zTx {tg e:Expr}{te:TE}{g:TG}(he:PE X e te)(hg:PG X tg g)(hs:swapsWithSole [tg] e pos.line X.env=pure false:=by rfl)(hw:swappedStores [tg] e X.env=pure none:=by rfl)
   (h1:(assignEach [tg] X.env).map (·.2)=[assign tg X.env]:=by rfl):PS X (.Assign [tg] e pos) (zR8 te g):=by
 intro pins s σ H D I h
 refine wpAny_Assign_stores (thn (he pins s σ H _ I h) fun v s1 ⟨x,H1,I1,r1,q1⟩=>?_) hs hw
 rw[h1]
 exact thn (hg pins s1 σ H1 x v _ I1 r1 q1) fun _ s2 q=>q
theorem zWl {i:Nat}{x:Str}{e:Expr}{te:TE}{pos':Pos}(hN:X.N.Nodup)(hi:X.N[i]?=some x)(hx:Loc X.env.scope x)(he:PE X e te)(hs:swapsWith e (some (.Name x pos')) pos.line X.env=pure false:=by rfl)(hf:X.fn x=true∨X.env.scope.names.lookup x=some .local:=by first | exact .inl rfl | exact .inr rfl | assumption) :
   PS X (.Assign [.Name x pos'] e pos) (zR8 te (zU8 i)):=by
 intro pins s σ H D I h
 refine wpAny_Assign_Name (thn (he pins s σ H _ I h) fun v s1 ⟨y,H1,I1,r1,q1⟩=>?_) hs
 exact zYK I1 hN hi hx r1 (fun s2 I2=>⟨_,H1,I2,q1⟩) hf
def zLL (c:TT)(tb:TS):TS:=fun D σ H=>∃W:Nat->St->Hp->Prop,(∃m,W m σ H)/\∀m σ H,W m σ H ->
 c σ H fun b H1=>if b=true then ∃N:St->Hp->Prop,(∀σ' H',N σ' H'->∃m',m' < m/\W m' σ' H')/\tb { D with nx:=N,ct:=N,bk:=D.nx } σ H1 else D.nx σ H1
theorem zQ8 {c:Expr}{body:List Stmt}{tc:TT}{tb:TS}(hp:PassesOwn (model X.prog X.w) X.A X.env X.xe)(hc:PT X c tc)(hb:PSs X body tb):PS X (.While c body [] pos) (zLL tc tb):=by
 intro pins s σ H D I h
 obtain⟨W,⟨m0,w0⟩,turn⟩:=h
 refine wpAny_While (codeAny_whileLoop (fun n s'=>∃σ' H',Inv X pins σ' H' s'/\W n σ' H') ?_ m0 ⟨σ,H,I,w0⟩)
 rintro n s1 ⟨σ1,H1,I1,w1⟩
 refine Rn hp (thn (hc pins s1 σ1 H1 _ I1 (turn n σ1 H1 w1)) fun b s2 ⟨H2,I2,q2⟩=>?_)
 cases b with
 | true =>
   obtain⟨N,hN,q2⟩:=q2
   rw[Qn rfl]
   refine Rn hp (thn (hb pins s2 σ1 H2 _ I2 q2) fun f s3 q3=>?_)
   cases f with
   | next =>
     obtain⟨σ3,H3,I3,n3⟩:=q3
     obtain⟨m',hm,w3⟩:=hN σ3 H3 n3
     exact⟨m',hm,σ3,H3,I3,w3⟩
   | cont =>
     obtain⟨σ3,H3,I3,n3⟩:=q3
     obtain⟨m',hm,w3⟩:=hN σ3 H3 n3
     exact⟨m',hm,σ3,H3,I3,w3⟩
   | brk=>exact q3
   | ret v=>exact q3
 | false =>
   rw[Wd Qb]
   exact Tl ⟨σ1,H2,I2,q2⟩
end
structure It where
 go:Nat->Hp->Prop
 yld:Nat->Hp->V->Hp->Prop
 stop:Nat->Hp->Prop
def mQ (X:Cx)(pins:List (Addr×Obj))(H:Hp)(b:Addr):Prop :=
 H b=none/\b≠X.env.locals/\b∉X.fs/\(b∈X.ex∨X.s₀.heap.objs.size<=b)/\(∀x c,X.env.cells.lookup x=some c->c≠b)/\∀p∈X.pn++pins,p.1≠b
theorem Inv.fpOk {X:Cx}{pins:List (Addr×Obj)}{σ:St}{H H':Hp}{s:Shared}{b:Addr}(I:Inv X pins σ H s)(hb:s.heap.objs.size<=b)(hn:H' b=none):mQ X pins H' b:=by
 refine⟨hn,Nat.ne_of_gt (We I.lt hb),I.nofs hb,.inr (Eu I.sz hb),fun x c e z=>?_,fun p hp z=>?_⟩
 · obtain⟨v,q⟩:=I.cell x c e
   exact absurd (We q.lt (by rw[z];exact hb)) (Wt _)
 · exact absurd (We (Qy (I.pin p hp).1) (by rw[z];exact hb)) (Wt _)
structure Turn (P:Program)(w:World)(K:PySem.W.Frag)(tg:Expr)(J:It)(fp:List Addr)(it:Addr)(tn:Nat->Heap->Prop):Prop where
 mem:it∈fp
 obj:∀i h,tn i h->∀b∈fp,∃o,h.get? b=some o/\∀v,o.data ≠ .cell v
 keep:∀i h h',tn i h->(∀b∈fp,∀o,h.get? b=some o->h'.get? b=some o)->tn i h'
 item:∀(X:Cx),X.prog=P->X.w=w->X.K=K->X.calm=true->∀(i:Nat) (pins:List (Addr×Obj)) (s:Shared) (σ:St) (H:Hp) (E:Value->Shared->Prop),Inv X pins σ H s->(∀b∈fp,mQ X pins H b)->tn i s.heap->J.go i H ->
   wpAny (model P w) X.A (pyNext (.ref it)) (fun r s1=>∃u,r=some u /\
     wpAny (model P w) X.A (letOwnedTupleGo tg (.ref it) u) (fun _ s2=>∃x H',Inv X pins σ H' s2/\RelV x u/\J.yld i H x H'/\tn (i+1) s2.heap/\∀b∈fp,H' b=none) E s1) E s
 done:∀(X:Cx),X.prog=P->X.w=w->X.K=K->X.calm=true->∀(i:Nat) (pins:List (Addr×Obj)) (s:Shared) (σ:St) (H:Hp) (E:Value->Shared->Prop),Inv X pins σ H s->(∀b∈fp,mQ X pins H b)->tn i s.heap->J.stop i H ->
   wpAny (model P w) X.A (pyNext (.ref it)) (fun r s1=>r=none/\Inv X pins σ H s1) E s
 self:∀(A:Around) (i:Nat) (s:Shared) (Q:Value->Shared->Prop) (E:Value->Shared->Prop),tn i s.heap->Q (.ref it) s->wpAny (model P w) A (pyIter (.ref it)) Q E s
abbrev TI:=St->Hp->(It->Hp->Prop)->Prop
def PIE (X:Cx)(pins:List (Addr×Obj))(σ:St)(tg:Expr)(R:It->Hp->Prop)(itv:Value)(s2:Shared):Prop :=
 ∃(it:Addr) (fp:List Addr) (tn:Nat->Heap->Prop) (J:It) (H':Hp),itv = .ref it/\Inv X pins σ H' s2/\Turn X.prog X.w X.K tg J fp it tn/\tn 0 s2.heap/\(∀b∈fp,mQ X pins H' b)/\R J H'
def PI (X:Cx)(tg iter:Expr)(wi:TI):Prop :=
 ∀(pins:List (Addr×Obj)) (s:Shared) (σ:St) (H:Hp) (R:It->Hp->Prop),Inv X pins σ H s->wi σ H R ->
   wpAny (model X.prog X.w) X.A (eval iter X.env) (fun v s1=>wpAny (model X.prog X.w) X.A (pyIter v) (PIE X pins σ tg R) X.xe s1) X.xe s
theorem zUO {M:Model}{A:Around}{E:Value->Shared->Prop}{s:Shared}{tg:Expr}{it:Addr}{u:Value}{o:Obj}{n:String}{vs:Array Value}{Q:Unit->Shared->Prop}(ho:s.heap.get? it=some o)(hc:o.cls = .type n)(hd:o.data = .fields vs)
   (hn:["enumerate","zip","dict_itemiterator","dict_reverseitemiterator","odict_iterator","itertools.zip_longest","itertools.pairwise"].contains n=false) (hQ:Q () s):wpAny M A (letOwnedTupleGo tg (.ref it) u) Q E s:=by
 unfold letOwnedTupleGo
 cases tg<;>first
   | exact Qi hQ
   | (cases u<;>first
       | exact Qi hQ
       | (refine Qw (wpAny_load ho ?_)
          rw[hc,hd]
          show wpAny M A (if (["enumerate","zip","dict_itemiterator","dict_reverseitemiterator","odict_iterator","itertools.zip_longest","itertools.pairwise"].contains n&&vs[0]?==some (rawInt _))=true then _ else _) Q E s
          rw[Wd (by intro h;rw[hn,Bool.false_and] at h;cases h)]
          exact Qi hQ))
def Itl (K:PySem.W.Frag)(a:Addr):It :=
 ⟨fun i H=>∃xs x,SqL K H a xs/\xs[i]?=some x,fun i H x H'=>H'=H/\∀xs,SqL K H a xs->xs[i]?=some x,fun i H=>∃xs,SqL K H a xs/\xs.length<=i⟩
def Itt (K:PySem.W.Frag)(a:Addr):It :=
 ⟨fun i H=>∃xs x,SqT K H a xs/\xs[i]?=some x,fun i H x H'=>H'=H/\∀xs,SqT K H a xs->xs[i]?=some x,fun i H=>∃xs,SqT K H a xs/\xs.length<=i⟩
def Itr (lo:Int)(n:Nat):It:=⟨fun i _=>i < n,fun i H x H'=>H'=H/\x = .int (lo+i),fun i _=>n<=i⟩
theorem zR6 {P:Program}{w:World}{K:PySem.W.Frag}{tg:Expr}(a it:Addr):Turn P w K tg (Itl K a) [it] it (fun i h=>h.IsListIter it a i) where
 mem:=by simp
 obj:=fun i h st b hb=>by
   have e:b=it:=by simpa using hb
   subst e
   obtain⟨o,e,c,d⟩:=st
   exact⟨o,e,fun v z=>by rw[d] at z;cases z⟩
 keep:=fun i h h' st k=>st.at fun o e=>k it (by simp) o e
 item:=by
   intro X hP hw hK hc i pins s σ H E I hf st hg
   subst hP hw hK
   obtain⟨xs,x,hq,hx⟩:=hg
   obtain⟨its,rv,p,hz⟩:=I.list hq
   obtain⟨u,hu,ru⟩:=rv.get hx
   obtain⟨f0,f1,f2,f3,f4,f5⟩:=hf it (by simp)
   refine wpAny_pyNext_list_item st p.isList (x:=u) (by simpa using hu) fun h' st' sb=>?_
   have I1:Inv X pins σ H { s with heap:=h' }:=I.turned (t':=s.toks) (fun b o hb e=>(sb.2 b hb).trans e) f0 f1 f3 f4 f5
   obtain⟨o,e,c,d⟩:=id st'
   exact⟨u,rfl,zUO (s:={ s with heap:=h' }) e c d (by decide) ⟨x,H,I1,ru,⟨rfl,fun ys hy=>by rw[I.list_inj hy hq];exact hx⟩,st',fun b hb=>(hf b hb).1⟩⟩
 done:=by
   intro X hP hw hK hc i pins s σ H E I hf st hg
   subst hP hw hK
   obtain⟨xs,hq,hx⟩:=hg
   obtain⟨its,rv,p,hz⟩:=I.list hq
   obtain⟨f0,f1,f2,f3,f4,f5⟩:=hf it (by simp)
   have hl:=rv.length
   exact wpAny_pyNext_list_end (I.ok.hd hc) st p.isList (by simp;omega) fun h' eb=>⟨rfl,I.turned (t':=s.toks) (fun b o hb e=>eb b o hb e) f0 f1 f3 f4 f5⟩
 self:=fun _ _ _ _ _ st h=>wpAny_pyIter_listiter st h
theorem zT9 {P:Program}{w:World}{K:PySem.W.Frag}{tg:Expr}(a it:Addr):Turn P w K tg (Itt K a) [it] it (fun i h=>h.IsTupleIter it a i) where
 mem:=by simp
 obj:=fun i h st b hb=>by
   have e:b=it:=by simpa using hb
   subst e
   obtain⟨o,e,c,d⟩:=st
   exact⟨o,e,fun v z=>by rw[d] at z;cases z⟩
 keep:=fun i h h' st k=>st.at fun o e=>k it (by simp) o e
 item:=by
   intro X hP hw hK hc i pins s σ H E I hf st hg
   subst hP hw hK
   obtain⟨xs,x,hq,hx⟩:=hg
   obtain⟨its,rv,p,hz⟩:=I.tuple hq
   obtain⟨u,hu,ru⟩:=rv.get hx
   obtain⟨f0,f1,f2,f3,f4,f5⟩:=hf it (by simp)
   refine wpAny_pyNext_tuple_item st (show s.heap.IsTuple a its.toArray from p) (x:=u) (by simpa using hu) fun h' st' sb=>?_
   have I1:Inv X pins σ H { s with heap:=h' }:=I.turned (t':=s.toks) (fun b o hb e=>(sb.2 b hb).trans e) f0 f1 f3 f4 f5
   obtain⟨o,e,c,d⟩:=id st'
   exact⟨u,rfl,zUO (s:={ s with heap:=h' }) e c d (by decide) ⟨x,H,I1,ru,⟨rfl,fun ys hy=>by rw[I.tuple_inj hy hq];exact hx⟩,st',fun b hb=>(hf b hb).1⟩⟩
 done:=by
   intro X hP hw hK hc i pins s σ H E I hf st hg
   subst hP hw hK
   obtain⟨xs,hq,hx⟩:=hg
   obtain⟨its,rv,p,hz⟩:=I.tuple hq
   obtain⟨f0,f1,f2,f3,f4,f5⟩:=hf it (by simp)
   have hl:=rv.length
   exact wpAny_pyNext_tuple_end (I.ok.hd hc) st (show s.heap.IsTuple a its.toArray from p) (by simp;omega) fun h' eb=>⟨rfl,I.turned (t':=s.toks) (fun b o hb e=>eb b o hb e) f0 f1 f3 f4 f5⟩
 self:=fun _ _ _ _ _ st h=>wpAny_pyIter_tupleiter st h
theorem zTY {P:Program}{w:World}{K:PySem.W.Frag}{tg:Expr}(it:Addr)(lo:Int)(n:Nat):Turn P w K tg (Itr lo n) [it] it (fun i h=>IsRangeIter h it (lo+(i:Nat)*1) ((n:Int) - (i:Nat)) 1) where
 mem:=by simp
 obj:=fun i h st b hb=>by
   have e:b=it:=by simpa using hb
   subst e
   exact⟨_,st,fun v z=>by
     have z':Data.fields _=Data.cell v:=z
     cases z'⟩
 keep:=fun i h h' st k=>k it (by simp) _ st
 item:=by
   intro X hP hw hK hc i pins s σ H E I hf st hg
   subst hP hw hK
   obtain⟨f0,f1,f2,f3,f4,f5⟩:=hf it (by simp)
   have W:=Walks.range (prog:=X.prog) (w:=X.w) (I.ok.hd hc) it lo 1 n
   refine W.item i s _ _ hg st fun v h' tk hv st' kk=>?_
   obtain⟨t,rfl⟩:=hv
   have I1:Inv X pins σ H { s with heap:=h',toks:=tk }:=I.turned (fun b o hb e=>kk b o (by simpa using hb) e) f0 f1 f3 f4 f5
   refine⟨_,rfl,zUO (s:={ s with heap:=h',toks:=tk }) (n:="range_iterator") st' rfl rfl (by decide) ⟨.int (lo+i),H,I1,⟨t,?_⟩,⟨rfl,rfl⟩,st',fun b hb=>(hf b hb).1⟩⟩
   rw[Int.mul_one]
 done:=by
   intro X hP hw hK hc i pins s σ H E I hf st hg
   subst hP hw hK
   obtain⟨f0,f1,f2,f3,f4,f5⟩:=hf it (by simp)
   exact wpAny_pyNext_range_end (I.ok.hd hc) st (by have:n<=i:=hg;omega) fun h' eb=>⟨rfl,I.turned (t':=s.toks) (fun b o hb e=>eb b o hb e) f0 f1 f3 f4 f5⟩
 self:=fun _ _ _ _ _ st h=>wpAny_pyIter_rangeiter st h
section
variable {X:Cx} {tg:Expr}
def zKY (K:PySem.W.Frag)(tl:TE):TI:=fun σ H R=>tl σ H fun x H1=>∃a,x = .ref a/\(∃xs,SqL K H1 a xs)/\R (Itl K a) H1
def zKi (K:PySem.W.Frag)(tl:TE):TI:=fun σ H R=>tl σ H fun x H1=>∃a,x = .ref a/\(∃xs,SqT K H1 a xs)/\R (Itt K a) H1
theorem zSK {l:Expr}{tl:TE}(hl:PE X l tl):PI X tg l (zKY X.K tl):=by
 intro pins s σ H R I h
 refine thn (hl pins s σ H _ I h) fun v s1 ⟨x,H1,I1,r1,q1⟩=>?_
 obtain⟨a,e,⟨xs,hq⟩,q⟩:=q1
 subst e
 cases r1
 obtain⟨its,rv,p,hz⟩:=I1.list hq
 refine Yc p.isList ?_
 refine⟨s1.heap.objs.size,[s1.heap.objs.size],_,_,H1,rfl,I1.kept (t':=s1.toks) fun b o e=>Qr _ e,zR6 a _,⟨_,Qa _ rfl,rfl,rfl⟩,fun b hb=>?_,q⟩
 have e:b=s1.heap.objs.size:=by simpa using hb
 subst e
 exact I1.fpOk (Ql _) (I1.hok.fresh (Ql _))
theorem zLy {l:Expr}{tl:TE}(hl:PE X l tl):PI X tg l (zKi X.K tl):=by
 intro pins s σ H R I h
 refine thn (hl pins s σ H _ I h) fun v s1 ⟨x,H1,I1,r1,q1⟩=>?_
 obtain⟨a,e,⟨xs,hq⟩,q⟩:=q1
 subst e
 cases r1
 obtain⟨its,rv,p,hz⟩:=I1.tuple hq
 refine Iw (show s1.heap.IsTuple a its.toArray from p) ?_
 refine⟨s1.heap.objs.size,[s1.heap.objs.size],_,_,H1,rfl,I1.kept (t':=s1.toks) fun b o e=>Qr _ e,zT9 a _,⟨_,Qa _ rfl,rfl,rfl⟩,fun b hb=>?_,q⟩
 have e:b=s1.heap.objs.size:=by simpa using hb
 subst e
 exact I1.fpOk (Ql _) (I1.hok.fresh (Ql _))
theorem zVy {pins:List (Addr×Obj)}{σ:St}{H:Hp}{s:Shared}{R:It->Hp->Prop}{E:Value->Shared->Prop}{lo hi:Int}{t u v:Tok}{tk:Nat}(I:Inv X pins σ H s)(h1 : -(2^62)<=lo)(h2:lo < 2^62)(h3 : -(2^62)<=hi)(h4:hi < 2^62)
   (q:R (Itr lo (hi - lo).toNat) H):wpAny (model X.prog X.w) X.A (pyIter (.ref s.heap.objs.size)) (PIE X pins σ tg R) E { s with heap:=s.heap.push { cls:=.type "range",data:=.fields #[.int lo t,.int hi u,.int 1 v] },toks:=tk }:=by
 refine wpAny_pyIter_range (IsRange.new ..) (small_one h1 h2 h3 h4) ?_
 have I1:Inv X pins σ H { s with heap:=s.heap.push { cls:=.type "range",data:=.fields #[.int lo t,.int hi u,.int 1 v] },toks:=tk }:=I.kept fun b o e=>Qr _ e
 refine⟨(s.heap.push { cls:=.type "range",data:=.fields #[.int lo t,.int hi u,.int 1 v] }).objs.size,[(s.heap.push { cls:=.type "range",data:=.fields #[.int lo t,.int hi u,.int 1 v] }).objs.size],_,_,H,rfl,
   I1.kept (t':=tk) fun b o e=>Qr _ e,zTY _ lo (hi - lo).toNat,?_,fun b hb=>?_,q⟩
 · have e1:lo+((0:Nat):Int)*1=lo:=by simp
   have e2:(((hi - lo).toNat:Nat):Int) - ((0:Nat):Int)=Builtin.Range.rangeSize lo hi 1:=by rw[rangeSize_one];split<;>omega
   show IsRangeIter _ _ (lo+((0:Nat):Int)*1) ((((hi - lo).toNat:Nat):Int) - ((0:Nat):Int)) 1
   rw[e1,e2]
   exact Qa _ rfl
 · have e:b=(s.heap.push { cls:=.type "range",data:=.fields #[.int lo t,.int hi u,.int 1 v] }).objs.size:=by simpa using hb
   subst e
   exact I1.fpOk (Ql _) (I1.hok.fresh (Ql _))
def zKA (ta:TA):TI:=fun σ H R=>ta σ H fun vs H1=>∃j:Int,vs=[.int j] /\ -(2^62)<=j/\j < 2^62/\R (Itr 0 j.toNat) H1
def zKB (ta:TA):TI:=fun σ H R=>ta σ H fun vs H1=>∃i j:Int,vs=[.int i,.int j]/\(-(2^62)<=i/\i < 2^62 /\ -(2^62)<=j/\j < 2^62)/\R (Itr i (j - i).toNat) H1
theorem zQK {a:Expr}{ta:TA}{p pos:Pos}(hg:Gl X "range")(hm:X.mg "range"=none)(ha:PA X [a] ta)(hs:starEach [a] X.env=[(false,eval a X.env)]:=by rfl):PI X tg (.Call (.Name "range" p) [a] [] pos) (zKA ta):=by
 intro pins s σ H R I h
 refine Call_ (oO I hg hm boot_range (Et (thn (ha pos pins s σ H _ I h) fun us s1 ⟨vs,H1,I1,r1,q1⟩=>?_) hs rfl))
 obtain⟨j,e,q1,q2,q⟩:=q1
 subst e
 cases r1 with
 | cons r rr =>
   cases rr
   obtain⟨t,rfl⟩:=r
   exact call_range_1 (zVy I1 (by omega) (by omega) q1 q2 (by simpa using q))
theorem zQP {a b:Expr}{ta:TA}{p pos:Pos}(hg:Gl X "range")(hm:X.mg "range"=none)(ha:PA X [a,b] ta)(hs:starEach [a,b] X.env=[(false,eval a X.env),(false,eval b X.env)]:=by rfl)(hs2:starEach [b] X.env=[(false,eval b X.env)]:=by rfl) :
   PI X tg (.Call (.Name "range" p) [a,b] [] pos) (zKB ta):=by
 intro pins s σ H R I h
 refine Call_ (oO I hg hm boot_range (Et (thn (ha pos pins s σ H _ I h) fun us s1 ⟨vs,H1,I1,r1,q1⟩=>?_) (by rw[hs,hs2]) (by rw[hs2];rfl)))
 obtain⟨i,j,e,⟨q1,q2,q3,q4⟩,q⟩:=q1
 subst e
 cases r1 with
 | cons r rr =>
   cases rr with
   | cons r' rr =>
     cases rr
     obtain⟨t,rfl⟩:=r
     obtain⟨t',rfl⟩:=r'
     exact call_range_2 (zVy I1 q1 q2 q3 q4 q)
def zJO (wi:TI)(g:TG)(tb:TS):TS:=fun D σ H=>wi σ H fun J H1=>∃W:Nat->Nat->St->Hp->Prop,(∃m,W 0 m σ H1)/\∀i m σ H,W i m σ H ->
 (J.stop i H/\D.nx σ H)∨(J.go i H/\∃N:St->Hp->Prop,(∀σ' H',N σ' H'->∃m',m' < m/\W (i+1) m' σ' H')/\∀x H',J.yld i H x H'->g x σ H' fun σ2 H2=>tb { D with nx:=N,ct:=N,bk:=D.nx } σ2 H2)
def zZe (fp:List Addr)(h:Heap):List (Addr×Obj):=fp.filterMap fun b=>(h.get? b).map fun o=>(b,o)
theorem lO {fp:List Addr}{h:Heap}{b:Addr}{o:Obj}(hb:b∈fp)(e:h.get? b=some o):(b,o)∈zZe fp h:=Yg.mpr ⟨b,hb,by rw[e];rfl⟩
theorem zRy {fp:List Addr}{h:Heap}{p:Addr×Obj}(hp:p∈zZe fp h):p.1∈fp/\h.get? p.1=some p.2:=by
 obtain⟨b,hb,e⟩:=Yg.mp hp
 cases q:h.get? b with
 | none=>rw[q] at e;cases e
 | some o =>
   rw[q] at e
   have e':(b,o)=p:=Wa e
   subst e'
   exact⟨hb,q⟩
theorem Inv.pinned {pins:List (Addr×Obj)}{σ:St}{H:Hp}{s:Shared}{fp:List Addr}(I:Inv X pins σ H s)(hf:∀b∈fp,mQ X pins H b)(ho:∀b∈fp,∃o,s.heap.get? b=some o/\∀v,o.data ≠ .cell v):Inv X (pins++zZe fp s.heap) σ H s :=
 I.pins_of fun p hp=>(Eh.mp hp).elim (fun z=>I.pin p (Wv _ z)) fun z=>by
   obtain⟨hb,e⟩:=zRy z
   obtain⟨f0,f1,f2,_⟩:=hf p.1 hb
   obtain⟨o,e',d⟩:=ho p.1 hb
   rw[e] at e';cases e'
   exact⟨e,f0,f1,f2,d⟩
theorem Inv.unpinned {pins pl:List (Addr×Obj)}{σ:St}{H:Hp}{s:Shared}(I:Inv X (pins++pl) σ H s):Inv X pins σ H s:=I.pins_of fun p hp=>I.pin p (Wv _ (Ux _ hp))
theorem zLC {iter:Expr}{body:List Stmt}{wi:TI}{g:TG}{tb:TS}{pos:Pos}(hp:PassesOwn (model X.prog X.w) X.A X.env X.xe)(hc:X.calm=true)(hi:PI X tg iter wi)(hg:PG X tg g)(hb:PSs X body tb)
   (hs:∀x,foldedSetIterable iter X.env x=pure x:=by intro _;rfl):PS X (.For tg iter body [] pos) (zJO wi g tb):=by
 intro pins s σ H D I h
 refine wpAny_For (thn (hi pins s σ H _ I h) fun v s1 h1=>thn h1 fun itv s2 h2=>?_) hs
 obtain⟨it,fp,tn,J,H2,e,I2,T,st2,f2,W,⟨m0,w0⟩,turn⟩:=h2
 subst e
 -- what stays true of the iterator's objects through the loop
 have stat:∀ {H':Hp},(∀b∈fp,H' b=none)->∀b∈fp,mQ X pins H' b:=fun hn b hb=>⟨hn b hb,(f2 b hb).2⟩
 refine codeAny_forLoop_any (fun n s'=>∃i σ' H',Inv X pins σ' H' s'/\tn i s'.heap/\(∀b∈fp,H' b=none)/\W i n σ' H') ?_ m0 ⟨0,σ,H2,I2,st2,fun b hb=>(f2 b hb).1,w0⟩
 rintro n s3 ⟨i,σ3,H3,I3,st3,fr3,w3⟩
 rcases turn i n σ3 H3 w3 with⟨stop,qn⟩ | ⟨go,N,hN,step⟩
 · refine Rn hp (thn (T.done X rfl rfl rfl hc i pins s3 σ3 H3 X.xe I3 (stat fr3) st3 stop) fun r s4 ⟨hr,I4⟩=>?_)
   subst hr
   exact Tl ⟨σ3,H3,I4,qn⟩
 · refine Rn hp (thn (T.item X rfl rfl rfl hc i pins s3 σ3 H3 X.xe I3 (stat fr3) st3 go) fun r s4 ⟨u,hr,h4⟩=>?_)
   subst hr
   refine Rn hp (thn h4 fun _ s5 ⟨x,H5,I5,r5,y5,st5,fr5⟩=>?_)
   have I5':=I5.pinned (stat fr5) (T.obj _ _ st5)
   refine Rn hp (thn (hg _ s5 σ3 H5 x u _ I5' r5 (step x H5 y5)) fun _ s6 ⟨σ6,H6,I6,q6⟩=>?_)
   refine Rn hp (thn (hb _ s6 σ6 H6 _ I6 q6) fun f s7 q7=>?_)
   have again:∀ {σ7:St} {H7:Hp},Inv X (pins++zZe fp s5.heap) σ7 H7 s7->N σ7 H7->∃m,m < n/\∃i σ' H',Inv X pins σ' H' s7/\tn i s7.heap/\(∀b∈fp,H' b=none)/\W i m σ' H':=fun {σ7 H7} I7 n7=>by
     obtain⟨m',hm,w7⟩:=hN σ7 H7 n7
     refine⟨m',hm,i+1,σ7,H7,I7.unpinned,T.keep _ _ _ st5 fun b hb o e=>(I7.pin (b,o) (Wv _ (Wv _ (lO hb e)))).1,fun b hb=>?_,w7⟩
     obtain⟨o,e,d⟩:=T.obj _ _ st5 b hb
     exact(I7.pin (b,o) (Wv _ (Wv _ (lO hb e)))).2.1
   cases f with
   | next=>obtain⟨σ7,H7,I7,n7⟩:=q7;exact again I7 n7
   | cont=>obtain⟨σ7,H7,I7,n7⟩:=q7;exact again I7 n7
   | brk=>obtain⟨σ7,H7,I7,q7⟩:=q7;exact⟨σ7,H7,I7.unpinned,q7⟩
   | ret v=>obtain⟨x7,σ7,H7,I7,r7,q7⟩:=q7;exact⟨x7,σ7,H7,I7.unpinned,r7,q7⟩
end
abbrev R2:=V->V->Hp->VK->Prop
def OpR (X:Cx)(f:Value->Value->Sem Value)(r:R2):Prop :=
 ∀(pins:List (Addr×Obj)) (s:Shared) (σ:St) (H:Hp) (x y:V) (v u:Value) (Q:VK),Inv X pins σ H s->RelV x v->RelV y u->r x y H Q ->
   wpAny (model X.prog X.w) X.A (f v u) (EP X pins σ Q) X.xe s
def UnR (X:Cx)(f:Value->Sem Value)(r:V->Hp->VK->Prop):Prop :=
 ∀(pins:List (Addr×Obj)) (s:Shared) (σ:St) (H:Hp) (x:V) (v:Value) (Q:VK),Inv X pins σ H s->RelV x v->r x H Q ->
   wpAny (model X.prog X.w) X.A (f v) (EP X pins σ Q) X.xe s
def CallR (X:Cx)(f:Value)(r:List V->Hp->VK->Prop):Prop :=
 ∀(pins:List (Addr×Obj)) (s:Shared) (σ:St) (H:Hp) (xs:List V) (us:List Value) (Q:VK),Inv X pins σ H s->Vals xs us->r xs H Q ->
   wpAny (model X.prog X.w) X.A (call f us) (EP X pins σ Q) X.xe s
def tOp (r:R2)(ta tb:TE):TE:=fun σ H Q=>ta σ H fun x H1=>tb σ H1 fun y H2=>r x y H2 Q
def tUn (r:V->Hp->VK->Prop)(ta:TE):TE:=fun σ H Q=>ta σ H fun x H1=>r x H1 Q
def rI (C:Int->Int->Prop)(g:Int->Int->V):R2:=fun x y H Q=>∃i j,x = .int i/\y = .int j/\C i j/\Q (g i j) H
def rI0 (g:Int->Int->V):R2:=fun x y H Q=>∃i j,x = .int i/\y = .int j/\Q (g i j) H
def rU (g:Int->V):V->Hp->VK->Prop:=fun x H Q=>∃i,x = .int i/\Q (g i) H
section
variable {X:Cx} {a b c:Expr} {ta tb tc:TE} {pos:Pos}
theorem zL7 (ha:PE X a ta)(hb:PE X b tb){pins:List (Addr×Obj)}{s:Shared}{σ:St}{H:Hp}{R:V->V->Hp->Prop}(I:Inv X pins σ H s)
   (h:ta σ H fun x H1=>tb σ H1 fun y H2=>R x y H2) {Q:Value->Shared->Prop} {f:Value->Value->Sem Value}
   (hf:∀v u s2 x y H2,Inv X pins σ H2 s2->RelV x v->RelV y u->R x y H2->wpAny (model X.prog X.w) X.A (f v u) Q X.xe s2) :
   wpAny (model X.prog X.w) X.A (eval a X.env) (fun v s₁=>wpAny (model X.prog X.w) X.A (eval b X.env) (fun u s₂=>wpAny (model X.prog X.w) X.A (f v u) Q X.xe s₂) X.xe s₁) X.xe s:=by
 refine thn (ha pins s σ H _ I h) fun v s1 ⟨x,H1,I1,r1,q1⟩=>?_
 refine thn (hb pins s1 σ H1 _ I1 q1) fun u s2 ⟨y,H2,I2,r2,q2⟩=>?_
 exact hf v u s2 x y H2 I2 r1 r2 q2
theorem zWW {op:Operator}{r:R2}(ho:OpR X (binaryOp op) r)(ha:PE X a ta)(hb:PE X b tb):PE X (.BinOp a op b pos) (tOp r ta tb):=by
 intro pins s σ H Q I h
 exact wpAny_BinOp (zL7 ha hb I h fun v u s2 x y H2 I2 rx ry q=>ho pins s2 σ H2 x y v u Q I2 rx ry q)
theorem zKM {op:UnaryOp}{r:V->Hp->VK->Prop}(ho:UnR X (unaryOp op) r)(ha:PE X a ta):PE X (.UnaryOp op a pos) (tUn r ta):=by
 intro pins s σ H Q I h
 exact UnaryOp_ (thn (ha pins s σ H _ I h) fun v s1 ⟨x,H1,I1,r1,q1⟩=>ho pins s1 σ H1 x v Q I1 r1 q1)
theorem opI {f:Value->Value->Sem Value}{C:Int->Int->Prop}{g:Int->Int->Int}
   (rule:∀(i j:Int) (t u:Tok) (s:Shared) (Q:Value->Shared->Prop) (E:Value->Shared->Prop),C i j->Q (.int (g i j) s.toks) { s with toks:=s.toks+1 }->wpAny (model X.prog X.w) X.A (f (.int i t) (.int j u)) Q E s) :
   OpR X f (rI C fun i j=>.int (g i j)):=by
 intro pins s σ H x y v u Q I rx ry h
 obtain⟨i,j,rfl,rfl,hc,q⟩:=h
 obtain⟨t,rfl⟩:=rx
 obtain⟨t',rfl⟩:=ry
 exact rule i j t t' s _ _ hc ⟨.int (g i j),H,I.tok _,⟨_,rfl⟩,q⟩
theorem zLl {f:Value->Value->Sem Value}{g:Int->Int->Int}
   (rule:∀(i j:Int) (t u:Tok) (s:Shared) (Q:Value->Shared->Prop) (E:Value->Shared->Prop),Q (.int (g i j) s.toks) { s with toks:=s.toks+1 }->wpAny (model X.prog X.w) X.A (f (.int i t) (.int j u)) Q E s) :
   OpR X f (rI0 fun i j=>.int (g i j)):=by
 intro pins s σ H x y v u Q I rx ry h
 obtain⟨i,j,rfl,rfl,q⟩:=h
 obtain⟨t,rfl⟩:=rx
 obtain⟨t',rfl⟩:=ry
 exact rule i j t t' s _ _ ⟨.int (g i j),H,I.tok _,⟨_,rfl⟩,q⟩
theorem zM2 {f:Value->Value->Sem Value}{g:Int->Int->Bool}
   (rule:∀(i j:Int) (t u:Tok) (s:Shared) (Q:Value->Shared->Prop) (E:Value->Shared->Prop),Q (.bool (g i j)) s->wpAny (model X.prog X.w) X.A (f (.int i t) (.int j u)) Q E s) :
   OpR X f (rI0 fun i j=>.bl (g i j)):=by
 intro pins s σ H x y v u Q I rx ry h
 obtain⟨i,j,rfl,rfl,q⟩:=h
 obtain⟨t,rfl⟩:=rx
 obtain⟨t',rfl⟩:=ry
 exact rule i j t t' s _ _ ⟨.bl (g i j),H,I,rfl,q⟩
def zJY (i j:Int):Prop:=0 < j/\j < 1073741824
def CMul (i j:Int):Prop:=(-(2^64) < i/\i < 2^64)∨(-(2^64) < j/\j < 2^64)
theorem CMul.ok {i j:Int}(h:CMul i j):IntMulOk i j:=by
 rcases h with⟨h1,h2⟩ | ⟨h1,h2⟩
 · exact .of_left (intBits_le_64 h1 h2)
 · exact .of_right (intBits_le_64 h1 h2)
theorem zO1:OpR X (binaryOp .Add) (rI0 fun i j=>.int (i+j)):=zLl fun _ _ _ _ _ _ _ q=>add_int q
theorem zLB:OpR X (binaryOp .Sub) (rI0 fun i j=>.int (i - j)):=zLl fun _ _ _ _ _ _ _ q=>sub_int q
theorem zLf:OpR X (binaryOp .Mult) (rI CMul fun i j=>.int (i*j)):=opI fun _ _ _ _ _ _ _ hc q=>mul_int q hc.ok
theorem zOn:OpR X (binaryOp .FloorDiv) (rI zJY fun i j=>.int (i / j)):=opI fun i j _ _ _ _ _ hc q=>by
 have h1:(0:Int) < j:=hc.1
 have h2:j < 1073741824:=hc.2
 exact floordiv_int (by omega) (by rw[Int.fdiv_eq_ediv_of_nonneg i (by omega)];exact q) (.inl (PyProof.noPylong_small (by omega)))
theorem zLk:OpR X (binaryOp .Mod) (rI (fun _ j=>0 < j) fun i j=>.int (i % j)):=opI fun i j _ _ _ _ _ hc q=>by
 have h1:(0:Int) < j:=hc
 exact mod_int' (by omega) (by rw[Int.fmod_eq_emod_of_nonneg i (by omega)];exact q)
theorem zMj:OpR X (binaryOp .BitXor) (rI0 fun i j=>.int (Builtin.bitXor i j)):=zLl fun _ _ _ _ _ _ _ q=>xor_int q
theorem unI {f:Value->Sem Value}{g:Int->Int}
   (rule:∀(i:Int) (t:Tok) (s:Shared) (Q:Value->Shared->Prop) (E:Value->Shared->Prop),Q (.int (g i) s.toks) { s with toks:=s.toks+1 }->wpAny (model X.prog X.w) X.A (f (.int i t)) Q E s) :
   UnR X f (rU fun i=>.int (g i)):=by
 intro pins s σ H x v Q I rx h
 obtain⟨i,rfl,q⟩:=h
 obtain⟨t,rfl⟩:=rx
 exact rule i t s _ _ ⟨.int (g i),H,I.tok _,⟨_,rfl⟩,q⟩
theorem zMk:UnR X (unaryOp .USub) (rU fun i=>.int (-i)):=unI fun _ _ _ _ _ q=>neg_int q
end
def zL4:V->V->Bool
 | .non,.non=>true | .non,.int _=>true | .int _,.non=>true | .non,.bl _=>true | .bl _,.non=>true | .non,.str _=>true | .str _,.non=>true
 | .int _,.int _=>true | .bl _,.bl _=>true | .str _,.str _=>true | .byt _,.byt _=>true
 | .int _,.str _=>true | .str _,.int _=>true | .bl _,.str _=>true | .str _,.bl _=>true
 | _,_=>false
def rEq:R2:=fun x y H Q=>zL4 x y=true/\Q (.bl (decide (x=y))) H
def rNe:R2:=fun x y H Q=>zL4 x y=true/\Q (.bl (!decide (x=y))) H
theorem zSG {i j:Int}:decide (V.int i=V.int j)=(i==j):=by
 rw[Tz]
 simp
theorem zWn {i j:Bool}:decide (V.bl i=V.bl j)=(i==j):=by
 rw[Tz]
 simp
theorem zSm {i j:Str}:decide (V.str i=V.str j)=(i==j):=by
 rw[Tz]
 simp
theorem zSl {i j:Array UInt8}:decide (V.byt i=V.byt j)=(i.toList==j.toList):=by
 rw[Tz]
 cases i
 cases j
 simp
section
variable {X:Cx} {a b c:Expr} {ta tb tc:TE} {pos:Pos}
theorem yH {pins:List (Addr×Obj)}{σ:St}{H:Hp}{s:Shared}{Q:VK}{k k':Bool}(I:Inv X pins σ H s)(q:Q (.bl k) H)(e:k=k'):EP X pins σ Q (.bool k') s:=by
 subst e
 exact⟨.bl k,H,I,rfl,q⟩
theorem zKW:OpR X (compareOp .Eq) rEq:=by
 intro pins s σ H x y v u Q I rx ry h
 obtain⟨hs,q⟩:=h
 cases x with
 | non =>
   cases rx
   cases y with
   | non=>cases ry;exact PySem.EqNone.eq_none_none (yH I q (by simp))
   | bl j=>cases ry;exact PySem.EqNone.eq_none_bool (yH I q (by simp))
   | int j=>obtain⟨t',rfl⟩:=ry;exact PySem.EqNone.eq_none_int (yH I q (by simp))
   | str j=>obtain⟨t',rfl⟩:=ry;exact PySem.EqNone.eq_none_str (yH I q (by simp))
   | _=>exact absurd (show false=true from hs) Qb
 | bl i =>
   cases rx
   cases y with
   | non=>cases ry;exact PySem.EqNone.eq_bool_none (yH I q (by simp))
   | bl j=>cases ry;exact eq_bool (yH I q zWn)
   | str j=>obtain⟨t',rfl⟩:=ry;exact PySem.EqMixed.eq_bool_str (yH I q (by simp))
   | _=>exact absurd (show false=true from hs) Qb
 | int i =>
   obtain⟨t,rfl⟩:=rx
   cases y with
   | non=>cases ry;exact PySem.EqNone.eq_int_none (yH I q (by simp))
   | int j=>obtain⟨t',rfl⟩:=ry;exact eq_int (yH I q zSG)
   | str j=>obtain⟨t',rfl⟩:=ry;exact PySem.EqMixed.eq_int_str (yH I q (by simp))
   | _=>exact absurd (show false=true from hs) Qb
 | str i =>
   obtain⟨t,rfl⟩:=rx
   cases y with
   | non=>cases ry;exact PySem.EqNone.eq_str_none (yH I q (by simp))
   | bl j=>cases ry;exact PySem.EqMixed.eq_str_bool (yH I q (by simp))
   | int j=>obtain⟨t',rfl⟩:=ry;exact PySem.EqMixed.eq_str_int (yH I q (by simp))
   | str j=>obtain⟨t',rfl⟩:=ry;exact eq_str (yH I q zSm)
   | _=>exact absurd (show false=true from hs) Qb
 | byt i =>
   obtain⟨t,rfl⟩:=rx
   cases y with
   | byt j=>obtain⟨t',rfl⟩:=ry;exact PySem.W.eq_bytes (yH I q zSl)
   | _=>exact absurd (show false=true from hs) Qb
 | _=>cases y<;>exact absurd (show false=true from hs) Qb
theorem zK2:OpR X (compareOp .NotEq) rNe:=by
 intro pins s σ H x y v u Q I rx ry h
 obtain⟨hs,q⟩:=h
 cases x with
 | non =>
   cases rx
   cases y with
   | non=>cases ry;exact PySem.EqNone.ne_none_none (yH I q (by simp))
   | bl j=>cases ry;exact PySem.EqNone.ne_none_bool (yH I q (by simp))
   | int j=>obtain⟨t',rfl⟩:=ry;exact PySem.EqNone.ne_none_int (yH I q (by simp))
   | str j=>obtain⟨t',rfl⟩:=ry;exact PySem.EqNone.ne_none_str (yH I q (by simp))
   | _=>exact absurd (show false=true from hs) Qb
 | bl i =>
   cases rx
   cases y with
   | non=>cases ry;exact PySem.EqNone.ne_bool_none (yH I q (by simp))
   | bl j=>cases ry;exact ne_bool (yH I q (Rp not zWn))
   | str j=>obtain⟨t',rfl⟩:=ry;exact PySem.EqMixed.ne_bool_str (yH I q (by simp))
   | _=>exact absurd (show false=true from hs) Qb
 | int i =>
   obtain⟨t,rfl⟩:=rx
   cases y with
   | non=>cases ry;exact PySem.EqNone.ne_int_none (yH I q (by simp))
   | int j=>obtain⟨t',rfl⟩:=ry;exact ne_int (yH I q (Rp not zSG))
   | str j=>obtain⟨t',rfl⟩:=ry;exact PySem.EqMixed.ne_int_str (yH I q (by simp))
   | _=>exact absurd (show false=true from hs) Qb
 | str i =>
   obtain⟨t,rfl⟩:=rx
   cases y with
   | non=>cases ry;exact PySem.EqNone.ne_str_none (yH I q (by simp))
   | bl j=>cases ry;exact PySem.EqMixed.ne_str_bool (yH I q (by simp))
   | int j=>obtain⟨t',rfl⟩:=ry;exact PySem.EqMixed.ne_str_int (yH I q (by simp))
   | str j=>obtain⟨t',rfl⟩:=ry;exact ne_str (yH I q (Rp not zSm))
   | _=>exact absurd (show false=true from hs) Qb
 | byt i =>
   obtain⟨t,rfl⟩:=rx
   cases y with
   | byt j=>obtain⟨t',rfl⟩:=ry;exact PySem.W.ne_bytes (yH I q (Rp not zSl))
   | _=>exact absurd (show false=true from hs) Qb
 | _=>cases y<;>exact absurd (show false=true from hs) Qb
theorem zKN:OpR X (compareOp .Lt) (rI0 fun i j=>.bl (decide (i < j))):=zM2 fun _ _ _ _ _ _ _ q=>lt_int q
theorem zLa:OpR X (compareOp .LtE) (rI0 fun i j=>.bl (decide (i<=j))):=zM2 fun _ _ _ _ _ _ _ q=>le_int q
theorem zKz:OpR X (compareOp .Gt) (rI0 fun i j=>.bl (decide (j < i))):=zM2 fun _ _ _ _ _ _ _ q=>gt_int q
theorem zRL:OpR X (compareOp .In) (fun x y H Q=>∃i j,x = .str i/\y = .str j/\Q (.bl (!(Builtin.Str.occurrences j i 0 j.length 1).isEmpty)) H):=by
 intro pins s σ H x y v u Q I rx ry h
 obtain⟨i,j,rfl,rfl,q⟩:=h
 obtain⟨t,rfl⟩:=rx
 obtain⟨t',rfl⟩:=ry
 exact in_str (yH I q rfl)
theorem zL1:OpR X (compareOp .Is) (fun x y H Q=>y = .non/\Q (.bl (decide (x = .non))) H):=by
 intro pins s σ H x y v u Q I rx ry h
 obtain⟨rfl,q⟩:=h
 cases ry
 refine is_none_gen (yH I q ?_)
 cases x<;>first
   | (cases rx;rfl)
   | (obtain⟨t,rfl⟩:=rx;rfl)
theorem zNl:OpR X (compareOp .IsNot) (fun x y H Q=>y = .non/\Q (.bl (!decide (x = .non))) H):=by
 intro pins s σ H x y v u Q I rx ry h
 obtain⟨rfl,q⟩:=h
 cases ry
 refine isnot_none_gen (yH I q ?_)
 cases x<;>first
   | (cases rx;rfl)
   | (obtain⟨t,rfl⟩:=rx;rfl)
theorem OpR.or {f:Value->Value->Sem Value}{r r':R2}(h:OpR X f r)(h':OpR X f r'):OpR X f (fun x y H Q=>r x y H Q∨r' x y H Q):=by
 intro pins s σ H x y v u Q I rx ry q
 rcases q with q | q
 · exact h pins s σ H x y v u Q I rx ry q
 · exact h' pins s σ H x y v u Q I rx ry q
theorem zZa (b:Expr){op:CmpOp}(h:op ≠ .In:=by decide)(h2:op ≠ .NotIn:=by decide):behindInMarks op b=false:=by
 have e1:(op==CmpOp.In)=false:=by cases op<;>first | rfl | exact absurd rfl h
 have e2:(op==CmpOp.NotIn)=false:=by cases op<;>first | rfl | exact absurd rfl h2
 cases b<;>simp[behindInMarks,e1,e2]
theorem zOw {op:CmpOp}{r:R2}(ho:OpR X (compareOp op) r)(ha:PE X a ta)(hb:PE X b tb)(hm:behindInMarks op b=false):PE X (.Compare a [op] [b] pos) (tOp r ta tb):=by
 intro pins s σ H Q I h
 exact wpAny_Compare1 (zL7 ha hb I h fun v u s2 x y H2 I2 rx ry q=>ho pins s2 σ H2 x y v u Q I2 rx ry q) hm
def zMS (t:TE):TT:=fun σ H Q=>t σ H fun x H'=>∃k,x = .bl k/\Q k H'
theorem zZU {op:CmpOp}{r:R2}(ho:OpR X (compareOp op) r)(ha:PE X a ta)(hb:PE X b tb)(hm:behindInMarks op b=false):PT X (.Compare a [op] [b] pos) (zMS (tOp r ta tb)):=by
 intro pins s σ H Q I h
 refine wpAny_isTrue_Compare1 (thn (ha pins s σ H _ I h) fun v s1 ⟨x,H1,I1,r1,q1⟩=>thn (hb pins s1 σ H1 _ I1 q1) fun u s2 ⟨y,H2,I2,r2,q2⟩ =>
   thn (ho pins s2 σ H2 x y v u _ I2 r1 r2 q2) fun c s3 ⟨z,H3,I3,r3,k,e,q3⟩=>?_) hm
 subst e
 cases r3
 exact Rk ⟨H3,I3,q3⟩
def zMi (r r':R2)(ta tb tc:TE):TE:=fun σ H Q=>ta σ H fun x H1=>tb σ H1 fun y H2=>r x y H2 fun z H3=>∃k,z = .bl k /\
 (if k=true then tc σ H3 fun w' H4=>r' y w' H4 Q else Q (.bl false) H3)
theorem zPT {op op':CmpOp}{r r':R2}(ho:OpR X (compareOp op) r)(ho':OpR X (compareOp op') r')(ha:PE X a ta)(hb:PE X b tb)(hc:PE X c tc)
   (hm:lastMarks [op,op'] [b,c]=false:=by with_unfolding_all rfl):PE X (.Compare a [op,op'] [b,c] pos) (zMi r r' ta tb tc):=by
 intro pins s σ H Q I h
 refine Compare_chain (thn (ha pins s σ H _ I h) fun v s1 ⟨x,H1,I1,r1,q1⟩=>chain_link (thn (hb pins s1 σ H1 _ I1 q1) fun u s2 ⟨y,H2,I2,r2,q2⟩ =>
   thn (ho pins s2 σ H2 x y v u _ I2 r1 r2 q2) fun d s3 ⟨z,H3,I3,r3,k,e,q3⟩=>?_)) hm
 subst e
 cases r3
 refine Rk ?_
 cases k with
 | false=>exact ite_ff ⟨.bl false,H3,I3,rfl,q3⟩
 | true=>exact ite_tt (chain_last (thn (hc pins s3 σ H3 _ I3 q3) fun w' s4 ⟨z',H4,I4,r4,q4⟩=>ho' pins s4 σ H4 y z' u w' Q I4 r2 r4 q4))
theorem bQ:(sizeLine:Nat) < 2^63:=by rw[Ym];decide
theorem zTy:OpR X (binaryOp .Add) (fun x y H Q=>∃i j,x = .str i/\y = .str j/\i.length+j.length<=sizeLine/\Q (.str (i++j)) H):=by
 intro pins s σ H x y v u Q I rx ry h
 obtain⟨i,j,rfl,rfl,hz,q⟩:=h
 obtain⟨t,rfl⟩:=rx
 obtain⟨t',rfl⟩:=ry
 exact add_str (fun t' tk=>⟨.str (i++j),H,I.tok _,⟨_,rfl⟩,q⟩) hz
theorem pI {x:V}{us:List Value}(r:Vals [x] us):∃u,us=[u]/\RelV x u:=by
 cases r with
 | cons r1 r2=>cases r2;exact⟨_,rfl,r1⟩
theorem zSJ {x y:V}{us:List Value}(r:Vals [x,y] us):∃u w',us=[u,w']/\RelV x u/\RelV y w':=by
 cases r with
 | cons r1 r2 =>
   cases r2 with
   | cons r3 r4=>cases r4;exact⟨_,_,rfl,r1,r3⟩
theorem zRR:CallR X (.type "int") (fun xs H Q=>(∃i,xs=[.int i]/\Q (.int i) H)∨∃k,xs=[.bl k]/\Q (.int (if k then 1 else 0)) H):=by
 intro pins s σ H xs us Q I r h
 rcases h with⟨i,rfl,q⟩ | ⟨k,rfl,q⟩
 · obtain⟨u,rfl,t,rfl⟩:=pI r
   exact call_int_int ⟨.int i,H,I,⟨_,rfl⟩,q⟩
 · obtain⟨u,rfl,r1⟩:=pI r
   cases r1
   exact call_int_bool ⟨.int (if k then 1 else 0),H,I.tok _,⟨_,rfl⟩,q⟩
theorem zWx:CallR X (.type "str") (fun xs H Q=>∃i,xs=[.int i]/\i.natAbs.log2 < 1920/\Q (.str (toString i)) H):=by
 intro pins s σ H xs us Q I r h
 obtain⟨i,rfl,hz,q⟩:=h
 obtain⟨u,rfl,t,rfl⟩:=pI r
 exact PySem.P.str_of_int hz ⟨.str _,H,I.tok _,⟨_,rfl⟩,q⟩
end
structure ObjM (h:Heap)(x dx C:Addr)(mA:Str->Option Value):Prop where
 obj:h.get? x=some (PySem.W.instObj C dx)
 ns:h.Ns1 dx mA
 ne:dx≠x
theorem zRp {h:Heap}{dx:Addr}{mA:Str->Option Value}(n:h.Ns1 dx mA):∃od,h.get? dx=some od/\∀name,PySem.W.lookIn name od=some (mA name):=by
 obtain⟨o,es,ep,ho,hd,hk,_,hm⟩:=n
 refine⟨o,ho,fun name=>?_⟩
 have e:=hm name
 unfold nsFind findBy at e
 rw[←Ie] at e
 unfold PySem.W.lookIn
 rw[hd]
 dsimp only
 split
 · rename_i y q
   rw[q] at e
   exact Rp some e
 · rename_i q
   rw[q] at e
   have a:es.toList.any (·.refKey)=false:=by
     rw[List.any_eq_false]
     intro y hy
     obtain⟨z,t,hkey⟩:=hk y (Array.mem_toList_iff.mp hy)
     simp[DictEntry.refKey,hkey]
   have a':¬es.toList.any (·.refKey)=true:=by rw[a];exact Qb
   rw[Wd a']
   exact Rp some e
theorem ObjM.look {h:Heap}{x dx C:Addr}{mA:Str->Option Value}(I:ObjM h x dx C mA):∃od,PySem.W.InstAt h x (PySem.W.instObj C dx) C (some od)/\∀name,PySem.W.lookIn name od=some (mA name) :=
 let ⟨od,ho,hl⟩:=zRp I.ns
 ⟨od,⟨I.obj,rfl,rfl,ho⟩,hl⟩
section
variable {prog:Program} {w:World} {A:Around} {E:Value->Shared->Prop} {s:Shared} {K:PySem.W.Frag} {x dx C f:Addr} {mA:Str->Option Value} {name:Str} {v:Value}
theorem zNu {expr:Bool}{Q:Value->Shared->Prop}(X:K.In s.heap)(I:ObjM s.heap x dx C mA)(hg:PySem.W.plainGet K C name=true)(hh:PySem.W.hasDictIn K C=true)
   (ha:PySem.W.findIn K (.ref C) name=some none) (hv:mA name=some v) (hv':PySem.W.handedIn v=true) (h:Q v { s with toks:=s.toks+1 }) :
   wpAny (model prog w) A (getAttr (.ref x) name expr) Q E s:=by
 obtain⟨od,J,hl⟩:=I.look
 exact PySem.W.get_value X J (PySem.W.plainGet_of hg).1 (PySem.W.findObj_own hh ha rfl (by rw[hl,hv])) hv' h
theorem zNW {ns:List Str}{Q:Unit->Shared->Prop}(X:K.In s.heap)(I:ObjM s.heap x dx C mA)
   (hs:PySem.W.findIn K (.ref C) "__setattr__"=some (some (.builtin "object.__setattr__"))) (hp:PySem.W.plainOver K C=true) (ht:PySem.W.takerIn K C name=some none) (hh:PySem.W.hasDictIn K C=true)
   (hw:PySem.Within mA ns) (hsz:ns.length<=sizeLine)
   (h:∀h',ObjM h' x dx C (fun y=>if y=name then some v else mA y)->Heap.SameBut dx s.heap h'->Q () { s with heap:=h',toks:=s.toks+2 }) :
   wpAny (model prog w) A (setAttr (.ref x) name v) Q E s:=by
 obtain⟨od,J,hl⟩:=I.look
 refine PySem.W.set_plain X J hs (PySem.W.osa_open (s:={ s with toks:=s.toks+1 }) (r:=none) X J hp ht fun b=>?_)
 obtain⟨cd,hc,hd'⟩:=PySem.W.any_some hh
 have hx:s.heap.get? x=some ⟨.ref C,some dx,.plain,#[]⟩:=I.obj
 refine Qw (Qi (Qw (Qw (Oi hx (Qw (PySem.W.Looks.here (s:={ s with toks:=s.toks+1 }) (PySem.W.looks_clsIn X hc) ?_))))))
 rw[hd']
 refine Qi (a:=some dx) (Qw (Qi (Qw ?_)))
 refine wpAny_nsSet1 (s:={ s with toks:=s.toks+1 }) I.ns fun h' hn2 hs2=>?_
 obtain⟨oD,esD,epD,hoD,hdD,hcD⟩:=hn2.count (PySem.Within.cons name v hw)
 refine Qw (Ix hoD (by rw[hdD];exact Ic (Eu hcD (by rw[Qp];omega))) ?_)
 exact Qi (h _ ⟨(hs2.2 _ (Ne.symm I.ne)).trans I.obj,hn2,I.ne⟩ hs2)
theorem zQd {R:Result->Shared->Prop}{vs:List Value}{kw:List (Str×Value)}(X:K.In s.heap)(hm:PySem.W.makesIn K C=true)
   (hi:PySem.W.findIn K (.ref C) "__init__"=some (some (.ref f))) (hf:PySem.W.typeIn K (.ref f)=some (.type "function"))
   (h:codeAny (model prog w) (A.under (.builtin "type.__call__" ⟨.ref C::vs,kw⟩)) (.call (.ref f) ⟨.ref (s.heap.objs.size+1)::vs,kw⟩) (PySem.W.InitBack (s.heap.objs.size+1) R)
     { s with heap:=(s.heap.push PySem.W.emptyDict).push (PySem.W.instObj C s.heap.objs.size) }) :
   codeAny (model prog w) A (.call (.ref C) ⟨vs,kw⟩) R s:=by
 obtain⟨hh,g,d,t,os⟩:=s
 exact PySem.W.make_core (PySem.W.makes_of X hm) (PySem.W.looks_findIn X hi) (fun self=>PySem.W.bind_fn X self hf) (.inl rfl) h
end
def mP (f:Str)(v:V):List (Str×V)->List (Str×V)
 | []=>[(f,v)]
 | (g,x)::r=>if g=f then(g,v)::r else(g,x)::mP f v r
theorem jQ (f g:Str)(v:V):∀fs:List (Str×V),(mP f v fs).lookup g=if g=f then some v else fs.lookup g
 | []=>by
   show List.lookup g [(f,v)]=_
   by_cases h:g=f
   · have hb:(g==f)=true:=Wm.mpr h
     simp only[List.lookup,hb,Qn h]
   · have hb:(g==f)=false:=Ei.mpr h
     simp only[List.lookup,hb,Wd h]
 | (k,x)::r=>by
   have ih:=jQ f g v r
   rw[show mP f v ((k,x)::r)=(if k=f then(k,v)::r else(k,x)::mP f v r) from rfl]
   by_cases hk:k=f
   · rw[Qn hk]
     by_cases h:g=k
     · have hb:(g==k)=true:=Wm.mpr h
       simp only[List.lookup,hb,Qn (h.trans hk)]
     · have hb:(g==k)=false:=Ei.mpr h
       simp only[List.lookup,hb,Wd (fun e:g=f=>h (e.trans hk.symm))]
   · rw[Wd hk]
     by_cases h:g=k
     · have hb:(g==k)=true:=Wm.mpr h
       simp only[List.lookup,hb,Wd (fun e:g=f=>hk (h.symm.trans e))]
     · have hb:(g==k)=false:=Ei.mpr h
       simp only[List.lookup,hb]
       exact ih
theorem cJ (f:Str)(v:V):∀fs:List (Str×V),f∈(mP f v fs).map (·.1)/\∀g,g∈fs.map (·.1)->g∈(mP f v fs).map (·.1)
 | []=>⟨by simp[mP],fun g h=>by simp at h⟩
 | (k,x)::r=>by
   obtain⟨i1,i2⟩:=cJ f v r
   rw[show mP f v ((k,x)::r)=(if k=f then(k,v)::r else(k,x)::mP f v r) from rfl]
   by_cases hk:k=f
   · rw[Qn hk]
     subst hk
     exact⟨by simp,fun g h=>by simpa using h⟩
   · rw[Wd hk]
     refine⟨?_,fun g h=>?_⟩
     · rw[Qg]
       exact Qd _ i1
     · rw[Qg] at h ⊢
       rcases Qj.mp h with e | e
       · exact Qj.mpr (.inl e)
       · exact Qd _ (i2 g e)
theorem bA (f:Str)(v:V):∀fs:List (Str×V),(mP f v fs).length<=fs.length+1
 | []=>by simp[mP]
 | (k,x)::r=>by
   have ih:=bA f v r
   rw[show mP f v ((k,x)::r)=(if k=f then(k,v)::r else(k,x)::mP f v r) from rfl]
   by_cases hk:k=f
   · rw[Qn hk,Qp,Qp];omega
   · rw[Wd hk,Qp,Qp];omega
theorem RelO.some_of {v:V}{o:Option Value}(r:RelO (some v) o):∃u,o=some u/\RelV v u:=by
 cases o with
 | none=>exact(show False from r).elim
 | some u=>exact⟨u,rfl,r⟩
theorem RelO.none_of {o:Option Value}(r:RelO none o):o=none:=by
 cases o with
 | none=>rfl
 | some u=>exact(show False from r).elim
theorem zXu {v:V}{u:Value}(r:RelV v u):PySem.W.handedIn u=true:=by
 cases v with
 | non=>cases (show u=Value.none from r);rfl
 | bl b=>cases (show u=Value.bool b from r);rfl
 | int i=>obtain⟨t,e⟩:=(show ∃t,u=Value.int i t from r);cases e;rfl
 | str x=>obtain⟨t,e⟩:=(show ∃t,u=Value.str x t from r);cases e;rfl
 | byt b=>obtain⟨t,e⟩:=(show ∃t,u=Value.bytes b t from r);cases e;rfl
 | flt b=>obtain⟨t,e⟩:=(show ∃t,u=Value.float b t from r);cases e;rfl
 | ref a=>cases (show u=Value.ref a from r);rfl
 | ty n=>cases (show u=Value.type n from r);rfl
section
variable {P:Program} {w:World} {H H':Hp} {h h':Heap} {a C dx:Addr} {fs fs':List (Str×V)}
theorem zSo (hok:HOk P w H h)(e:H a=some (.ins C dx fs)):∃mA,ObjM h a dx C mA/\(∀f,RelO (fs.lookup f) (mA f))/\PySem.Within mA (fs.map (·.1))/\fs.length<=1000/\H dx=some (.own a):=by
 obtain⟨d,z,ne,ob,mA,n,r,q⟩:=(show ObjOk P w H h a (.ins C dx fs) from hok a _ e)
 exact⟨mA,⟨ob,n,ne⟩,r,q,z,d⟩
end
structure Cls (K:PySem.W.Frag)(C:Addr):Prop where
 pg:PySem.W.plainGet K C Str.empty=true
 hd:PySem.W.hasDictIn K C=true
 po:PySem.W.plainOver K C=true
 sa:PySem.W.findIn K (.ref C) "__setattr__"=some (some (.builtin "object.__setattr__"))
theorem Cls.get {K:PySem.W.Frag}{C:Addr}(c:Cls K C)(f:Str):PySem.W.plainGet K C f=true:=c.pg
def NoAttr (K:PySem.W.Frag)(C:Addr)(f:Str):Prop:=PySem.W.findIn K (.ref C) f=some none
theorem NoAttr.taker {K:PySem.W.Frag}{C:Addr}{f:Str}(n:NoAttr K C f):PySem.W.takerIn K C f=some none:=by
 unfold PySem.W.takerIn
 rw[show PySem.W.findIn K (.ref C) f=some none from n]
 rfl
structure Con (K:PySem.W.Frag)(C:Addr)(f:Str)(v:V)(u:Value):Prop where
 at_:PySem.W.findIn K (.ref C) f=some (some u)
 rel:RelV v u
 get:PySem.W.specialIn K u "__get__"=some none
 cp:PySem.W.copiedNames.contains f=false
structure Meth (K:PySem.W.Frag)(C:Addr)(m:Str)(f:Addr):Prop where
 at_:PySem.W.findIn K (.ref C) m=some (some (.ref f))
 fn:PySem.W.isFn K (.ref f)=true
 kp:PySem.W.keepIn K (.ref f)=true
section
variable {X:Cx} {pins:List (Addr×Obj)} {σ:St} {H:Hp} {s:Shared} {a C dx:Addr} {fs:List (Str×V)} {f:Str} {v:V} {A:Around} {E:Value->Shared->Prop}
theorem zUc {b:Bool}{Q:Value->Shared->Prop}(I:Inv X pins σ H s)(e:H a=some (.ins C dx fs))(c:Cls X.K C)(n:NoAttr X.K C f)(l:fs.lookup f=some v)
   (h:∀u s',Inv X pins σ H s'->RelV v u->Q u s'):wpAny (model X.prog X.w) A (getAttr (.ref a) f b) Q E s:=by
 obtain⟨mA,O,r,_,_,_⟩:=zSo I.hok e
 obtain⟨u,hu,ru⟩:=RelO.some_of (v:=v) (o:=mA f) (by rw[←l];exact r f)
 exact zNu I.kIn O (c.get f) c.hd n hu (zXu ru) (h u _ (I.tok _) ru)
theorem zTp {y:V}{u:Value}{Q:Unit->Shared->Prop}(I:Inv X pins σ H s)(e:H a=some (.ins C dx fs))(c:Cls X.K C)(n:NoAttr X.K C f)(hl:fs.length < 1000)(ry:RelV y u)
   (h:∀s',Inv X pins σ (upd H a (.ins C dx (mP f y fs))) s'->Q () s'):wpAny (model X.prog X.w) A (setAttr (.ref a) f u) Q E s:=by
 obtain⟨mA,O,r,wi,_,ho⟩:=zSo I.hok e
 have hz:(fs.map (·.1)).length<=sizeLine:=by rw[Qo,Ym];omega
 refine zNW I.kIn O c.sa c.po n.taker c.hd wi hz fun h' O' sb=>h _ ?_
 have hd:∃o,h'.get? dx=some o:=let ⟨o,_,_,e',_⟩:=O'.ns;⟨o,e'⟩
 refine I.write (x:=a) (e:=dx) (by rw[e];exact True.intro) (.inr ho) (fun b q hb z=>(sb.2 b hb).trans z) hd ?_
 refine⟨by rw[yQ O.ne];exact ho,?_,O.ne,O'.obj,_,O'.ns,fun g=>?_,fun g hg=>?_⟩
 · have:=bA f y fs;omega
 · show RelO ((mP f y fs).lookup g) (if g=f then some u else mA g)
   rw[jQ]
   by_cases q:g=f
   · rw[Qn q,Qn q];exact ry
   · rw[Wd q,Wd q];exact r g
 · by_cases q:g=f
   · rw[q];exact(cJ f y fs).1
   · refine(cJ f y fs).2 g (wi g fun z=>hg ?_)
     show(if g=f then some u else mA g)=none
     rw[Wd q];exact z
theorem Inv.made (I:Inv X pins σ H s):Inv X pins σ (upd (upd H s.heap.objs.size (.own (s.heap.objs.size+1))) (s.heap.objs.size+1) (.ins C s.heap.objs.size []))
   { s with heap:=(s.heap.push PySem.W.emptyDict).push (PySem.W.instObj C s.heap.objs.size) }:=by
 have e1:(s.heap.push PySem.W.emptyDict).get? s.heap.objs.size=some PySem.W.emptyDict:=Qa s.heap rfl
 have e2:((s.heap.push PySem.W.emptyDict).push (PySem.W.instObj C s.heap.objs.size)).get? (s.heap.objs.size+1)=some (PySem.W.instObj C s.heap.objs.size):=by
   have:=Qa (s.heap.push PySem.W.emptyDict) (o:=PySem.W.instObj C s.heap.objs.size) rfl
   rwa[Eg] at this
 have e3:(s.heap.push PySem.W.emptyDict).Ns s.heap.objs.size (fun _=>none):=⟨PySem.W.emptyDict,#[],_,e1,rfl,(fun e he=>absurd he (by simp)),fun _=>rfl⟩
 have I1:=I.laid (a:=s.heap.objs.size) (o:=.own (s.heap.objs.size+1)) (h':=s.heap.push PySem.W.emptyDict) (t':=s.toks) (fun b u q=>Qr _ q) (Ql _) ⟨_,e1⟩
 refine I1.laid (a:=s.heap.objs.size+1) (o:=.ins C s.heap.objs.size []) (t':=s.toks) (fun b u q=>Qr _ q) (Nat.le_of_eq (Eg _ _)) ?_
 have ne:s.heap.objs.size≠s.heap.objs.size+1:=Wu (Iv _)
 refine⟨by rw[yQ ne,zC],Tj _,ne,e2,fun _=>none,(Heap.Ns1.of_empty e3).at fun o q=>Qr _ q,fun _=>True.intro,fun y hy=>absurd rfl hy⟩
theorem zSs {prog:Program}{w:World}{env:Env}{e:Expr}{f:Str}{pos:Pos}{s:Shared}{Q:Value->Shared->Prop}(hb:attributeBase e f env (eval e env)=eval e env)
   (h:wpAny (model prog w) A (eval e env) (fun o s₁=>wpAny (model prog w) A (getAttr o f true) Q E s₁) E s):wpAny (model prog w) A (eval (.Attribute e f pos) env) Q E s :=
 Attribute_any_ h (by rw[arm_eval_Attribute,hb])
end
def zKd (K:PySem.W.Frag)(ta:TE)(f:Str):TE:=fun σ H Q=>ta σ H fun x H1=>∃a C dx fs v,x = .ref a/\H1 a=some (.ins C dx fs)/\Cls K C/\NoAttr K C f/\fs.lookup f=some v/\Q v H1
def zJI (K:PySem.W.Frag)(ta tv:TE)(f:Str):TS:=fun D σ H=>tv σ H fun y H1=>ta σ H1 fun x H2=>∃a C dx fs,x = .ref a/\H2 a=some (.ins C dx fs)/\Cls K C/\NoAttr K C f/\fs.length < 1000 /\
 D.nx σ (upd H2 a (.ins C dx (mP f y fs)))
section
variable {X:Cx} {o e value:Expr} {f:Str} {pos pos' tpos:Pos} {ta tv:TE}
theorem zL5 (he:PE X e ta)(hb:attributeBase e f X.env (eval e X.env)=eval e X.env):PE X (.Attribute e f pos) (zKd X.K ta f):=by
 intro pins s σ H Q I h
 refine zSs hb (thn (he pins s σ H _ I h) fun u s1 ⟨x,H1,I1,rx,a,C,dx,fs,v,ex,ea,c,n,l,q⟩=>?_)
 subst ex
 obtain rfl:u=Value.ref a:=rx
 exact zUc I1 ea c n l fun u' s2 I2 ru=>⟨v,H1,I2,ru,q⟩
theorem zMq (ha:PE X o ta)(hv:PE X value tv)(hs:swapsWith value (some (.Attribute o f pos')) pos.line X.env=pure false):PS X (.Assign [.Attribute o f pos'] value pos) (zJI X.K ta tv f):=by
 intro pins s σ H D I h
 refine Ia (thn (hv pins s σ H _ I h) fun u s1 ⟨y,H1,I1,ry,q⟩=>thn (ha pins s1 σ H1 _ I1 q) fun ov s2 ⟨x,H2,I2,rx,a,C,dx,fs,ex,ea,c,n,l,q2⟩=>?_) hs
 subst ex
 obtain rfl:ov=Value.ref a:=rx
 exact zTp I2 ea c n l ry fun s3 I3=>⟨σ,_,I3,q2⟩
end
section
variable {X:Cx} {pins:List (Addr×Obj)} {σ:St} {H:Hp} {s:Shared} {A:Around} {E:Value->Shared->Prop} {Q:Value->Shared->Prop} {c:Value} {b:Bool}
inductive TyOf (K:PySem.W.Frag)(H:Hp):V->Value->Prop where
 | non:TyOf K H .non (.type "NoneType")
 | bl (x:Bool):TyOf K H (.bl x) (.type "bool")
 | int (i:Int):TyOf K H (.int i) (.type "int")
 | str (x:Str):TyOf K H (.str x) (.type "str")
 | flt (x:UInt64):TyOf K H (.flt x) (.type "float")
 | lst {a:Addr} {xs:List V} (e:H a=some (.lst xs)):TyOf K H (.ref a) (.type "list")
 | frz {a:Addr} {o:Obj} {xs:List V} (e:H a=some (.frz o (.lst xs))):TyOf K H (.ref a) (.type "list")
 | tup {a:Addr} {xs:List V} (e:H a=some (.tup xs)):TyOf K H (.ref a) (.type "tuple")
 | dK {a:Addr} {kvs:List (Key×V)} (e:H a=some (.dK kvs)):TyOf K H (.ref a) (.type "dict")
 | dT {a:Addr} {kvs:List (List Key×V)} (e:H a=some (.dT kvs)):TyOf K H (.ref a) (.type "dict")
 | ins {a C dx:Addr} {fs:List (Str×V)} (e:H a=some (.ins C dx fs)) (cl:Cls K C) (ha:PySem.W.findIn K (.ref C) "__class__"=some (some (.builtin "object.__class__")))
     (hn:PySem.W.specialIn K (.builtin "object.__class__") "__get__"=some (some (.builtin "getset_descriptor.__get__"))) (htk:PySem.W.takesIn K (.builtin "object.__class__")=some true)
     (hm:PySem.W.mroIn K C (.type "object")=some true):TyOf K H (.ref a) (.ref C)
end
structure Room (k:Nat)(A:Around):Prop where
 hd:A.handled=none
 dp:A.depth+3*k+5 < recursionLimit
 un:A.units+16*k+200 < cLine
theorem Room.mono {j k:Nat}{A:Around}(r:Room k A)(h:j<=k):Room j A:=⟨r.hd,by have:=r.dp;omega,by have:=r.un;omega⟩
theorem Room.deeper {k:Nat}{A:Around}(r:Room (k+1) A)(env:Env):Room k (A.deeper env) :=
 ⟨r.hd,by have:=r.dp;show A.depth+1+3*k+5 < _;omega,by have:=r.un;show A.units+3+16*k+200 < _;omega⟩
theorem zTH {A:Around}{C:Addr}{us:List Value}{kw:List (Str×Value)}:(A.under (.builtin "type.__call__" ⟨.ref C::us,kw⟩)).depth=A.depth+1:=by
 first | rfl | simp[Around.under,Code.weight,Code.isCreation,Code.isGuard,Code.isCaller,Code.frames,Code.isFrame,guardIds]
theorem zTf {A:Around}{C:Addr}{us:List Value}{kw:List (Str×Value)}:(A.under (.builtin "type.__call__" ⟨.ref C::us,kw⟩)).units=A.units+1:=by
 first | rfl | simp[Around.under,Code.cUnits,Code.frames,Code.isFrame]
theorem Room.make {k:Nat}{A:Around}(r:Room (k+1) A)(C:Addr)(us:List Value)(kw:List (Str×Value)):Room k (A.under (.builtin "type.__call__" ⟨.ref C::us,kw⟩)) :=
 ⟨r.hd,by have:=r.dp;rw[zTH];omega,by have:=r.un;rw[zTf];omega⟩
theorem Room.depth {k:Nat}{A:Around}(r:Room k A):A.depth < recursionLimit:=by have:=r.dp;omega
theorem Room.units {k:Nat}{A:Around}(r:Room k A):A.units+64 < cLine:=by have:=r.un;omega
theorem Room.units0 {k:Nat}{A:Around}(r:Room k A):A.units < cLine:=by have:=r.un;omega
def zVx:TA:=fun _ H Q=>Q [] H
def fG (ta:TE)(tr:TA):TA:=fun σ H Q=>ta σ H fun x H1=>tr σ H1 fun xs H2=>Q (x::xs) H2
section
variable {X:Cx} {e:Expr} {es:List Expr} {te:TE} {t:TA} {pos:Pos}
theorem yE:PA X [] zVx:=fun _ _ _ _ H Q I h=>Ig ⟨[],H,I,.nil,h⟩
theorem yV (ha:PE X e te)(hr:PA X es t)(hs:starEach (e::es) X.env=(false,eval e X.env)::starEach es X.env:=by rfl):PA X (e::es) (fG te t):=by
 intro pos pins s σ H Q I h
 rw[hs]
 show wpAny _ _ (spliced ((false,eval e X.env)::backTo pos (starEach es X.env))) _ _ s
 refine Ir (thn (ha pins s σ H _ I h) fun u s1 ⟨x,H1,I1,r1,q1⟩=>?_)
 exact thn (hr pos pins s1 σ H1 _ I1 q1) fun us s2 ⟨xs,H2,I2,r2,q2⟩=>⟨x::xs,H2,I2,.cons r1 r2,q2⟩
def zKj (t:TA):TE:=fun σ H Q=>t σ H fun xs H1=>xs.length<=sizeLine/\∀p,H1 p=none->Q (.ref p) (upd H1 p (.tup xs))
def zJZ (t:TA):TE:=fun σ H Q=>t σ H fun xs H1=>xs.length<=sizeLine/\∀p,H1 p=none->Q (.ref p) (upd H1 p (.lst xs))
theorem zM6 {x1}(h:PA X es t):PE X (.Tuple es x1 pos) (zKj t):=by
 intro pins s σ H Q I hq
 refine wpAny_Tuple_spliced (thn (h pos pins s σ H _ I hq) fun us s1 ⟨xs,H1,I1,r,z,q⟩=>⟨by rw[←r.length];exact z,?_⟩)
 have hf:H1 s1.heap.objs.size=none:=I1.hok.fresh (Ql _)
 refine⟨.ref s1.heap.objs.size,upd H1 s1.heap.objs.size (.tup xs),I1.laid (t':=s1.toks) (fun b u e=>Qr _ e) (Ql _) ?_,rfl,q _ hf⟩
 exact⟨z,us,r,⟨_,Qa _ rfl,rfl,_,rfl⟩⟩
theorem zPI (h:PA X es t):PE X (.List es pos) (zJZ t):=by
 intro pins s σ H Q I hq
 refine wpAny_List_spliced (thn (h pos pins s σ H _ I hq) fun us s1 ⟨xs,H1,I1,r,z,q⟩=>⟨by rw[←r.length];exact z,?_⟩)
 have hf:H1 s1.heap.objs.size=none:=I1.hok.fresh (Ql _)
 refine⟨.ref s1.heap.objs.size,upd H1 s1.heap.objs.size (.lst xs),I1.laid (t':=s1.toks) (fun b u e=>Qr _ e) (Ql _) ?_,rfl,q _ hf⟩
 exact⟨z,us,0,r,Qa _ rfl⟩
end
abbrev Sp:=List V->Hp->VK->XK->Prop
abbrev CXT:=List Env->Hp->Shared->XK->Value->Shared->Prop
structure Env0 (P:Program)(w:World)(K:PySem.W.Frag)(mg:Str->Option Value)(base:Heap)(A:Around)(outer:List Env)(s:Shared)(H:Hp):Prop where
 frames:A.frames=some outer
 mod:Mod K mg base
 bs:∀b o,base.get? b=some o->s.heap.get? b=some o/\H b=none
 bsz:base.objs.size<=s.heap.objs.size
 funs:s.heap.FunFrames base outer
 frf:∀b∈frs outer,H b=none
 hok:HOk P w H s.heap
 bare:AllBare s.gens
def CE (outer:List Env)(P:Program)(w:World)(H:Hp)(s:Shared)(Q:VK)(u:Value)(s':Shared):Prop :=
 ∃v H',s'.os=s.os/\AllBare s'.gens/\Un (frs outer) [] H H' s.heap s'.heap/\HOk P w H' s'.heap/\RelV v u/\Q v H'
def CR (CX:CXT)(outer:List Env)(P:Program)(w:World)(H:Hp)(s:Shared)(Q:VK)(E:XK)(r:Result)(s':Shared):Prop :=
 match r with
 | .ok (.ret u)=>CE outer P w H s Q u s'
 | .ok _=>False
 | .error e=>CX outer H s E e s'
structure FnOk (P:Program)(w:World)(K:PySem.W.Frag)(mg:Str->Option Value)(base:Heap)(CX:CXT)(k:Nat)(f:Addr)(fd:FuncData)(ps:List Str)(sp:Sp):Prop where
 len:∀vs H Q E,sp vs H Q E->vs.length=ps.length
 run:∀(A:Around) (outer:List Env) (s:Shared) (H:Hp) (args:Args) (us:List Value) (vs:List V) (Q:VK) (E:XK),Room k A->Env0 P w K mg base A outer s H->BindsTo s fd args (ps.zip us)->Vals vs us->sp vs H Q E ->
   codeAny (model P w) A (.call (.ref f) args) (CR CX outer P w H s Q E) s
theorem Env0.make {P:Program}{w:World}{K:PySem.W.Frag}{mg:Str->Option Value}{base:Heap}{A:Around}{outer:List Env}{s:Shared}{H:Hp}(e:Env0 P w K mg base A outer s H)(C:Addr)(us:List Value)(kw:List (Str×Value)) :
   Env0 P w K mg base (A.under (.builtin "type.__call__" ⟨.ref C::us,kw⟩)) outer s H:=⟨by first | exact e.frames | (simpa [Around.under,Code.envs,Code.isFrame,pushEnvs] using e.frames),e.mod,e.bs,e.bsz,e.funs,e.frf,e.hok,e.bare⟩
section
variable {X:Cx} {pins:List (Addr×Obj)} {σ:St} {H:Hp} {s s':Shared}
theorem Inv.env0 (I:Inv X pins σ H s):Env0 X.prog X.w X.K X.mg X.base X.A X.stack s H :=
 ⟨I.ok.frames,I.ok.mod,I.bs,Eu I.ok.bsz I.sz,I.stack,I.stkFree,I.hok,I.bare⟩
theorem Inv.after {Q:VK}{u:Value}(I:Inv X pins σ H s)(h:CE X.stack X.prog X.w H s Q u s'):EP X pins σ Q u s':=by
 obtain⟨v,H',os,bare,un,hok,r,q⟩:=h
 obtain⟨hh,g,d,t,os'⟩:=s'
 obtain rfl:os'=s.os:=os
 exact⟨v,H',I.call (h':=hh) (g':=g) (d':=d) (t':=t) (ch:=[]) un hok bare (fun b z=>absurd z (by simp)),r,q⟩
end
def zKX (sp:Sp)(dvs:List V)(E:XK)(t:TA):TE:=fun σ H Q=>t σ H fun vs H1=>sp (vs++dvs) H1 Q E
def zKT (C:Addr)(sp:Sp)(dvs:List V)(E:XK)(t:TA):TE:=fun σ H Q=>t σ H fun vs H1=>∀x dx,H1 x=none->H1 dx=none->dx≠x ->
 sp (.ref x::(vs++dvs)) (upd (upd H1 dx (.own x)) x (.ins C dx [])) (fun v H2=>v = .non/\Q (.ref x) H2) E
def Binds (K:PySem.W.Frag)(fd:FuncData)(ps:List Str)(ds:List Value):Prop :=
 ∀(s:Shared) (us:List Value),K.In s.heap->(us++ds).length=ps.length->BindsTo s fd ⟨us,[]⟩ (ps.zip (us++ds))
theorem Binds.all {K:PySem.W.Frag}{fd:FuncData}{ps:List Str}(h:∀us:List Value,us.length=ps.length->bindArgs fd ⟨us,[]⟩=pure (ps.zip us)):Binds K fd ps []:=fun s us _ hl=>by
 rw[Wh] at hl ⊢
 exact .of_eq (h us hl)
def lN (CX:CXT)(X:Cx)(E:XK):Prop:=∀(pins:List (Addr×Obj)) (σ:St) (H:Hp) (s:Shared) (e:Value) (s':Shared),Inv X pins σ H s->CX X.stack H s E e s'->X.xe e s'
section
variable {X:Cx} {CX:CXT} {k:Nat} {f C:Addr} {fd:FuncData} {ps:List Str} {sp:Sp} {dvs:List V} {ds:List Value} {E:XK} {x m:Str} {p pos apos:Pos} {e o:Expr} {es:List Expr} {ta:TE} {t:TA}
theorem zLz {pins:List (Addr×Obj)}{σ:St}{H:Hp}{s:Shared}{Q:VK}{us:List Value}{vs:List V}(F:FnOk X.prog X.w X.K X.mg X.base CX k f fd ps sp)(hr:Room k X.A)(hb:Binds X.K fd ps ds)(hd:Vals dvs ds)(hx:lN CX X E)
   (I:Inv X pins σ H s) (r:Vals vs us) (h:sp (vs++dvs) H Q E):wpAny (model X.prog X.w) X.A (call (.ref f) us) (EP X pins σ Q) X.xe s:=by
 have r2:Vals (vs++dvs) (us++ds):=r.append hd
 have hl:(us++ds).length=ps.length:=by rw[←r2.length];exact F.len _ _ _ _ h
 refine Ul (Yh (F.run X.A X.stack s H ⟨us,[]⟩ (us++ds) (vs++dvs) Q E hr I.env0 (hb s us I.kIn hl) r2 h) fun r s' hq=>?_)
 cases r with
 | error e=>exact hx pins σ H s e s' I hq
 | ok fl =>
   cases fl with
   | ret u=>exact I.after hq
   | next=>exact False.elim hq
   | brk=>exact False.elim hq
   | cont=>exact False.elim hq
theorem zZP (F:FnOk X.prog X.w X.K X.mg X.base CX k f fd ps sp)(hr:Room k X.A)(hg:Gl X x)(hm:X.mg x=some (.ref f))(hk:PySem.W.keepIn X.K (.ref f)=true)(hb:Binds X.K fd ps ds)(hd:Vals dvs ds)(hx:lN CX X E)
   (ha:PA X (e::es) t) (hdb:(x==("__debug__":Str))=false:=by decide) (he:starEach (e::es) X.env=(false,eval e X.env)::starEach es X.env:=by rfl) (hpl:(backTo pos (starEach es X.env)).any (·.1)=false:=by rfl) :
   PE X (.Call (.Name x p) (e::es) [] pos) (zKX sp dvs E t):=by
 intro pins s σ H Q I h
 refine Ra (iP I hg hm ?_ hdb)
 refine Yj (h₀:=X.base) I.ok.mod.kin hk (thn (ha pos pins s σ H _ I h) fun us s1 ⟨vs,H1,I1,r,q⟩=>⟨I1.kIn,?_⟩) he hpl
 exact zLz F hr hb hd hx I1 r q
structure Mk (K:PySem.W.Frag)(C f:Addr):Prop where
 makes:PySem.W.makesIn K C=true
 init:PySem.W.findIn K (.ref C) "__init__"=some (some (.ref f))
 fn:PySem.W.isFn K (.ref f)=true
 kp:PySem.W.keepIn K (.ref C)=true
theorem zOV {pins:List (Addr×Obj)}{σ:St}{H:Hp}{s:Shared}{Q:VK}{us:List Value}{vs:List V}(M:Mk X.K C f)(F:FnOk X.prog X.w X.K X.mg X.base CX k f fd ps sp)(hr:Room (k+1) X.A)(hb:Binds X.K fd ps ds)(hd:Vals dvs ds)
   (hx:lN CX X E) (I:Inv X pins σ H s) (r:Vals vs us)
   (h:∀x dx,H x=none->H dx=none->dx≠x->sp (.ref x::(vs++dvs)) (upd (upd H dx (.own x)) x (.ins C dx [])) (fun v H2=>v = .non/\Q (.ref x) H2) E) :
   wpAny (model X.prog X.w) X.A (call (.ref C) us) (EP X pins σ Q) X.xe s:=by
 have hq:=h (s.heap.objs.size+1) s.heap.objs.size (I.hok.fresh (Rm _)) (I.hok.fresh (Ql _)) (Wu (Iv _))
 have I2:=Inv.made (C:=C) I
 have r2:Vals (V.ref (s.heap.objs.size+1)::(vs++dvs)) (Value.ref (s.heap.objs.size+1)::(us++ds)):=.cons rfl (r.append hd)
 have hl:(Value.ref (s.heap.objs.size+1)::us++ds).length=ps.length:=by
   have e:=r2.length
   rw[F.len _ _ _ _ hq] at e
   exact e.symm
 refine Ul (zQd (f:=f) I.kIn M.makes M.init (Wm.mp M.fn) (Yh (F.run _ X.stack _ _ ⟨Value.ref (s.heap.objs.size+1)::us,[]⟩ (Value.ref (s.heap.objs.size+1)::(us++ds)) _ _ E (hr.make C us [])
   (I2.env0.make C us []) (hb _ (Value.ref (s.heap.objs.size+1)::us) I2.kIn hl) r2 hq) fun r s' hq'=>?_))
 cases r with
 | error e=>exact hx pins σ _ _ e s' I2 hq'
 | ok fl =>
   cases fl with
   | ret u =>
     obtain⟨v,H',I3,rv,ev,q3⟩:=I2.after hq'
     subst ev
     exact⟨rv,⟨V.ref (s.heap.objs.size+1),H',I3,rfl,q3⟩⟩
   | next=>exact False.elim hq'
   | brk=>exact False.elim hq'
   | cont=>exact False.elim hq'
theorem zNa (M:Mk X.K C f)(F:FnOk X.prog X.w X.K X.mg X.base CX k f fd ps sp)(hr:Room (k+1) X.A)(hg:Gl X x)(hm:X.mg x=some (.ref C))(hb:Binds X.K fd ps ds)(hd:Vals dvs ds)(hx:lN CX X E)
   (ha:PA X (e::es) t) (hdb:(x==("__debug__":Str))=false:=by decide) (he:starEach (e::es) X.env=(false,eval e X.env)::starEach es X.env:=by rfl) (hpl:(backTo pos (starEach es X.env)).any (·.1)=false:=by rfl) :
   PE X (.Call (.Name x p) (e::es) [] pos) (zKT C sp dvs E t):=by
 intro pins s σ H Q I h
 refine Ra (iP I hg hm ?_ hdb)
 refine Yj (h₀:=X.base) I.ok.mod.kin M.kp (thn (ha pos pins s σ H _ I h) fun us s1 ⟨vs,H1,I1,r,q⟩=>⟨I1.kIn,?_⟩) he hpl
 exact zOV M F hr hb hd hx I1 r q
end
section
variable {X:Cx} {CX:CXT} {k:Nat} {f C:Addr} {fd:FuncData} {ps ks:List Str} {sp:Sp} {E:XK} {x m:Str} {p pos apos kpos:Pos} {e o:Expr} {es:List Expr} {kws:List Keyword} {te ta:TE} {t tk:TA} {nm:Option Str}
structure KBinds (K:PySem.W.Frag)(fd:FuncData)(ps ks:List Str)(g:List Value->List Value->List Value)(gV:List V->List V->List V):Prop where
 to:∀(s:Shared) (us ws:List Value),K.In s.heap->(g us ws).length=ps.length->BindsTo s fd ⟨us,ks.zip ws⟩ (ps.zip (g us ws))
 rel:∀ {vs:List V} {us:List Value} {zs:List V} {ws:List Value},Vals vs us->Vals zs ws->Vals (gV vs zs) (g us ws)
variable {g:List Value->List Value->List Value} {gV:List V->List V->List V}
end
structure FnScope (N P:List Str)(sc:Scope):Prop where
 kind:sc.kind = .function
 co:sc.isCoroutine=false
 gen:sc.isGenerator=false
 nd:N.Nodup
 pre:N.take P.length=P
 par:∀x∈P,sc.names.lookup x=some .local∨sc.names.lookup x=some .cell
 nofree:∀y∈sc.names,y.2 ≠ .free
theorem zXf {kindOf:Str->Option NameKind}{x:Str}:∀ {binds:List (Str×Value)} {m:Str->Option Value},(∀v,(x,v)∉binds)->bindL kindOf binds m x=m x
 | [],_,_=>rfl
 | (n,v)::r,m,h=>by
   unfold bindL
   rw[zXf fun w hw=>h w (Qd _ hw)]
   split
   · have:x≠n:=by rintro rfl;exact h v Qf
     simp[this]
   · rfl
theorem zXH {kindOf:Str->Option NameKind}{x:Str}:∀ {binds:List (Str×Value)} {m:Str->Option Value},(∀v,(x,v)∉binds)->bindC kindOf binds m x=m x
 | [],_,_=>rfl
 | (n,v)::r,m,h=>by
   unfold bindC
   rw[zXH fun w hw=>h w (Qd _ hw)]
   split
   · rfl
   · have:x≠n:=by rintro rfl;exact h v Qf
     simp[this]
theorem zX0 {kindOf:Str->Option NameKind}{x:Str}{v:Value}:∀ {P:List Str} {vs:List Value} {i:Nat} {m:Str->Option Value},P.Nodup->P[i]?=some x->vs[i]?=some v->kindOf x=some .local ->
   bindL kindOf (P.zip vs) m x=some v
 | [],_,_,_,_,h,_,_=>by simp at h
 | _::_,[],_,_,_,_,h,_=>by simp at h
 | p::P,w::vs,0,m,nd,h1,h2,hk=>by
   simp at h1 h2;subst h1;subst h2
   show bindL kindOf ((p,w)::P.zip vs) m p=_
   unfold bindL
   rw[zXf fun v hv=>(Yi.mp nd).1 (Ow hv).1,Qn hk]
   simp
 | p::P,w::vs,i+1,m,nd,h1,h2,hk=>by
   show bindL kindOf ((p,w)::P.zip vs) m x=_
   unfold bindL
   exact zX0 (i:=i) (Yi.mp nd).2 (by simpa using h1) (by simpa using h2) hk
theorem zX9 {kindOf:Str->Option NameKind}{x:Str}{v:Value}:∀ {P:List Str} {vs:List Value} {i:Nat} {m:Str->Option Value},P.Nodup->P[i]?=some x->vs[i]?=some v->kindOf x≠some .local ->
   bindC kindOf (P.zip vs) m x=some v
 | [],_,_,_,_,h,_,_=>by simp at h
 | _::_,[],_,_,_,_,h,_=>by simp at h
 | p::P,w::vs,0,m,nd,h1,h2,hk=>by
   simp at h1 h2;subst h1;subst h2
   show bindC kindOf ((p,w)::P.zip vs) m p=_
   unfold bindC
   rw[zXH fun v hv=>(Yi.mp nd).1 (Ow hv).1,Wd hk]
   simp
 | p::P,w::vs,i+1,m,nd,h1,h2,hk=>by
   show bindC kindOf ((p,w)::P.zip vs) m x=_
   unfold bindC
   exact zX9 (i:=i) (Yi.mp nd).2 (by simpa using h1) (by simpa using h2) hk
def oE (N:List Str)(vs:List V):St:=vs.map some++List.replicate (N.length - vs.length) none
def kO (CX:CXT)(P:Program)(w:World)(K:PySem.W.Frag)(mg:Str->Option Value)(base:Heap)(N:List Str)(qual:Str)(scope:Scope)(f:Addr)(cd:Value)(A:Around)(outer:List Env)(s:Shared)(H:Hp)(E:XK):Cx where
 prog:=P
 w:=w
 K:=K
 mg:=mg
 base:=base
 A:=A.deeper (envOfC qual scope s.heap.objs.size f cd)
 N:=N
 s₀:=s
 H₀:=H
 env:=envOfC qual scope s.heap.objs.size f cd
 outer:=outer
 stack:=envOfC qual scope s.heap.objs.size f cd::outer
 ex:=[]
 calm:=true
 fn:=fun _=>true
 pn:=[]
 xe:=fun e s'=>wpAny (model P w) (A.deeper (envOfC qual scope s.heap.objs.size f cd)) (leaving (envOfC qual scope s.heap.objs.size f cd) e) (fun _ s''=>CX outer H s E e s'') (fun e' s''=>CX outer H s E e' s'') s'
theorem zUq {sc:Scope}{n:Nat}{x:Str}(h:sc.names.lookup x=some .cell):∃c,(cellsFrom n sc.names []).lookup x=some c:=by
 have q:=PySem.W.cellsFrom_some sc.names n [] (.inl h)
 exact Rw.mp q
theorem zRI {CX:CXT}{P:Program}{w:World}{K:PySem.W.Frag}{mg:Str->Option Value}{base:Heap}{N ps:List Str}{qual:Str}{scope:Scope}{f:Addr}{cd:Value}{A:Around}{outer:List Env}{s s1:Shared}{H:Hp}{E:XK}{us:List Value}{vs:List V}
   (S:FnScope N ps scope) (hd:A.handled=none) (e0:Env0 P w K mg base A outer s H) (hl:vs.length=ps.length) (r:Vals vs us)
   (x:InCallC s s.heap.objs.size (bindL (envOfC qual scope s.heap.objs.size f cd).kindOf (ps.zip us) fun _=>none) (cellsFrom (s.heap.objs.size+1) scope.names []) (bindC (envOfC qual scope s.heap.objs.size f cd).kindOf (ps.zip us) fun _=>none) s1) :
   Inv (kO CX P w K mg base N qual scope f cd A outer s H E) [] (oE N vs) H s1:=by
 have hpl:ps.length<=N.length:=by have:=Rp List.length S.pre;rw[Ib] at this;omega
 obtain⟨h1,tk,rfl,hk⟩:=x.done
 have noA:∀b:Addr,b∉(kO CX P w K mg base N qual scope f cd A outer s H E).ex:=fun b z=>absurd (show b∈([]:List Addr) from z) (by simp)
 refine⟨⟨e0.mod,S.kind,rfl,rfl,Ql _,fun y z c h1 h2=>?_,fun y hy=>?_,fun y c _ h=>?_,fun _=>hd,Around.frames_deeper e0.frames,.inr ⟨rfl,rfl⟩,fun b z=>absurd z (noA b),e0.bs,e0.bsz,fun b _ _=>noA b,fun b z=>absurd z (noA b),e0.funs,e0.frf⟩,
   rfl,e0.bare,Un.kept hk,⟨_,x.toInCall.ns,fun i y v h1 h2 h3=>?_⟩,fun y c h=>⟨_,x.cell y c h⟩,e0.hok.fresh (Ql _),fun y c h=>?_,fun p hp=>absurd (show p∈([]:List (Addr×Obj)) from hp) (by simp),e0.hok.kept hk,?_⟩
 · exact name_of_addr x.apart (Ez h1) (Ez h2)
 · have hy:scope.names.lookup y=some .cell∨scope.names.lookup y=some .free:=hy
   rcases hy with hy | hy
   · exact zUq hy
   · exact absurd rfl (S.nofree _ (Ez hy))
 · exact Wj (x.above y c (Ez h))
 · have hi:i < vs.length:=by
     unfold oE at h2
     by_cases hi:i < vs.length
     · exact hi
     · rw[Ep (by simpa using hi)] at h2
       rw[Re] at h2
       split at h2<;>cases h2
   have ha:vs[i]?=some v:=by
     unfold oE at h2
     rw[Ec (by simpa using hi),Wq] at h2
     cases e:vs[i]? with
     | none=>rw[e] at h2;cases h2
     | some a=>rw[e] at h2;cases h2;rfl
   obtain⟨u,hu,rv⟩:=r.get ha
   have hp:ps[i]?=some y:=by
     rw[←S.pre,List.getElem?_take_of_lt (by omega)];exact h1
   have ndP:ps.Nodup:=by rw[←S.pre];exact S.nd.sublist (List.take_sublist _ _)
   refine⟨u,rv,?_⟩
   rcases S.par y (To hp) with k | k
   · exact .inl ⟨k,zX0 ndP hp hu k⟩
   · obtain⟨c,e⟩:=zUq (n:=s.heap.objs.size+1) k
     refine .inr ⟨.inl k,c,e,?_⟩
     have q:=x.cell y c e
     rw[zX9 ndP hp hu (by show scope.names.lookup y≠_;rw[k];decide)] at q
     exact q
 · exact e0.hok.fresh (Wj (x.above y c (Ez h)))
 · unfold oE
   show _=N.length
   rw[Wr,Qo,Us]
   omega
theorem zML {CX:CXT}{P:Program}{w:World}{K:PySem.W.Frag}{mg:Str->Option Value}{base:Heap}{k:Nat}{f:Addr}{name qual:Str}{params:Arguments}{body:List Stmt}{scope:Scope}{dV kV doc pm cdv ct oc:Value}{an od:Option Addr}
   {osl:Array (Option Value)} {N ps:List Str} {sp:Sp} (lk:K.lookup f=some ⟨oc,od,.func (PySem.W.fnOf name qual params body scope dV kV doc pm an cdv ct),osl⟩) (hcd:PySem.W.codeIn K cdv qual=true) (S:FnScope N ps scope)
   (len:∀vs H Q E,sp vs H Q E->vs.length=ps.length)
   (hbody:∀(A:Around) (outer:List Env) (s:Shared) (H:Hp) (vs:List V) (Q:VK) (E:XK),Room k (A.deeper (envOfC qual scope s.heap.objs.size f cdv))->sp vs H Q E ->
     ∃t,PSs (kO CX P w K mg base N qual scope f cdv A outer s H E) body t/\t { nx:=fun _ H'=>Q .non H',rt:=Q } (oE N vs) H) :
   FnOk P w K mg base CX (k+1) f (PySem.W.fnOf name qual params body scope dV kV doc pm an cdv ct) ps sp:=by
 refine⟨len,fun A outer s H args us vs Q E hr e0 hb r hsp=>?_⟩
 have hl:=len _ _ _ _ hsp
 have KX:K.In s.heap:=e0.mod.kin.keeps fun b o e=>(e0.bs b o e).1
 have lim:s.heap.NoLimit:=e0.mod.nolimit.keeps fun b o e=>(e0.bs b o e).1
 have hkind:∀y∈ps.zip us,scope.names.lookup y.1=some .local∨(scope.names.lookup y.1=some .cell/\((cellsFrom (s.heap.objs.size+1) scope.names []).lookup y.1).isSome=true):=fun⟨n,v⟩ hy=>by
   rcases S.par n (Ow hy).1 with q | q
   · exact .inl q
   · exact .inr ⟨q,PySem.W.cellsFrom_some _ _ _ (.inl q)⟩
 refine codeAny_call_function hr.depth (KX _ _ lk) rfl S.co S.gen rfl (PySem.W.codeRec_of KX hcd) (hb _ _ _ _ ?_)
 refine wpAny_newFunctionEnv_cells S.kind hkind fun env he s1 x=>?_
 subst he
 refine⟨lim.keeps x.toInCall.keep,codeAny_func ?_⟩
 obtain⟨t,ht,hq⟩:=hbody A outer s H vs Q E (hr.deeper _) hsp
 have I:Inv (kO CX P w K mg base N qual scope f cdv A outer s H E) [] (oE N vs) H s1:=zRI S hr.hd e0 hl r x
 refine Rq (ht [] s1 (oE N vs) H _ I hq) (fun fl s' hs=>?_) fun e s' hs=>hs
 have fin:∀ {σ':St} {H':Hp} {v:V} {u:Value},Inv (kO CX P w K mg base N qual scope f cdv A outer s H E) [] σ' H' s'->RelV v u->Q v H'->CE outer P w H s Q u s' :=
   fun {σ' H' v u} J rv q=>⟨v,H',J.os,J.bare,J.base,J.hok,rv,q⟩
 cases fl with
 | ret u =>
   obtain⟨v,σ',H',J,rv,q⟩:=hs
   exact fin J rv q
 | next =>
   obtain⟨σ',H',J,q⟩:=hs
   exact fin (v:=V.non) (u:=Value.none) J rfl q
 | brk =>
   obtain⟨_,_,_,q⟩:=hs
   exact False.elim q
 | cont =>
   obtain⟨_,_,_,q⟩:=hs
   exact False.elim q
section
variable {X:Cx} {x:Str} {p pos:Pos} {e:Expr} {es:List Expr} {t:TA} {id T:String} {r:List V->Hp->VK->Prop}
def tCB (r:List V->Hp->VK->Prop)(t:TA):TE:=fun σ H Q=>t σ H fun vs H1=>r vs H1 Q
theorem sV (hc:CallR X (.builtin id) r)(hg:Gl X x)(hm:X.mg x=none)(hv:bootBuiltins x=some (.builtin id))(ha:PA X (e::es) t)(hn:x≠"__name__":=by decide)(hdb:(x==("__debug__":Str))=false:=by decide)
   (he:starEach (e::es) X.env=(false,eval e X.env)::starEach es X.env:=by rfl) (hpl:(backTo pos (starEach es X.env)).any (·.1)=false:=by rfl):PE X (.Call (.Name x p) (e::es) [] pos) (tCB r t):=by
 intro pins s σ H Q I h
 refine Ra (oO I hg hm hv ?_ hn hdb)
 exact PyProof.Rows.callWith_builtin1 (thn (ha pos pins s σ H _ I h) fun us s1 ⟨vs,H1,I1,r1,q1⟩=>hc pins s1 σ H1 vs us Q I1 r1 q1) he hpl
theorem qA (hc:CallR X (.type T) r)(hg:Gl X x)(hm:X.mg x=none)(hv:bootBuiltins x=some (.type T))(ha:PA X (e::es) t)(hn:x≠"__name__":=by decide)(hdb:(x==("__debug__":Str))=false:=by decide)
   (he:starEach (e::es) X.env=(false,eval e X.env)::starEach es X.env:=by rfl) (hpl:(backTo pos (starEach es X.env)).any (·.1)=false:=by rfl):PE X (.Call (.Name x p) (e::es) [] pos) (tCB r t):=by
 intro pins s σ H Q I h
 refine Ra (oO I hg hm hv ?_ hn hdb)
 exact Et (thn (ha pos pins s σ H _ I h) fun us s1 ⟨vs,H1,I1,r1,q1⟩=>hc pins s1 σ H1 vs us Q I1 r1 q1) he hpl
end
end L2
namespace HT
open PySem PyProof.Rows
section
open PySem.SeqAt
open PySem.AutoSeq1 (wpAny_loadPart')
open PySem.MeetsSeq PySem.MeetsSeq2 PySem.MeetsSeq3
end
section
variable {prog:Program} {w:World} {A:Around} {E:Value->Shared->Prop} {s:Shared}
def sIx (n d:Nat):Option Int->Nat
 | none=>d
 | some v=>if v < 0 then(v+(n:Int)).toNat else min v.toNat n
theorem sIx_none (n d:Nat):sIx n d none=d:=rfl
theorem sIx_nat (n d k:Nat):sIx n d (some (k:Int))=min k n:=by
 show(if (k:Int) < 0 then((k:Int)+(n:Int)).toNat else min (k:Int).toNat n)=min k n
 rw[Wd (by omega),Rt]
end
end HT
namespace L2
open PySem PySem.Spec PyProof.Rows
abbrev TO:=St->Hp->(Option Int->Hp->Prop)->Prop
def PO (X:Cx)(e:Option Expr)(t:TO):Prop :=
 ∀(pins:List (Addr×Obj)) (s:Shared) (σ:St) (H:Hp) (Q:Option Int->Hp->Prop),Inv X pins σ H s->t σ H Q ->
   wpAny (model X.prog X.w) X.A (evalPart e X.env) (fun u s'=>∃o H',Inv X pins σ H' s'/\IsPart u o/\Q o H') X.xe s
def zNJ:TO:=fun _ H Q=>Q none H
def zKP (t:TE):TO:=fun σ H Q=>t σ H fun x H1=>∃i,x = .int i/\Q (some i) H1
theorem zSQ {ns:List Int}:∀ {us:List Value},Vals (ns.map V.int) us->IntsAre us ns:=by
 induction ns with
 | nil=>intro us r;rw[Rs] at r;cases r;exact .nil
 | cons n ns ih =>
   intro us r
   rw[Qg] at r
   cases r with
   | cons r1 r2 =>
     obtain⟨t,e⟩:=r1
     subst e
     exact .cons n t (ih r2)
section
variable {X:Cx} {e:Expr} {te:TE} {lo hi:Option Expr} {tl th:TO} {pos p2:Pos}
theorem zOe:PO X none zNJ:=by
 intro pins s σ H Q I h
 rw[evalPart_none]
 exact Qi ⟨none,H,I,.none,h⟩
theorem zOz (h:PE X e te):PO X (some e) (zKP te):=by
 intro pins s σ H Q I hw
 rw[evalPart_some]
 refine thn (h pins s σ H _ I hw) fun u s1 ⟨x,H1,I1,r1,q1⟩=>?_
 obtain⟨i,rfl,q⟩:=q1
 obtain⟨t,rfl⟩:=r1
 exact⟨some i,H1,I1,.int i t,q⟩
def SlR (X:Cx)(r:V->Option Int->Option Int->Hp->VK->Prop):Prop :=
 ∀(pins:List (Addr×Obj)) (s:Shared) (σ:St) (H:Hp) (x:V) (v vl vu:Value) (lo hi:Option Int) (sl:Addr) (Q:VK),Inv X pins σ H s->RelV x v->s.heap.IsSliceOf sl vl vu .none->IsPart vl lo->IsPart vu hi->r x lo hi H Q ->
   ∃T id,typeLookup (.type T) "__getitem__"=pure (some (.builtin id))/\s.TypeIs v T/\wpAny (model X.prog X.w) X.A (getItem v (.ref sl)) (EP X pins σ Q) X.xe s
def tSl (r:V->Option Int->Option Int->Hp->VK->Prop)(te:TE)(tl th:TO):TE:=fun σ H Q=>te σ H fun x H1=>tl σ H1 fun l H2=>th σ H2 fun u H3=>r x l u H3 Q
theorem zOD {r:V->Option Int->Option Int->Hp->VK->Prop}(hr:SlR X r)(he:PE X e te)(hl:PO X lo tl)(hu:PO X hi th):PE X (.Subscript e (.Slice lo hi none p2) pos) (tSl r te tl th):=by
 intro pins s σ H Q I h
 refine Subscript_ (thn (he pins s σ H _ I h) fun v s1 ⟨x,H1,I1,r1,q1⟩=>?_)
 refine wpAny_Slice (thn (hl pins s1 σ H1 _ I1 q1) fun vl s2 ⟨l,H2,I2,pl,q2⟩=>thn (hu pins s2 σ H2 _ I2 q2) fun vu s3 ⟨u,H3,I3,pu,q3⟩=>?_)
 rw[evalPart_none]
 refine Qi ?_
 have I4:Inv X pins σ H3 { s3 with heap:=s3.heap.push { cls:=.type "slice",data:=.fields #[vl,vu,.none] } }:=I3.kept (t':=s3.toks) fun b ob q=>Qr _ q
 obtain⟨T,id,hT,ht,hg⟩:=hr pins { s3 with heap:=s3.heap.push { cls:=.type "slice",data:=.fields #[vl,vu,.none] } } σ H3 x v vl vu l u s3.heap.objs.size Q I4 r1 (Heap.IsSliceOf.new ..) pl pu q3
 show wpAny (model X.prog X.w) X.A (subscriptTail e (.Slice lo hi none p2) v (.ref s3.heap.objs.size)) (EP X pins σ Q) X.xe { s3 with heap:=s3.heap.push { cls:=.type "slice",data:=.fields #[vl,vu,.none] } }
 exact tail_any (ops:=[.ref s3.heap.objs.size,v]) ht hT hg (by with_unfolding_all rfl)
def zRE (xs:List V)(lo hi:Option Int):List V:=(xs.drop (HT.sIx xs.length 0 lo)).take (HT.sIx xs.length xs.length hi - HT.sIx xs.length 0 lo)
theorem zVh (xs:List V)(lo hi:Option Int):(zRE xs lo hi).length<=xs.length:=by
 unfold zRE
 rw[Ib,List.length_drop]
 omega
end
def ixN (n:Nat)(i:Int):Option Nat:=if 0<=i then(if i < n then some i.toNat else none) else if -(n:Int)<=i then some (i+n).toNat else none
def atI {α:Type}(xs:List α)(i:Int):Option α:=(ixN xs.length i).bind fun j=>xs[j]?
theorem zWF {n:Nat}{i:Int}{j:Nat}(h:ixN n i=some j):seqIndex? i n=some j/\j < n /\ -(n:Int)<=i/\i < n:=by
 unfold ixN at h
 by_cases h0:0<=i
 · rw[Qn h0] at h
   by_cases h1:i < n
   · rw[Qn h1] at h
     have e:i.toNat=j:=Wa h
     exact⟨by rw[seqIndex_of h0 h1,e],by omega,by omega,h1⟩
   · rw[Wd h1] at h;cases h
 · rw[Wd h0] at h
   by_cases h1 : -(n:Int)<=i
   · rw[Qn h1] at h
     have e:(i+n).toNat=j:=Wa h
     exact⟨by rw[seqIndex_neg (by omega) h1,e],by omega,h1,by omega⟩
   · rw[Wd h1] at h;cases h
theorem zVK {α:Type}{xs:List α}{i:Int}{v:α}(h:atI xs i=some v):∃j,seqIndex? i xs.length=some j/\xs[j]?=some v/\j < xs.length /\ -(xs.length:Int)<=i/\i < xs.length:=by
 unfold atI at h
 cases e:ixN xs.length i with
 | none=>rw[e] at h;cases h
 | some j =>
   rw[e] at h
   obtain⟨h1,h2,h3,h4⟩:=zWF e
   exact⟨j,h1,h,h2,h3,h4⟩
theorem zZL {α:Type}{xs:List α}{j:Nat}{v:α}(h:xs[j]?=some v):atI xs (j:Int)=some v:=by
 have hj:j < xs.length:=(Qk.mp h).1
 have e:ixN xs.length (j:Int)=some j:=by
   unfold ixN
   rw[Qn (by omega),Qn (by omega)];simp
 unfold atI;rw[e];exact h
def zZO (b:Expr):Prop:=∀o i,subscripted b false o i=operate [o,i] (getItem o i)
def IxR (X:Cx)(r:R2):Prop :=
 ∀(value slice:Expr) (pins:List (Addr×Obj)) (s:Shared) (σ:St) (H:Hp) (x y:V) (v u:Value) (Q:VK),Inv X pins σ H s->RelV x v->RelV y u->r x y H Q ->
   subscripted slice false v u=operate [v,u] (getItem v u)->wpAny (model X.prog X.w) X.A (subscriptTail value slice v u) (EP X pins σ Q) X.xe s
def MtR (X:Cx)(id:String)(r:V->List V->Hp->VK->Prop):Prop :=
 ∀(pins:List (Addr×Obj)) (s:Shared) (σ:St) (H:Hp) (x:V) (xs:List V) (v:Value) (us:List Value) (Q:VK),Inv X pins σ H s->RelV x v->Vals xs us->r x xs H Q ->
   wpAny (model X.prog X.w) X.A (call (.builtin id) (v::us)) (EP X pins σ Q) X.xe s
section
variable {X:Cx} {a b:Expr} {ta tb:TE} {pos:Pos}
theorem IxR.or {r r':R2}(h:IxR X r)(h':IxR X r'):IxR X (fun x y H Q=>r x y H Q∨r' x y H Q):=by
 intro value slice pins s σ H x y v u Q I rx ry q hs
 rcases q with q | q
 · exact h value slice pins s σ H x y v u Q I rx ry q hs
 · exact h' value slice pins s σ H x y v u Q I rx ry q hs
theorem zP9 {r:R2}(hr:IxR X r)(ha:PE X a ta)(hb:PE X b tb)(hs:zZO b):PE X (.Subscript a b pos) (tOp r ta tb):=by
 intro pins s σ H Q I h
 exact Subscript_ (zL7 ha hb I h fun v u s2 x y H2 I2 rx ry q=>hr a b pins s2 σ H2 x y v u Q I2 rx ry q (hs _ _))
def zKx (K:PySem.W.Frag):R2:=fun x y H Q=>∃p xs i v,x = .ref p/\y = .int i/\SqL K H p xs/\atI xs i=some v/\Q v H
def zKw (K:PySem.W.Frag):R2:=fun x y H Q=>∃p xs i v,x = .ref p/\y = .int i/\SqT K H p xs/\atI xs i=some v/\Q v H
def zKS:R2:=fun x y H Q=>∃z i c,x = .str z/\y = .int i/\z.length<=sizeLine/\atI z.cps.toList i=some c/\Q (.str ⟨#[c]⟩) H
theorem zS9:IxR X (zKx X.K):=by
 intro value slice pins s σ H x y v u Q I rx ry h hs
 obtain⟨p,xs,i,z,rfl,rfl,hq,he,q⟩:=h
 cases rx
 obtain⟨t,rfl⟩:=ry
 obtain⟨its,r,pl,hz⟩:=I.list hq
 obtain⟨j,h1,h2,h3,h4,h5⟩:=zVK he
 obtain⟨w,ew,rw'⟩:=r.get h2
 have hl:=r.length
 have hn:=bQ
 have fin:EP X pins σ Q w s:=⟨z,H,I,rw',q⟩
 by_cases h0:0<=i
 · have hj:i.toNat=j:=by
     rw[seqIndex_of h0 h5] at h1
     exact Wa h1
   exact item_listR pl.isList h0 (by omega) (by rw[hj];simpa using ew) fin hs
 · have hj:(i+(its.toArray.size:Int)).toNat=j:=by
     rw[seqIndex_neg (by omega) h4] at h1
     rw[Qs,←hl]
     exact Wa h1
   exact subscriptTail_builtinR (x:=w) pl.isList.typeIs slot_list_getitem.lookup
     (wpAny_getItem_list_neg (Q:=fun r s'=>r=w/\EP X pins σ Q r s') pl.isList (by omega) (by rw[Qs]<;>omega) (by omega) (by rw[hj];simpa using ew) ⟨rfl,fin⟩) hs
theorem zLK:IxR X (zKw X.K):=by
 intro value slice pins s σ H x y v u Q I rx ry h hs
 obtain⟨p,xs,i,z,rfl,rfl,hq,he,q⟩:=h
 cases rx
 obtain⟨t,rfl⟩:=ry
 obtain⟨its,r,pl,hz⟩:=I.tuple hq
 obtain⟨j,h1,h2,h3,h4,h5⟩:=zVK he
 obtain⟨w,ew,rw'⟩:=r.get h2
 have hl:=r.length
 have hn:=bQ
 have fin:EP X pins σ Q w s:=⟨z,H,I,rw',q⟩
 exact subscriptTail_builtinR (x:=w) pl.typeIs slot_tuple_getitem.lookup
   (getItem_tuple (j:=j) (Q:=fun r s'=>r=w/\EP X pins σ Q r s') pl (by omega) (by omega) (by rw[Qs,←hl];exact h1) (by simpa using ew) ⟨rfl,fin⟩) hs
theorem zLP:IxR X zKS:=by
 intro value slice pins s σ H x y v u Q I rx ry h hs
 obtain⟨z,i,c,rfl,rfl,hz,he,q⟩:=h
 obtain⟨t,rfl⟩:=rx
 obtain⟨t',rfl⟩:=ry
 obtain⟨j,h1,h2,h3,h4,h5⟩:=zVK he
 have hl:z.cps.toList.length=z.length:=by simp[Str.length]
 rw[hl] at h1 h4 h5
 have hn:=bQ
 exact tail_any (Uz s z t) slot_str_getitem.lookup (getItem_str (c:=c) (by
   have e1:decide (i < -(2^63:Int))=false:=Qv (by omega)
   have e2:decide (i≥2^63)=false:=Qv (by omega)
   rw[e1,e2,Bool.or_false]) (by rw[h1];simpa using h2) ⟨.str ⟨#[c]⟩,H,I.tok _,⟨_,rfl⟩,q⟩) hs
def rIx (K:PySem.W.Frag):R2:=fun x y H Q=>zKx K x y H Q∨zKw K x y H Q∨zKS x y H Q
theorem zMb:IxR X (rIx X.K):=zS9.or (zLK.or zLP)
theorem zTV (its:List Value)(n j:Nat)(u:Value):Obj.mapSeq (·.setIfInBounds j u) { cls:=.type "list",data:=.seq its.toArray n }={ cls:=.type "list",data:=.seq (its.set j u).toArray n }:=by
 simp[Obj.mapSeq]
theorem Inv.lst {pins:List (Addr×Obj)}{σ:St}{H:Hp}{s:Shared}{p:Addr}{xs:List V}(I:Inv X pins σ H s)(h:H p=some (.lst xs)) :
   ∃(its:List Value) (n:Nat),Vals xs its/\s.heap.get? p=some { cls:=.type "list",data:=.seq its.toArray n }/\xs.length<=sizeLine:=by
 obtain⟨z,its,n,r,e⟩:=I.hok p _ h
 exact⟨its,n,r,e,z⟩
theorem Inv.lstUpd {pins:List (Addr×Obj)}{σ:St}{H:Hp}{s:Shared}{p:Addr}{xs ys:List V}{its its':List Value}{n n':Nat}{f:Obj->Obj}(I:Inv X pins σ H s)(h:H p=some (.lst xs))
   (ho:s.heap.get? p=some { cls:=.type "list",data:=.seq its.toArray n }) (hf:f { cls:=.type "list",data:=.seq its.toArray n }={ cls:=.type "list",data:=.seq its'.toArray n' }) (r:Vals ys its') (hz:ys.length<=sizeLine) (t:Nat) :
   Inv X pins σ (upd H p (.lst ys)) { s with heap:=s.heap.update p f,toks:=t }:=by
 have e:(s.heap.update p f).get? p=some { cls:=.type "list",data:=.seq its'.toArray n' }:=by
   rw[Wk f ho (by rw[hf]<;>rfl),hf]
 refine I.write (x:=p) (e:=p) (by rw[h];trivial) (.inl rfl) (fun b u hb q=>(Wz _ _ (Ne.symm hb)).trans q) ⟨_,e⟩ ?_
 exact⟨hz,its',n',r,e⟩
def zKr:V->V->V->Hp->(Hp->Prop)->Prop:=fun o i v H Q=>∃p xs k j,o = .ref p/\i = .int k/\H p=some (.lst xs)/\ixN xs.length k=some j/\Q (upd H p (.lst (xs.set j v)))
theorem zQ1:zLU X zKr:=by
 intro pins s σ H o i v ov iv u Q I ro ri rv h
 obtain⟨p,xs,k,j,rfl,rfl,hp,hj,q⟩:=h
 cases ro
 obtain⟨t,rfl⟩:=ri
 obtain⟨its,n,r,ho,hz⟩:=I.lst hp
 obtain⟨h1,h2,h3,h4⟩:=zWF hj
 have hl:=r.length
 have hn:=bQ
 have I':Inv X pins σ (upd H p (.lst (xs.set j v))) { s with heap:=s.heap.update p (Obj.mapSeq (·.setIfInBounds j u)) } :=
   I.lstUpd hp ho (zTV its n j u) (r.set rv j) (by rw[Tq];exact hz) s.toks
 by_cases h0:0<=k
 · have hk:k.toNat=j:=by
     rw[seqIndex_of h0 h4] at h1
     exact Wa h1
   exact PySem.W.ki_setAt ho h0 (by omega) (by rw[Qs,←hl];exact h4) (by rw[hk];exact⟨_,I',q⟩)
 · have hk:(k+(its.toArray.size:Int)).toNat=j:=by
     rw[seqIndex_neg (by omega) h3] at h1
     rw[Qs,←hl]
     exact Wa h1
   exact PySem.W.ki_setBack ho (by omega) (by rw[Qs,←hl];exact h3) (by omega) (by rw[hk];exact⟨_,I',q⟩)
theorem zW3 (lo hi:Option Int)(n:Nat):(sliceBounds lo hi none n).1=((HT.sIx n 0 lo:Nat):Int)/\(sliceBounds lo hi none n).2.1=((HT.sIx n n hi:Nat):Int)/\(sliceBounds lo hi none n).2.2=1:=by
 refine⟨?_,?_,rfl⟩
 · cases lo with
   | none=>simp[sliceBounds,HT.sIx]
   | some i =>
     simp only[sliceBounds,HT.sIx,Option.getD_none,show(1:Int) > 0 by decide,Ri]
     by_cases h:i < 0
     · simp only[h,Ri]<;>omega
     · simp only[h,Rf]<;>omega
 · cases hi with
   | none=>simp[sliceBounds,HT.sIx]
   | some i =>
     simp only[sliceBounds,HT.sIx,Option.getD_none,show(1:Int) > 0 by decide,Ri]
     by_cases h:i < 0
     · simp only[h,Ri]<;>omega
     · simp only[h,Rf]<;>omega
theorem zXL (its:List Value)(lo hi:Option Int):slicePick its.toArray lo hi none=((its.drop (HT.sIx its.length 0 lo)).take (HT.sIx its.length its.length hi - HT.sIx its.length 0 lo)).toArray:=by
 obtain⟨h1,h2,h3⟩:=zW3 lo hi its.toArray.size
 unfold slicePick
 rw[h1,h2,h3]
 simp only[sliceRange_one,pick_run,Qs]<;>rfl
def zKg (K:PySem.W.Frag):V->Option Int->Option Int->Hp->VK->Prop:=fun x lo hi H Q=>∃a xs,x = .ref a/\SqL K H a xs/\∀p,H p=none->Q (.ref p) (upd H p (.lst (zRE xs lo hi)))
theorem zNx:SlR X (zKg X.K):=by
 intro pins s σ H x v vl vu lo hi sl Q I rx hs pl pu h
 obtain⟨a,xs,rfl,hx,q⟩:=h
 cases rx
 obtain⟨its,r,ht,hz⟩:=I.list hx
 have hlen:=r.length
 refine⟨"list",_,slot_list_getitem.lookup,ht.isList.typeIs,?_⟩
 refine wpAny_getItem_list_slice ht.isList hs pl pu .none (by simp) ?_ (by rw[Qs]<;>omega)
 rw[zXL,←hlen]
 refine⟨.ref s.heap.objs.size,_,I.laid (t':=s.toks) (o:=.lst (zRE xs lo hi)) (fun b ob q=>Qr _ q) (Ql _) ?_,rfl,q _ (I.hok.fresh (Ql _))⟩
 exact⟨Eu (zVh xs lo hi) hz,_,0,(r.drop (HT.sIx xs.length 0 lo)).take (HT.sIx xs.length xs.length hi - HT.sIx xs.length 0 lo),Qa _ rfl⟩
def kT:V->Bool
 | .non=>true
 | .bl _=>true
 | .int _=>true
 | .str _=>true
 | _=>false
def eqV:V->V->Bool
 | .non,.non=>true
 | .bl a,.bl b=>a==b
 | .bl a,.int b=>(if a then 1 else 0)==b
 | .int a,.bl b=>a==(if b then 1 else 0)
 | .int a,.int b=>a==b
 | .str a,.str b=>a==b
 | _,_=>false
theorem zMd {A:Around}{s:Shared}{y x:V}{u v:Value}(ry:RelV y u)(rx:RelV x v)(fy:kT y=true)(fx:kT x=true):SeqAt.EqAt A s u v (eqV y x):=by
 cases y with
 | non =>
   cases ry
   cases x with
   | non=>cases rx;exact Yo _
   | bl b=>cases rx;exact SeqAt.EqAt.none_bool b
   | int b=>obtain⟨t,rfl⟩:=rx;exact SeqAt.EqAt.none_int b t
   | str b=>obtain⟨t,rfl⟩:=rx;exact SeqAt.EqAt.none_str b t
   | _=>exact absurd (show false=true from fx) Qb
 | bl a =>
   cases ry
   cases x with
   | non=>cases rx;exact SeqAt.EqAt.bool_none a
   | bl b=>cases rx;exact Uc a b
   | int b=>obtain⟨t,rfl⟩:=rx;exact SeqAt.EqAt.bool_int a b t
   | str b=>obtain⟨t,rfl⟩:=rx;exact SeqAt.EqAt.bool_str a b t
   | _=>exact absurd (show false=true from fx) Qb
 | int a =>
   obtain⟨t',rfl⟩:=ry
   cases x with
   | non=>cases rx;exact SeqAt.EqAt.int_none a t'
   | bl b=>cases rx;exact SeqAt.EqAt.int_bool a t' b
   | int b=>obtain⟨t,rfl⟩:=rx;exact Iy a t' b t
   | str b=>obtain⟨t,rfl⟩:=rx;exact SeqAt.EqAt.int_str a t' b t
   | _=>exact absurd (show false=true from fx) Qb
 | str a =>
   obtain⟨t',rfl⟩:=ry
   cases x with
   | non=>cases rx;exact SeqAt.EqAt.str_none a t'
   | bl b=>cases rx;exact SeqAt.EqAt.str_bool a t' b
   | int b=>obtain⟨t,rfl⟩:=rx;exact SeqAt.EqAt.str_int a t' b t
   | str b=>obtain⟨t,rfl⟩:=rx;exact SeqAt.EqAt.str_str a t' b t
   | _=>exact absurd (show false=true from fx) Qb
 | _=>exact absurd (show false=true from fy) Qb
def eqU (x:V)(u:Value):Bool:=match u with
 | .none=>eqV .non x
 | .bool b=>eqV (.bl b) x
 | .int i _=>eqV (.int i) x
 | .str z _=>eqV (.str z) x
 | _=>false
theorem zOO {x y:V}{u:Value}(r:RelV y u)(f:kT y=true):eqU x u=eqV y x:=by
 cases y with
 | non=>cases r;rfl
 | bl b=>cases r;rfl
 | int i=>obtain⟨t,rfl⟩:=r;rfl
 | str z=>obtain⟨t,rfl⟩:=r;rfl
 | _=>exact absurd (show false=true from f) Qb
theorem zVM {x:V}:∀ {xs:List V} {us:List Value},Vals xs us->xs.all kT=true->us.any (eqU x)=xs.any fun y=>eqV y x
 | _,_,.nil,_=>rfl
 | y::xs,u::us,.cons r t,f=>by
   rw[Uq,Qx] at f
   rw[List.any_cons,List.any_cons,zOO r f.1,zVM t f.2]
theorem zYO {A:Around}{s:Shared}{x:V}{v:Value}(rx:RelV x v)(fx:kT x=true):∀ {xs:List V} {us:List Value},Vals xs us->xs.all kT=true->∀u∈us,SeqAt.EqAt A s u v (eqU x u)
 | _,_,.nil,_=>fun u hu=>by cases hu
 | y::xs,u::us,.cons r t,f=>fun u' hu=>by
   rw[Uq,Qx] at f
   rcases Qj.mp hu with rfl | hu
   · rw[zOO r f.1];exact zMd r rx f.1 fx
   · exact zYO rx fx t f.2 u' hu
def inV (x:V)(xs:List V):Bool:=xs.any fun y=>eqV y x
def rIn (K:PySem.W.Frag)(neg:Bool):R2:=fun x y H Q=>∃p xs,y = .ref p/\(SqL K H p xs∨SqT K H p xs)/\kT x=true/\xs.all kT=true/\Q (.bl (if neg then !inV x xs else inV x xs)) H
theorem zR4:OpR X (compareOp .In) (rIn X.K false):=by
 intro pins s σ H x y v u Q I rx ry h
 obtain⟨p,xs,rfl,hq,fx,fs,q⟩:=h
 cases ry
 rcases hq with hq | hq
 · obtain⟨its,r,pl,hz⟩:=I.list hq
   refine SeqAt.in_listAt (eqU x) pl.isList (fun w hw=>zYO rx fx r fs w (by simpa using hw)) ⟨.bl _,H,I,rfl,?_⟩
   rw[show its.toArray.any (eqU x)=its.any (eqU x) by simp,zVM r fs]
   exact q
 · obtain⟨its,r,pl,hz⟩:=I.tuple hq
   refine SeqAt.in_tupleAt (eqU x) pl (fun w hw=>zYO rx fx r fs w (by simpa using hw)) ⟨.bl _,H,I,rfl,?_⟩
   rw[show its.toArray.any (eqU x)=its.any (eqU x) by simp,zVM r fs]
   exact q
theorem cY:CallR X (.builtin "len") (fun xs H Q=>∃p ys,xs=[.ref p]/\(SqL X.K H p ys∨SqT X.K H p ys)/\Q (.int ys.length) H):=by
 intro pins s σ H xs us Q I r h
 obtain⟨p,ys,rfl,hq,q⟩:=h
 obtain⟨u,rfl,rx⟩:=pI r
 cases rx
 have hn:=bQ
 rcases hq with hq | hq
 · obtain⟨its,r',pl,hz⟩:=I.list hq
   have hlen:=r'.length
   exact Calls.call_len_list pl.isList (by simp only[Qs]<;>omega) ⟨.int ys.length,H,I.tok _,⟨s.toks+1,by rw[Qs,hlen]⟩,q⟩
 · obtain⟨its,r',pl,hz⟩:=I.tuple hq
   have hlen:=r'.length
   exact len_tuple pl (by simp only[Qs]<;>omega) ⟨.int ys.length,H,I.tok _,⟨s.toks+1,by rw[Qs,hlen]⟩,q⟩
theorem zWH:CallR X (.builtin "len") (fun xs H Q=>∃z,xs=[.str z]/\z.length<=sizeLine/\Q (.int z.length) H):=by
 intro pins s σ H xs us Q I r h
 obtain⟨z,rfl,hz,q⟩:=h
 obtain⟨u,rfl,t,rfl⟩:=pI r
 have hn:=bQ
 exact len_str (by omega) ⟨.int z.length,H,I.tok _,⟨_,rfl⟩,q⟩
theorem CallR.or {f:Value}{r r':List V->Hp->VK->Prop}(h:CallR X f r)(h':CallR X f r'):CallR X f (fun xs H Q=>r xs H Q∨r' xs H Q):=by
 intro pins s σ H xs us Q I rs q
 rcases q with q | q
 · exact h pins s σ H xs us Q I rs q
 · exact h' pins s σ H xs us Q I rs q
theorem zVP:CallR X (.type "list") (fun xs H Q=>∃p ys,xs=[.ref p]/\(SqL X.K H p ys∨SqT X.K H p ys)/\∀l,H l=none->Q (.ref l) (upd H l (.lst ys))):=by
 intro pins s σ H xs us Q I r h
 obtain⟨p,ys,rfl,hq,q⟩:=h
 obtain⟨u,rfl,rx⟩:=pI r
 cases rx
 have fin:∀(its:List Value),Vals ys its->ys.length<=sizeLine->∀(h':Heap) (c':Nat),(∀b o',s.heap.get? b=some o'->h'.get? b=some o') ->
     h'.get? s.heap.objs.size=some { cls:=.type "list",dict:=none,data:=.seq its.toArray c',slots:=#[] }->EP X pins σ Q (.ref s.heap.objs.size) { s with heap:=h' }:=fun its r' hz h' c' kp e =>
   ⟨.ref s.heap.objs.size,_,I.laid (t':=s.toks) kp (Ql _) (show ObjOk X.prog X.w _ h' _ (.lst ys) from⟨hz,its,c',r',e⟩),rfl,q _ (I.hok.fresh (Ql _))⟩
 rcases hq with hq | hq
 · obtain⟨its,r',pl,hz⟩:=I.list hq
   have hlen:=r'.length
   obtain⟨o,ho,hc,n,hd⟩:=pl.isList
   exact call_list_seq p (.inl rfl) ho hc hd (fun h' c' kp e=>fin its r' hz h' c' kp e) (by simp only[Qs]<;>omega)
 · obtain⟨its,r',pl,hz⟩:=I.tuple hq
   have hlen:=r'.length
   obtain⟨o,ho,hc,n,hd⟩:=pl
   exact call_list_seq p (.inr rfl) ho hc hd (fun h' c' kp e=>fin its r' hz h' c' kp e) (by simp only[Qs]<;>omega)
theorem zXX:CallR X (.type "tuple") (fun xs H Q=>∃p ys,xs=[.ref p]/\((SqL X.K H p ys/\∀l,H l=none->Q (.ref l) (upd H l (.tup ys)))∨(SqT X.K H p ys/\Q (.ref p) H))):=by
 intro pins s σ H xs us Q I r h
 obtain⟨p,ys,rfl,h⟩:=h
 obtain⟨u,rfl,rx⟩:=pI r
 cases rx
 rcases h with⟨hq,q⟩ | ⟨hq,q⟩
 · obtain⟨its,r',pl,hz⟩:=I.list hq
   have hlen:=r'.length
   refine call_tuple_list pl.isList (fun h' kp=>?_) (by simp only[Qs]<;>omega)
   have I1:Inv X pins σ H { s with heap:=h' }:=I.kept (t':=s.toks) kp
   have I2:Inv X pins σ (upd H h'.objs.size (.tup ys)) { s with heap:=h'.push { cls:=.type "tuple",data:=.seq its.toArray } } :=
     I1.laid (t':=s.toks) (fun b o e=>Qr _ e) (Ql _) (show ObjOk X.prog X.w _ _ _ (.tup ys) from⟨hz,its,r',IsTup.new _ _⟩)
   exact⟨.ref h'.objs.size,_,I2,rfl,q _ (I1.hok.fresh (Ql _))⟩
 · obtain⟨its,r',pl,hz⟩:=I.tuple hq
   exact call_tuple_same pl ⟨.ref p,H,I,rfl,q⟩
def tyV (K:PySem.W.Frag)(T:String)(x:V)(H:Hp):Prop:=match x with
 | .str _=>T="str"
 | .int _=>T="int"
 | .ref p=>(T="list"/\∃xs,SqL K H p xs)∨(T="tuple"/\∃o,K.lookup p=some o/\o.cls = .type "tuple"/\o.dict=none) ∨
     (T="dict"/\((∃kvs,H p=some (.dK kvs))∨∃kvs,H p=some (.dT kvs)))∨(T="set"/\∃S n,H p=some (.set S n))
 | _=>False
theorem zL2 {pins:List (Addr×Obj)}{σ:St}{H:Hp}{s:Shared}{T:String}{x:V}{v:Value}(I:Inv X pins σ H s)(r:RelV x v)(ty:tyV X.K T x H) :
   s.TypeIs v T/\∀a,v = .ref a->∃ob,s.heap.get? a=some ob/\ob.dict=none:=by
 cases x with
 | str z =>
   obtain⟨t,rfl⟩:=r
   cases (show T="str" from ty)
   exact⟨Uz s z t,fun _ e=>nomatch e⟩
 | int i =>
   obtain⟨t,rfl⟩:=r
   cases (show T="int" from ty)
   exact⟨typeIs_int s i t,fun _ e=>nomatch e⟩
 | ref p =>
   cases r
   rcases ty with⟨rfl,xs,hq⟩ | ⟨rfl,o,hk,hc,hd⟩ | ⟨rfl,hk⟩ | ⟨rfl,S,n,hk⟩
   · obtain⟨its,_,pl,_⟩:=I.list hq
     refine⟨pl.isList.typeIs,fun a e=>?_⟩
     cases e
     obtain⟨o,n,e,c,hd,_⟩:=pl
     exact⟨o,e,hd⟩
   · refine⟨⟨o,I.kIn p o hk,hc⟩,fun a e=>?_⟩
     cases e
     exact⟨o,I.kIn _ o hk,hd⟩
   · have z:∃o,s.heap.get? p=some o/\o.ExactDict:=by
       rcases hk with⟨kvs,hk⟩ | ⟨kvs,hk⟩
       · obtain⟨_,_,_,_,o,_,_,e,ex,_⟩:=I.hok p _ hk
         exact⟨o,e,ex⟩
       · obtain⟨_,_,_,_,o,_,_,e,ex,_⟩:=I.hok p _ hk
         exact⟨o,e,ex⟩
     obtain⟨o,e,ex⟩:=z
     refine⟨⟨o,e,ex.1⟩,fun a e2=>?_⟩
     cases e2
     exact⟨o,e,ex.2.1⟩
   · obtain⟨o,_,_,_,e,ex,_⟩:=I.hok p _ hk
     refine⟨⟨o,e,ex.1⟩,fun a e2=>?_⟩
     cases e2
     exact⟨o,e,ex.2.1⟩
 | _=>exact False.elim ty
def tBM (K:PySem.W.Frag)(T:String)(r:V->List V->Hp->VK->Prop)(to:TE)(t:TA):TE:=fun σ H Q=>to σ H fun x H1=>tyV K T x H1/\t σ H1 fun xs H2=>r x xs H2 Q
variable {o e:Expr} {es:List Expr} {to:TE} {t:TA} {name:Str} {apos cpos:Pos} {T id:String} {r:V->List V->Hp->VK->Prop}
theorem sC (pa:PlainAttrs T)(slot:Slot T name id)(hty:typeOf (.builtin id)=pure (.type "method_descriptor"))(hm:MtR X id r)(ho:PE X o to)(ha:PA X (e::es) t)
   (hbase:attributeBase o name X.env (eval o X.env)=eval o X.env:=by rfl)
   (hfew:((backTo cpos (starEach (e::es) X.env)).all (fun x => !x.1)&&(backToKw cpos (keywordEach [] X.env)).all (fun x=>x.1.isSome)
     && decide ((e::es).length+([]:List Keyword).length+(if ([]:List Keyword).isEmpty then 0 else 1) < 30))=true:=by rfl)
   (hline:(apos.endLine==cpos.line)=true:=by rfl) (hs:starEach (e::es) X.env=(false,eval e X.env)::starEach es X.env:=by rfl) (hplain:(backTo cpos (starEach es X.env)).any (·.1)=false:=by rfl) :
   PE X (.Call (.Attribute o name apos) (e::es) [] cpos) (tBM X.K T r to t):=by
 intro pins s σ H Q I h
 refine wpAny_Call_method_late hbase hfew hline rfl (thn (ho pins s σ H _ I h) fun v s1 ⟨x,H1,I1,r1,ty,q1⟩=>?_)
 obtain⟨h1,h2⟩:=zL2 I1 r1 ty
 refine⟨T,id,pa,slot,hty,h1,h2,?_⟩
 have hA:=ha cpos pins s1 σ H1 _ I1 q1
 rw[hs] at hA ⊢
 refine Calls.callWith_builtin (by show(false||(backTo cpos (starEach es X.env)).any (·.1))=false;rw[hplain]<;>rfl) (Calls.evalArgs_plain ?_)
 exact thn hA fun us s2 ⟨vs,H2,I2,r2,q2⟩=>hm pins s2 σ H2 x vs v us Q I2 r1 r2 q2
end
def MtM (X:Cx)(id:String)(r:V->List V->Hp->VK->Prop):Prop :=
 ∀(pins:List (Addr×Obj)) (s:Shared) (σ:St) (H:Hp) (x:V) (xs:List V) (v:Value) (us:List Value) (Q:VK),Inv X pins σ H s->RelV x v->Vals xs us->r x xs H Q ->
   wpAny (model X.prog X.w) X.A (call (.builtin id) (v::us)) (EP X pins σ Q) X.xe s
theorem Vals.one:∀ {x:V} {us:List Value},Vals [x] us->∃u,us=[u]/\RelV x u
 | _,_,.cons r .nil=>⟨_,rfl,r⟩
theorem Vals.eraseIdx:∀ {xs:List V} {us:List Value} (i:Nat),Vals xs us->Vals (xs.eraseIdx i) (us.eraseIdx i)
 | _,_,_,.nil=>.nil
 | _,_,0,.cons _ t=>t
 | _,_,i+1,.cons r t=>.cons r (Vals.eraseIdx i t)
theorem Vals.reverse {xs:List V}{us:List Value}(h:Vals xs us):Vals xs.reverse us.reverse:=by
 induction h with
 | nil=>exact .nil
 | cons r t ih=>rw[Yv,Yv];exact Vals.append ih (.cons r .nil)
theorem Vals.rep {xs:List V}{us:List Value}(h:Vals xs us):∀k:Nat,Vals (List.replicate k xs).flatten (List.replicate k us).flatten
 | 0=>.nil
 | k+1=>by
   rw[Wl,Wl,Ti,Ti]
   exact Vals.append h (Vals.rep h k)
theorem zXn {α:Type}:∀(l:List α) (i:Nat),(l.eraseIdx i).length<=l.length
 | [],_=>Ql _
 | _::_,0=>Rm _
 | _::r,i+1=>Nat.succ_le_succ (zXn r i)
theorem zWS (its:List Value):∀(k:Nat) (acc:List Value),
   List.foldl (fun x1 x2=>x1++x2) acc.toArray (List.replicate k its.toArray)=(acc++(List.replicate k its).flatten).toArray
 | 0,acc=>by simp
 | k+1,acc=>by
   have e:acc.toArray++its.toArray=(acc++its).toArray:=by simp
   have e2:(acc++its)++(List.replicate k its).flatten=acc++(List.replicate (k+1) its).flatten:=by
     rw[Wl,Ti,Yq]
   rw[←e2,←zWS its k (acc++its),←e,Wl,List.foldl_cons]
section
variable {X:Cx} {pins:List (Addr×Obj)} {σ:St} {H:Hp} {s:Shared} {l b:Addr} {xs ys zs:List V}
theorem Inv.lset {its its':List Value}{n:Nat}{f:Array Value->Array Value}{t':Nat}(I:Inv X pins σ H s)(hH:H l=some (.lst xs))
   (e:s.heap.get? l=some { cls:=.type "list",data:=.seq its.toArray n }) (hf:f its.toArray=its'.toArray) (hv:Vals ys its') (hz:ys.length<=sizeLine) :
   Inv X pins σ (upd H l (.lst ys)) { s with heap:=s.heap.update l (Obj.mapSeq f),toks:=t' }:=by
 have q:=PySem.IsL.update e f
 rw[hf] at q
 refine I.write (x:=l) (e:=l) (by rw[hH];exact trivial) (.inl rfl) (fun b' u hb hu=>(Wz s.heap (Obj.mapSeq f) (Ne.symm hb)).trans hu) ⟨_,q⟩ ?_
 exact⟨hz,its',_,hv,q⟩
theorem Inv.lnew {its:List Value}{t':Nat}(I:Inv X pins σ H s)(hv:Vals ys its)(hz:ys.length<=sizeLine) :
   Inv X pins σ (upd H s.heap.objs.size (.lst ys)) { s with heap:=s.heap.push { cls:=.type "list",data:=.seq its.toArray },toks:=t' } :=
 I.laid (fun _ _ q=>Qr _ q) (Ql _) ⟨hz,its,0,hv,Qa _ rfl⟩
theorem Inv.fresh (I:Inv X pins σ H s):H s.heap.objs.size=none:=I.hok.fresh (Ql _)
theorem Inv.lstM (I:Inv X pins σ H s)(hH:H l=some (.lst xs)):xs.length<=sizeLine/\∃(its:List Value) (n:Nat),Vals xs its/\xs.length=its.length/\s.heap.get? l=some { cls:=.type "list",data:=.seq its.toArray n }:=by
 obtain⟨z,its,n,r,e⟩:=I.hok l _ hH
 exact⟨z,its,n,r,r.length,e⟩
theorem zQn {n:Nat}(h:n<=sizeLine):Builtin.List.listTooLong n=false:=by
 unfold Builtin.List.listTooLong
 exact Qv (by omega)
end
section
variable {X:Cx}
def zSu:V->List V->Hp->VK->Prop:=fun x vs H Q=>∃l xs y,x = .ref l/\vs=[y]/\H l=some (.lst xs)/\xs.length < sizeLine/\Q .non (upd H l (.lst (xs++[y])))
theorem pZ:MtM X "list.append" zSu:=by
 intro pins s σ H x vs v us Q I rx rv h
 obtain⟨l,xs,y,rfl,rfl,hH,hz,q⟩:=h
 cases rx
 obtain⟨u,rfl,ru⟩:=rv.one
 obtain⟨z,its,n,r,hl,e⟩:=I.lstM hH
 refine Yy F.slot_list_append ⟨_,e,rfl⟩ F.entry_list_append (F.args_list_append_2 _ _) (PySem.list_append l its.toArray n u (by rw[Qs];omega)) ⟨e,?_⟩
 refine⟨.non,_,I.lset (its':=its++[u]) hH e (by simp) (r.append (.cons ru .nil)) ?_,rfl,q⟩
 rw[Wr,Ud]
 omega
def zPj:V->List V->Hp->VK->Prop:=fun x vs H Q=>∃l xs i k y,x = .ref l/\vs=[.int i]/\H l=some (.lst xs) /\ -(2^63)<=i/\i < 2^63/\seqIndex? i xs.length=some k/\xs[k]?=some y/\Q y (upd H l (.lst (xs.eraseIdx k)))
theorem zPc:MtM X "list.pop" zPj:=by
 intro pins s σ H x vs v us Q I rx rv h
 obtain⟨l,xs,i,k,y,rfl,rfl,hH,h1,h2,hk,hy,q⟩:=h
 cases rx
 obtain⟨u,rfl,ru⟩:=rv.one
 obtain⟨t,rfl⟩:=ru
 obtain⟨z,its,n,r,hl,e⟩:=I.lstM hH
 obtain⟨w,hw,rw'⟩:=r.get hy
 refine Yy F.slot_list_pop ⟨_,e,rfl⟩ F.entry_list_pop (F.args_list_pop_2 _ _)
   (MeetsSeq.list_pop_at l its.toArray n i t k w (fitsIndex_both h1 h2) (by rw[Qs,←hl];exact hk) (by rw[←Array.getElem?_toList];exact hw) (by rw[Qs];omega)) ⟨e,?_⟩
 refine⟨y,_,I.lset (its':=its.eraseIdx k) hH e ?_ (r.eraseIdx k) ?_,rw',q⟩
 · show its.toArray.eraseIdxIfInBounds k=(its.eraseIdx k).toArray
   rw[List.eraseIdxIfInBounds_toArray]
 · have:=zXn xs k
   omega
def zJM:R2:=fun x y H Q=>∃l b xs zs,x = .ref l/\y = .ref b/\H l=some (.lst xs)/\H b=some (.lst zs)/\xs.length+zs.length<=sizeLine/\∀p,H p=none->Q (.ref p) (upd H p (.lst (xs++zs)))
theorem zLj:OpR X (binaryOp .Add) zJM:=by
 intro pins s σ H x y v u Q I rx ry h
 obtain⟨l,b,xs,zs,rfl,rfl,hH,hB,hz,q⟩:=h
 cases rx
 cases ry
 obtain⟨z,its,n,r,hl,e⟩:=I.lstM hH
 obtain⟨z2,its2,n2,r2,hl2,e2⟩:=I.lstM hB
 refine PySem.P.add_list e e2 ?_ (by rw[Qs,Qs];omega)
 have ea:its.toArray++its2.toArray=(its++its2).toArray:=by simp
 rw[ea]
 exact⟨.ref _,_,I.lnew (t':=s.toks) (r.append r2) (by rw[Wr];omega),rfl,q _ I.fresh⟩
def zKe:R2:=fun x y H Q=>∃l k xs,x = .ref l/\y = .int k/\H l=some (.lst xs) /\ -(2^63)<=k/\k < 2^63/\xs.length*k.toNat<=sizeLine /\
 ∀p,H p=none->Q (.ref p) (upd H p (.lst (List.replicate k.toNat xs).flatten))
theorem zOl {α:Type}(xs:List α)(k:Nat):(List.replicate k xs).flatten.length=k*xs.length:=by
 induction k with
 | zero=>simp
 | succ k ih=>rw[Wl,Ti,Wr,ih,Nat.succ_mul,Nat.add_comm]
theorem zLp:OpR X (binaryOp .Mult) zKe:=by
 intro pins s σ H x y v u Q I rx ry h
 obtain⟨l,k,xs,rfl,rfl,hH,h1,h2,hz,q⟩:=h
 cases rx
 obtain⟨t,rfl⟩:=ry
 obtain⟨z,its,n,r,hl,e⟩:=I.lstM hH
 have hlen:its.toArray.size*k.toNat<=sizeLine:=by rw[Qs,←hl];exact hz
 have hcap:¬its.toArray.size*k.toNat > (2^63 - 1) / 8:=by
   have:(sizeLine:Nat)<=(2^63 - 1) / 8:=by decide
   omega
 have hfit:¬(!Builtin.List.listFitsIndex k)=true:=by
   rw[fitsIndex_both h1 h2]
   exact Qb
 have hlong:¬Builtin.List.listTooLong (its.toArray.size*k.toNat)=true:=by
   rw[zQn hlen]
   exact Qb
 have hnew:List.foldl (fun x1 x2=>x1++x2) #[] (List.replicate (if its.toArray.isEmpty=true then 0 else k.toNat) its.toArray)=(List.replicate k.toNat its).flatten.toArray:=by
   have f0:∀m:Nat,List.foldl (fun x1 x2=>x1++x2) #[] (List.replicate m its.toArray)=(List.replicate m its).flatten.toArray:=fun m=>by
     have:=zWS its m []
     rw[Eb] at this
     exact this
   rw[f0]
   cases its with
   | nil=>simp
   | cons a r'=>rw[Wd (by simp)]
 refine wpAny_binaryOp_repeat_ref (T:="list") (U:="int") (by decide) ⟨_,e,rfl⟩ (fun s'=>typeIs_int s' k t) noFill_list_mul F.fills_int_mul F.slot_int_rmul repeat_list F.slot_int_index.lookup
   (Yy F.slot_int_rmul (typeIs_int s k t) F.entry_int_rmul (F.args_int_rmul_2 _ _) (int___rmul___int_list k t l its.toArray n)
     ⟨e,rfl,⟨_,e,rfl⟩,Yy F.slot_list_mul ⟨_,e,rfl⟩ F.entry_list_mul (F.args_list_mul_2 _ _) (AutoListH.list___mul___list_int_3 l its.toArray n k t hfit hcap hlong) ⟨e,?_⟩⟩)
 rw[hnew]
 exact⟨.ref _,_,I.lnew (t':=s.toks) (r.rep k.toNat) (by rw[zOl,Nat.mul_comm];exact hz),rfl,q _ I.fresh⟩
end
section
variable {prog:Program} {w:World} {A:Around} {E:Value->Shared->Prop} {s:Shared}
end
section
variable {X:Cx}
end
end L2
namespace Att
open PySem PySem.W PySem.Calls PyProof.Rows
theorem zZY {P:Params}{h:Heap}:∀(ns:List Int) (vs:List Value),WellAll P h vs (ns.map WData.int)->IntsAre vs ns:=by
 intro ns
 induction ns with
 | nil =>
   intro vs w
   rw[Rs] at w
   cases w
   exact .nil
 | cons n ns ih =>
   intro vs w
   rw[Qg] at w
   cases w with
   | cons a b =>
     cases a
     exact .cons _ _ (ih _ b)
theorem zQQ {l:OpenLaw}{n:Nat}(hn:l.most=some n){P:Params}{h:Heap}{args:List WData}{vals:List Value}
   (hpre:l.row.toRowW.claim.pre args=true) (hwl:WellAll P h vals args) :
   ∃a vs ns,vals=[Value.ref a]/\args=[WData.list (ns.map WData.int)]/\h.get? a=some { cls:=.type "list",data:=.seq vs.toArray }/\IntsAre vs ns/\ns.length<=n:=by
 have hsh:WShape.hasAll [] args [.list .int]=true:=(pre_splitW hpre).1
 have hc:l.pre.holds [] { args:=args }=true:=(pre_splitW hpre).2
 obtain⟨d,r,rfl,h1,h2⟩:=hasAllW_cons hsh
 obtain rfl:=hasAllW_nil h2
 obtain⟨xs,rfl,h3⟩:=hasW_list h1
 obtain⟨ns,rfl⟩:=items_int h3
 have hlen:ns.length<=n:=by
   unfold OpenLaw.pre at hc
   have h4:(WTm.not (.lt (.lit (.int (n:Int))) (.len (.arg 0)))).holds [] { args:=[.list (ns.map .int)] }=true:=by
     have h4:=(holds_andW hc).1
     rw[hn] at h4
     exact h4
   have h5:=condW_of h4 (w_not (w_lt w_lit (w_len_list (w_arg rfl))))
   rw[Qo] at h5
   refine Nat.le_of_not_lt fun q=>?_
   have q':(n:Int) < ((ns.length:Nat):Int):=by omega
   first
     | (rw[Qc q'] at h5;exact absurd h5 (by decide))
     | (simp at h5;omega)
 cases hwl with
 | cons w1 w2 =>
   cases w2
   cases w1 with
   | list ho hall=>exact⟨_,_,ns,rfl,rfl,ho,zZY ns _ hall,hlen⟩
theorem zR5 (l:OpenLaw)(args:List WData):l.row.toRowW.claim.post args (.bool true) args=true :=
 postW_of (r:=l.row.toRowW) (X:=(true==true))
   (show WShape.has [] (.bool true) .bool=true by first | rfl | decide | simp[WShape.has,WShape.arms,WShape.armsAll])
   (show(WTm.eq .res (.lit (.bool true))).value [] { args:=args,res:=some (.bool true),after:=args }=some (.bool (true==true)) from w_eq_bool (w_res rfl) w_lit) rfl
theorem attach_call {l:OpenLaw}{n:Nat}{q:Program}{loose:List Str}{XP:(Str->Option Value)->Heap->Prop}{YP:World->Heap->Prop}{d:DefRec}
   (hn:l.most=some n) (hdf:d.params.defaults=[])
   (call:∀(w:World) (s₀ s₁:Shared) (mg mb:Str->Option Value) (fa:Addr) (o:Obj) (pm cd doc:Value) (a:Addr) (vs:List Value) (ns:List Int),
     Ground q loose [] XP w s₀ mg mb s₁.heap->YP w s₁.heap ->
     s₁.heap.get? fa=some o->o.data = .func (docDef d.name d.params d.body d.scope pm cd doc)->s₁.heap.CodeRec cd d.name->mg d.name=some (.ref fa) ->
     s₁.heap.get? a=some { cls:=.type "list",data:=.seq vs.toArray }->IntsAre vs ns->ns.length<=n->s₁.gens=#[] ->
     codeAny (model l.prog w) callerA (.call (.ref fa) ⟨[.ref a],[]⟩) (fun r s'=>r = .ok (.ret (.bool true))/\OldK s₁.heap s'.heap/\s'.os=s₁.os/\AllBare s'.gens) s₁) :
   WalkO q loose XP YP l.row.toRowW d [] (fun f vs=>PySem.call f vs):=by
 intro w s₀ s₁ mg mb G Y fa o pm cd doc dV kV ho hd hcd hD hmg hg args vals as hpre hlay hrd hwl hlo
 obtain rfl:dV = .none:=Dflts.none hD hdf
 obtain rfl:kV = .none:=Dflts.noKw hD
 obtain⟨a,vs,ns,rfl,rfl,hobj,hints,hlen⟩:=zQQ hn hpre hwl
 refine enter_call (Yh (call w s₀ s₁ mg mb fa o pm cd doc a vs ns G Y ho (fd_plain hd) hcd hmg hobj hints hlen hg) fun r s' hq=>?_)
 obtain⟨rfl,h2,h3,h4⟩:=hq
 exact⟨.inl ⟨.bool true,.bool true,[],rfl,fun _=>rfl,.bool true,zR5 l _,fun _=>⟨List.Pairwise.nil,fun _ hm=>(nomatch hm)⟩⟩,h2,h3,h4⟩
section
variable {prog:Program} {w:World} {A:Around} {E:Value->Shared->Prop} {s:Shared} {K:Frag}
end
end Att
namespace L2
open PySem PySem.Spec PyProof.Rows
theorem cK:∀ {vs:List Value} {ns:List Int},IntsAre vs ns->Vals (ns.map V.int) vs
 | _,_,.nil=>.nil
 | _,_,.cons n t h=>.cons ⟨t,rfl⟩ (cK h)
def zLW (H:Hp):Prop:=∀b,H b=none∨∃o xs,H b=some (.frz o (.lst xs))
theorem zO8 {P:Program}{w:World}{K:PySem.W.Frag}{mg mb:Str->Option Value}{CX:CXT}{k:Nat}{fa a:Addr}{fd:FuncData}{x:Str}{sp:Sp}{s₁:Shared}{vs:List Value}{ns:List Int}
   (KX:K.In s₁.heap) (hns:s₁.heap.Ns mainGlobals mg) (hb:s₁.heap.Ns builtinsNs mb) (hbb:∀x:Str,x≠"__name__"->mb x=bootBuiltins x) (hlim:s₁.heap.NoLimit) (hg:s₁.gens=#[])
   (ha:s₁.heap.get? a=some { cls:=.type "list",data:=.seq vs.toArray }) (hi:IntsAre vs ns) (hl:ns.length<=sizeLine) (hr:Room k callerA)
   (F:∀base:Heap,K.In base->base.Ns mainGlobals mg->FnOk P w K mg base CX k fa fd [x] sp) (hbind:∀(s:Shared) (u:Value),BindsTo s fd ⟨[u],[]⟩ [(x,u)])
   (hsp:∀H:Hp,zLW H->SqL K H a (ns.map V.int)->sp [.ref a] H (fun v _=>v = .bl true) fun _ _ _=>False)
   (hCX:∀H e s',CX [] H s₁ (fun _ _ _=>False) e s'->False) :
   codeAny (model P w) callerA (.call (.ref fa) ⟨[.ref a],[]⟩) (fun r s'=>r = .ok (.ret (.bool true))/\OldK s₁.heap s'.heap/\s'.os=s₁.os/\AllBare s'.gens) s₁:=by
 have rv:=cK hi
 have lenV:=hi.length
 -- from an abstract heap in which nothing but the script may be tracked
 have core:∀H:Hp,zLW H->SqL K H a (ns.map V.int)->HOk P w H s₁.heap->(∀b,H b≠none->b=a)->(H a≠none->K.lookup a=none) ->
     codeAny (model P w) callerA (.call (.ref fa) ⟨[.ref a],[]⟩) (fun r s'=>r = .ok (.ret (.bool true))/\OldK s₁.heap s'.heap/\s'.os=s₁.os/\AllBare s'.gens) s₁:=by
   intro H hO hS hok hA hK
   have base_of:∀ {b:Addr} {o:Obj},s₁.heap.get? b=some o->H b=none->(zVI s₁.heap H).get? b=some o:=fun e n=>zP5 e n
   have noA:∀ {b:Addr} {o:Obj} {es:Array DictEntry} {ep:Nat},s₁.heap.get? b=some o->o.data = .dict es ep->H b=none:=fun {b o es ep} e d=>by
     cases q:H b with
     | none=>rfl
     | some u =>
       have e':b=a:=hA b (by rw[q];simp)
       subst e'
       rw[ha] at e;cases e
       have d':Data.seq vs.toArray _=Data.dict es ep:=d
       cases d'
   have nsK:∀ {b:Addr} {m:Str->Option Value},s₁.heap.Ns b m->(zVI s₁.heap H).Ns b m:=fun {b m} ⟨o,es,ep,e,d,r⟩=>⟨o,es,ep,base_of e (noA e d),d,r⟩
   have hKb:K.In (zVI s₁.heap H):=fun b o e=>base_of (KX b o e) (by
     cases q:H b with
     | none=>rfl
     | some u =>
       have e':b=a:=hA b (by rw[q];simp)
       subst e'
       rw[hK (by rw[q];simp)] at e;cases e)
   have hM:Mod K mg (zVI s₁.heap H):=⟨hKb,nsK hns,⟨mb,nsK hb,hbb⟩,let ⟨mc,h1,h2⟩:=hlim;⟨mc,nsK h1,h2⟩⟩
   have e0:Env0 P w K mg (zVI s₁.heap H) callerA [] s₁ H:=⟨rfl,hM,fun b o e=>zN4 e,Nat.le_of_eq (zRc _ _),trivial,fun b hb=>absurd (show b∈([]:List Addr) from hb) (by simp),hok,.of_eq hg⟩
   refine Yh ((F _ hKb (nsK hns)).run callerA [] s₁ H ⟨[.ref a],[]⟩ [.ref a] [.ref a] _ _ hr e0 (hbind s₁ (.ref a)) (.cons rfl .nil) (hsp H hO hS)) fun r s' h=>?_
   cases r with
   | error e=>exact(hCX H e s' h).elim
   | ok fl =>
     cases fl with
     | next=>exact False.elim h
     | brk=>exact False.elim h
     | cont=>exact False.elim h
     | ret u =>
       obtain⟨v,H',os,bare,un,hok',r',q⟩:=h
       have q':v = .bl true:=q
       subst q'
       obtain rfl:u=Value.bool true:=r'
       refine⟨rfl,OldK.of_keep fun b o e=>?_,os,bare⟩
       cases q:H b with
       | none=>exact un.keep b o e q (by intro z;exact absurd (show b∈([]:List Addr) from z) (by simp)) (by simp)
       | some u =>
         rcases hO b with z | ⟨ob,xs,z⟩
         · rw[q] at z;cases z
         · have z2:=un.frzs b ob _ z
           obtain⟨e1,_⟩:=hok b _ z
           obtain⟨e2,_⟩:=hok' b _ z2
           rw[e] at e1;cases e1
           exact e2
 cases hk:K.lookup a with
 | some o =>
   -- the script is one of the module's own objects
   have e:=KX a o hk
   rw[ha] at e
   cases e
   refine core (fun _=>none) (fun _=>.inl rfl) (.inr ⟨_,vs.toArray,_,hk,rfl,rfl,rfl,by rw[Qs,lenV];exact hl,by simpa using rv⟩) (fun b u z=>by have z':(none:Option HO)=some u:=z;cases z') (fun b z=>absurd rfl z) fun z=>absurd rfl z
 | none =>
   refine core (fun b=>if b=a then some (.frz { cls:=.type "list",data:=.seq vs.toArray } (.lst (ns.map V.int))) else none) (fun b=>?_) (.inl (.inr ⟨{ cls:=.type "list",data:=.seq vs.toArray },Qn rfl⟩)) (fun b u z=>?_) (fun b z=>?_) fun _=>hk
   · by_cases hb:b=a
     · exact .inr ⟨_,_,Qn hb⟩
     · exact .inl (Wd hb)
   · by_cases hb:b=a
     · have z':=(Qn hb).symm.trans z
       cases z'
       subst hb
       exact⟨ha,by rw[Qo];exact hl,vs,_,rv,ha⟩
     · have z':=(Wd hb).symm.trans z
       cases z'
   · by_cases hb:b=a
     · exact hb
     · exact absurd (Wd hb) z
theorem zOx {l:PySem.W.OpenLaw}{n k:Nat}{q:Program}{loose:List Str}{XP:(Str->Option Value)->Heap->Prop}{YP:World->Heap->Prop}{d:DefRec}{K:Params->PySem.W.Frag}{CX:World->CXT}{sp:World->Sp}{x:Str}
   (hn:l.most=some n) (hn2:n<=sizeLine) (hdf:d.params.defaults=[]) (hr:Room k callerA)
   (hY:∀(w:World) (h:Heap),YP w h->(K w.params).In h)
   (F:∀(w:World) (mg:Str->Option Value) (fa:Addr) (h:Heap),(K w.params).In h->h.Ns mainGlobals mg->mg d.name=some (.ref fa) ->
     ∃fd:FuncData,(∀(s:Shared) (u:Value),BindsTo s fd ⟨[u],[]⟩ [(x,u)]) /\
       ∀base:Heap,(K w.params).In base->base.Ns mainGlobals mg->FnOk l.prog w (K w.params) mg base (CX w) k fa fd [x] (sp w))
   (hsp:∀(w:World) (H:Hp) (a:Addr) (ns:List Int),ns.length<=n->zLW H->SqL (K w.params) H a (ns.map V.int)->sp w [.ref a] H (fun v _=>v = .bl true) fun _ _ _=>False)
   (hCX:∀(w:World) (H:Hp) (s:Shared) (e:Value) (s':Shared),CX w [] H s (fun _ _ _=>False) e s'->False) :
   PySem.W.WalkO q loose XP YP l.row.toRowW d [] (fun f vs=>PySem.call f vs):=by
 refine Att.attach_call hn hdf fun w s₀ s₁ mg mb fa o pm cd doc a vs ns G Y ho hd hcd hmg hobj hints hlen hg=>?_
 have KX:=hY w _ Y
 obtain⟨fd,hb,hF⟩:=F w mg fa _ KX G.T.g hmg
 exact zO8 KX G.T.g G.T.b G.T.builtins G.T.nolimit hg hobj hints (Eu hlen hn2) hr hF hb (fun H hO hS=>hsp w H a ns hlen hO hS) fun H e s'=>hCX w H s₁ e s'
abbrev CX0:CXT:=fun _ _ _ _ _ _=>False
abbrev E0:XK:=fun _ _ _=>False
theorem zS6 {X:Cx}:lN CX0 X E0:=fun _ _ _ _ _ _ _ h=>h.elim
structure Fun (K:PySem.W.Frag)(x qual:Str)(st:Stmt)(f:Addr)(fd:FuncData):Prop where
 ex:∃(oc:Value) (od:Option Addr) (kV doc pm:Value) (an:Option Addr) (cdv ct:Value) (osl:Array (Option Value)),
   fd=PySem.W.fnOf x qual (zF st) (zK st) (zV st) .none kV doc pm an cdv ct/\K.lookup f=some ⟨oc,od,.func fd,osl⟩/\PySem.W.codeIn K cdv qual=true
 kp:PySem.W.keepIn K (.ref f)=true
section
variable {P:Program} {w:World} {K:PySem.W.Frag} {mg:Str->Option Value} {base:Heap}
theorem Fun.ok {x qual:Str}{st:Stmt}{f:Addr}{fd:FuncData}{N ps:List Str}{k:Nat}{sp:Sp}(F:Fun K x qual st f fd)(S:FnScope N ps (zV st))(len:∀vs H Q E,sp vs H Q E->vs.length=ps.length)
   (hbody:∀(cdv:Value) (A:Around) (outer:List Env) (s:Shared) (H:Hp) (vs:List V) (Q:VK) (E:XK),Room k (A.deeper (envOfC qual (zV st) s.heap.objs.size f cdv))->sp vs H Q E ->
     ∃t,PSs (kO CX0 P w K mg base N qual (zV st) f cdv A outer s H E).nox (zK st) t/\t { nx:=fun _ H'=>Q .non H',rt:=Q } (oE N vs) H):FnOk P w K mg base CX0 (k+1) f fd ps sp:=by
 obtain⟨oc,od,kV,doc,pm,an,cdv,ct,osl,rfl,lk,hcd⟩:=F.ex
 refine zML lk hcd S len fun A outer s H vs Q E hr hsp=>?_
 obtain⟨t,h,q⟩:=hbody cdv A outer s H vs Q E hr hsp
 exact⟨t,h.nox,q⟩
theorem Fun.binds {x qual:Str}{st:Stmt}{f:Addr}{fd:FuncData}{ps:List Str}(F:Fun K x qual st f fd)
   (h:∀(kV doc pm:Value) (an:Option Addr) (cdv ct:Value) (us:List Value),us.length=ps.length->bindArgs (PySem.W.fnOf x qual (zF st) (zK st) (zV st) .none kV doc pm an cdv ct) ⟨us,[]⟩=pure (ps.zip us)):Binds K fd ps []:=by
 obtain⟨oc,od,kV,doc,pm,an,cdv,ct,osl,rfl,lk,hcd⟩:=F.ex
 exact .all (h kV doc pm an cdv ct)
theorem zZj {x qual:Str}{st:Stmt}{f:Addr}{oc:Value}{od an:Option Addr}{osl:Array (Option Value)}{kV doc pm cdv ct:Value}(l:K.lookup f=some ⟨oc,od,.func (PySem.W.fnOf x qual (zF st) (zK st) (zV st) .none kV doc pm an cdv ct),osl⟩)
   (c:PySem.W.codeIn K cdv qual=true) (k:PySem.W.keepIn K (.ref f)=true):Fun K x qual st f (PySem.W.fnOf x qual (zF st) (zK st) (zV st) .none kV doc pm an cdv ct):=⟨⟨oc,od,kV,doc,pm,an,cdv,ct,osl,rfl,l,c⟩,k⟩
end
section
variable {X:Cx}
theorem pv (i:Nat){x:Str}{pos:Pos}(hN:X.N[i]?=some x:=by rfl)(hv:Vis X.env.scope x:=by first | exact Or.inl rfl | exact Or.inr (Or.inl rfl) | exact Or.inr (Or.inr rfl))(hd:(x==("__debug__":Str))=false:=by decide)
   (hcd:(x==("__classdict__":Str))=false:=by decide):PE X (.Name x pos) (zNo i):=pK hN hv hd hcd
end
def Same (H H':Hp):Prop:=∀b o,H b=some o->H' b=some o
theorem Same.refl (H:Hp):Same H H:=fun _ _ h=>h
theorem Same.trans {H H1 H2:Hp}(a:Same H H1)(b:Same H1 H2):Same H H2:=fun c o h=>b c o (a c o h)
theorem Same.free {H H':Hp}(e:Same H H'){l:Addr}(h:H' l=Option.none):H l=Option.none:=by
 cases q:H l with
 | none=>rfl
 | some o =>
   rw[e l o q] at h
   cases h
theorem Same.seq {K:PySem.W.Frag}{H H':Hp}{a:Addr}{xs:List V}(e:Same H H')(h:SqL K H a xs):SqL K H' a xs:=by
 rcases h with(h | ⟨o,h⟩) | h
 · exact .inl (.inl (e _ _ h))
 · exact .inl (.inr ⟨o,e _ _ h⟩)
 · exact .inr h
section
variable {prog:Program} {w:World} {A:Around} {R:Result->Shared->Prop} {s:Shared}
abbrev F0:Value->Shared->Prop:=fun _ _=>False
theorem zXw {α:Type}{t:Sem α}{Q Q':α->Shared->Prop}{M:Model}{A:Around}{E:Value->Shared->Prop}{s:Shared}(h:wpAny M A t Q F0 s)(hq:∀a s,Q a s->Q' a s):wpAny M A t Q' E s:=Rq h hq fun _ _ z=>z.elim
theorem zY6 {elt target iter:Expr}{ifs:List Expr}{scope:Scope}{pos:Pos}{it acc:Value}{env:Env}(I:Nat->Shared->Prop)
   (turn:∀n s,I n s->wpAny (model prog w) A (pyNext it) (fun r s₁=>match r with
     | none=>R (.ok .next) s₁
     | some v=>wpAny (model prog w) A (letOwnedTupleGo target it v) (fun _ s₁=>wpAny (model prog w) A (assign target env v) (fun _ s₂ =>
         wpAny (model prog w) A (forIn ifs true fun c r=>if r=true then do let ok ←isTrue c env (eval c env);pure (ForInStep.yield ok) else pure (ForInStep.yield r)) (fun ok s₃ =>
           if ok=true then wpAny (model prog w) A (eval elt env) (fun x s₄ =>
             wpAny (model prog w) A (call (.builtin "list.append") [acc,x]) (fun _ s₅ => ∃m,m < n/\I m s₅) F0 s₄) F0 s₃
           else ∃m,m < n/\I m s₃) F0 s₂) F0 s₁) F0 s₁) F0 s)
   (n:Nat) (h:I n s) :
   codeAny (model prog w) A (.compLoop (.ListComp elt [⟨target,iter,ifs,0⟩] scope pos) 0 it acc env) R s:=by
 refine codeAny_loop rfl I (fun n s hI=>?_) n h
 show wpAny _ A ((compTurn (.ListComp elt [⟨target,iter,ifs,0⟩] scope pos) 0 it acc env).onRaise (fun x=>do noteFrame x env;theTreesLotGoes x)) _ _ s
 refine wpAny_noted ?_
 rw[compTurn_list]
 refine Qw (Yn (Qw (zXw (turn n s hI) (fun r s₁ h₁=>?_))))
 cases r with
 | none=>exact Qi h₁
 | some v =>
   refine Qw (zXw h₁ fun _ s₁' h₁'=>?_)
   refine Qw (zXw h₁' fun _ s₂ h₂=>Qw (zXw h₂ fun ok s₃ h₃ => ?_))
   cases ok with
   | false=>exact Qi ⟨rfl,h₃⟩
   | true =>
     exact Qw (Qw (zXw h₃ fun x s₄ h₄ => Qw (zXw h₄ fun _ s₅ h₅ => Qi (Qi ⟨rfl,h₅⟩))))
end
theorem kG {env:Env}(x:Str):∀(names:List (Str×NameKind)),
   (names.map fun(n,k)=>if (k==NameKind.free&&env.scope.kind == .function&&env.kindOf n==some .cell) then(n,NameKind.cell) else(n,k)).lookup x
     = (names.lookup x).map fun k=>if (k==NameKind.free&&env.scope.kind == .function&&env.kindOf x==some .cell)=true then NameKind.cell else k
 | []=>rfl
 | (n,k)::r=>by
   have ih:=kG (env:=env) x r
   rw[Qg]
   cases hx:x==n with
   | true =>
     have e:x=n:=eq_of_beq hx
     subst e
     by_cases hc:(k==NameKind.free&&env.scope.kind == .function&&env.kindOf x==some .cell)=true
     · simp only[hc,Ri,Er,Td,Wy]
     · simp only[hc,Rf,Er,Td,Wy,Wp]
   | false =>
     by_cases hc:(k==NameKind.free&&env.scope.kind == .function&&env.kindOf n==some .cell)=true
     · simp only[hc,Ri,Er,hx];exact ih
     · simp only[hc,Rf,Er,hx,Wp];exact ih
def iJ (env:Env):List (Str×NameKind)->List (Str×Addr)->List (Str×Addr)
 | [],acc=>acc
 | (n,k)::r,acc=>iJ env r (if k = .free then(match env.cells.lookup n with | some c=>(n,c)::acc | none=>acc) else acc)
theorem zTC {env:Env}{scope:Scope}(h:∀p∈scope.names,p.2 = .free->∃c,env.cells.lookup p.1=some c):closureFor scope env=pure (iJ env scope.names []):=by
 have gen:∀(l:List (Str×NameKind)) (acc:List (Str×Addr)),(∀p∈l,p.2 = .free->∃c,env.cells.lookup p.1=some c) ->
     (forIn l acc fun x r=>if (x.2==NameKind.free)=true then(do let a ←cellOf env x.1;pure (ForInStep.yield ((x.1,a)::r))) else pure (ForInStep.yield r):Sem (List (Str×Addr)))=pure (iJ env l acc):=by
   intro l
   induction l with
   | nil=>intro acc _;rfl
   | cons p r ih =>
     intro acc hp
     obtain⟨n,k⟩:=p
     rw[Yp]
     have hr:∀p∈r,p.2 = .free->∃c,env.cells.lookup p.1=some c:=fun p hm=>hp p (Qd _ hm)
     by_cases hk:k = .free
     · subst hk
       obtain⟨c,hc⟩:=hp (n,.free) Qf rfl
       have e:cellOf env n=pure c:=by unfold cellOf;rw[hc]
       simp only[Td,Ri,e]
       show(forIn r ((n,c)::acc) _:Sem _)=_
       rw[ih _ hr]
       show _=(pure (iJ env r (if NameKind.free=NameKind.free then(match env.cells.lookup n with | some c=>(n,c)::acc | none=>acc) else acc)):Sem _)
       rw[Qn rfl,hc]
     · have hb:(k==NameKind.free)=false:=by simpa using hk
       simp only[hb,Wp,Rf]
       show(forIn r acc _:Sem _)=_
       rw[ih _ hr]
       show _=(pure (iJ env r (if k=NameKind.free then(match env.cells.lookup n with | some c=>(n,c)::acc | none=>acc) else acc)):Sem _)
       rw[Wd hk]
 have q:=gen scope.names [] h
 simp only[closureFor]
 rw[q]
 rfl
theorem zYZ {env:Env}:∀(l:List (Str×NameKind)) (acc:List (Str×Addr)),(∀x c,acc.lookup x=some c->env.cells.lookup x=some c)->∀x c,(iJ env l acc).lookup x=some c->env.cells.lookup x=some c
 | [],_,h=>h
 | (n,k)::r,acc,h=>by
   refine zYZ r _ ?_
   by_cases hk:k = .free
   · rw[Qn hk]
     cases e:env.cells.lookup n with
     | none=>exact h
     | some c =>
       intro x c' hx
       rw[Er] at hx
       cases q:x==n with
       | true=>rw[q] at hx;cases hx;rw[eq_of_beq q];exact e
       | false=>rw[q] at hx;exact h x c' hx
   · rw[Wd hk];exact h
theorem zVb {env:Env}:∀(l:List (Str×NameKind)) (acc:List (Str×Addr)) (x:Str),(acc.lookup x).isSome=true->((iJ env l acc).lookup x).isSome=true
 | [],_,_,h=>h
 | (n,k)::r,acc,x,h=>by
   refine zVb r _ x ?_
   by_cases hk:k = .free
   · rw[Qn hk]
     cases e:env.cells.lookup n with
     | none=>exact h
     | some c =>
       show(List.lookup x ((n,c)::acc)).isSome=true
       rw[Er]
       cases q:x==n with
       | true=>rfl
       | false=>exact h
   · rw[Wd hk];exact h
theorem zYy {env:Env}:∀(l:List (Str×NameKind)) (acc:List (Str×Addr)),(∀p∈l,p.2 = .free->∃c,env.cells.lookup p.1=some c)->∀x,(x,NameKind.free)∈l->((iJ env l acc).lookup x).isSome=true
 | [],_,_,_,h=>nomatch h
 | (n,k)::r,acc,hp,x,h=>by
   rcases Qj.mp h with e | h
   · cases e
     obtain⟨c,hc⟩:=hp (n,.free) Qf rfl
     show((iJ env r (if NameKind.free=NameKind.free then(match env.cells.lookup n with | some c=>(n,c)::acc | none=>acc) else acc)).lookup n).isSome=true
     rw[Qn rfl,hc]
     exact zVb r _ n (by simp[Er])
   · exact zYy r _ (fun p hm=>hp p (Qd _ hm)) x h
def mF (sc scope:Scope)(N tgs frees:List Str)(js:List Nat):Bool :=
 scope.kind == .function&&scope.names.all (fun p=>p.2 != .cell&&(p.2 != .free||sc.names.lookup p.1==some .cell||sc.names.lookup p.1==some .free)&&(p.2 != .local||scope.names.lookup p.1==some .local))
   && tgs.all (fun x=>scope.names.lookup x==some .local)&&frees.all (fun x=>scope.names.lookup x==some .free)&&(js.map fun j=>N[j]?)==frees.map some
def upC (m:Nat)(js:List Nat)(σ:St):St:=List.replicate m none++js.map fun j=>(σ[j]?).join
def vH (X:Cx)(Nc:List Str)(scope:Scope)(C:Addr)(s₀:Shared)(H₀:Hp)(fp:List Addr):Cx where
 prog:=X.prog
 w:=X.w
 K:=X.K
 mg:=X.mg
 base:=X.base
 A:=X.A
 N:=Nc
 s₀:=s₀
 H₀:=H₀
 env:=compEnvC scope (iJ X.env scope.names []) C X.env
 outer:=X.stack
 stack:=X.stack
 ex:=fp
 fn:=fun _=>false
 calm:=X.calm
 pn:=[]
 xe:=F0
def zSX (X:Cx)(ifs:List Expr)(t:TT):Prop :=
 ∀(pins:List (Addr×Obj)) (s:Shared) (σ:St) (H:Hp) (Q:Bool->Hp->Prop),Inv X pins σ H s->t σ H Q ->
   wpAny (model X.prog X.w) X.A (forIn ifs true fun c r=>if r=true then do let ok ←isTrue c X.env (eval c X.env);pure (ForInStep.yield ok) else pure (ForInStep.yield r)) (TP X pins σ Q) X.xe s
def zJR:TT:=fun _ H Q=>Q true H
theorem zOM {X:Cx}:zSX X [] zJR:=fun _ _ _ H _ I h=>wpAny_tests_nil ⟨H,I,h⟩
theorem zPA {X:Cx}{c:Expr}{t:TT}(h:PT X c t):zSX X [c] t:=fun pins s σ H Q I hq=>wpAny_tests_one (h pins s σ H Q I hq)
def zKs (J:It)(m:Nat)(js:List Nat)(g:TG)(tc:TT)(te:TE)(σ:St)(H1:Hp)(Q:VK):Prop:=∀D,H1 D=none ->
 ∃W:Nat->Nat->St->Hp->Prop,(∃k,W 0 k (upC m js σ) (upd H1 D (.lst [])))/\∀i k σ' H',W i k σ' H' ->
   (J.stop i H'/\Q (.ref D) H')∨(J.go i H'/\∀x H2,J.yld i H' x H2->g x σ' H2 fun σ2 H3=>tc σ2 H3 fun b H4=>if b=true then te σ2 H4 fun y H5=>∃ys k',H5 D=some (.lst ys)/\ys.length < sizeLine/\k' < k/\W (i+1) k' σ2 (upd H5 D (.lst (ys++[y])))
     else ∃k',k' < k/\W (i+1) k' σ2 H4)
section
variable {X:Cx} {pins:List (Addr×Obj)} {σ:St} {H2:Hp} {s2:Shared} {tg elt iter:Expr} {ifs:List Expr} {scope sc:Scope} {pos:Pos} {tgs frees:List Str} {js:List Nat} {g:TG} {te:TE} {tc:TT}
theorem sS {N:List Str}(h:mF sc scope N tgs frees js=true):scope.kind = .function/\(∀p∈scope.names,p.2 ≠ .cell)/\(∀p∈scope.names,p.2 = .free->sc.names.lookup p.1=some .cell∨sc.names.lookup p.1=some .free) /\
   (∀p∈scope.names,p.2 = .local->scope.names.lookup p.1=some .local)/\(∀x∈tgs,scope.names.lookup x=some .local)/\(∀x∈frees,scope.names.lookup x=some .free)/\(js.map fun j=>N[j]?)=frees.map some:=by
 unfold mF at h
 simp only[Qx,Qh,bne_iff_ne,ne_eq,En,Wm] at h
 obtain⟨⟨⟨⟨h1,h2⟩,h3⟩,h4⟩,h5⟩:=h
 refine⟨h1,fun p hp=>(h2 p hp).1.1,fun p hp e=>?_,fun p hp e=>?_,h3,h4,h5⟩
 · rcases(h2 p hp).1.2 with(q | q) | q
   · exact absurd e q
   · exact .inl q
   · exact .inr q
 · rcases(h2 p hp).2 with q | q
   · exact absurd e q
   · exact q
theorem zTw {C:Addr}{s3:Shared}{H3:Hp}{h4:Heap}{tk:Nat}{fp:List Addr}{m0:Str->Option Value}(I:Inv X pins σ H3 s3)(f3:∀b∈fp,mQ X pins H3 b)(ofp:∀b∈fp,b < s3.heap.objs.size)
   (hsc:X.env.scope=sc) (hok:mF sc scope X.N tgs frees js=true) (hC:C=s3.heap.objs.size) (hk:∀b o,s3.heap.get? b=some o->h4.get? b=some o) (hn:h4.Ns C m0) :
   Inv (vH X (tgs++frees) scope C s3 H3 fp) [] (upC tgs.length js σ) H3 { s3 with heap:=h4,toks:=tk }:=by
 obtain⟨k1,k2,k3,k4,k5,k6,k7⟩:=sS hok
 have hcl:∀x c,(iJ X.env scope.names []).lookup x=some c->X.env.cells.lookup x=some c:=zYZ scope.names [] (fun _ _ z=>nomatch z)
 have hfr:∀p∈scope.names,p.2 = .free->∃c,X.env.cells.lookup p.1=some c:=fun p hp e=>I.ok.has p.1 (by
   show X.env.scope.names.lookup p.1=_∨X.env.scope.names.lookup p.1=_
   rw[hsc];exact k3 p hp e)
 have rl:∀x,(relabel scope X.env).names.lookup x=(scope.names.lookup x).map fun k=>if (k==NameKind.free&&X.env.scope.kind == .function&&X.env.kindOf x==some .cell)=true then NameKind.cell else k:=fun x=>kG x scope.names
 have hasc:∀x,((relabel scope X.env).names.lookup x=some .cell∨(relabel scope X.env).names.lookup x=some .free)->∃c,(iJ X.env scope.names []).lookup x=some c:=fun x hx=>by
   rw[rl x] at hx
   cases e:scope.names.lookup x with
   | none=>rw[e] at hx;simp at hx
   | some k =>
     have hm:=Ez e
     have hkf:k = .free:=by
       rw[e] at hx
       simp only[Wy,Option.some.injEq] at hx
       by_cases q:k = .free
       · exact q
       · have hb:(k==NameKind.free)=false:=by simpa using q
         rw[hb] at hx
         simp only[Bool.false_and,Wp,Rf] at hx
         rcases hx with z | z
         · exact absurd z (k2 _ hm)
         · exact z
     subst hkf
     exact Rw.mp (zYy scope.names [] hfr x hm)
 have cfr:∀x c,X.env.cells.lookup x=some c->c≠C:=fun x c e z=>by
   obtain⟨v,q⟩:=I.cell x c e
   exact absurd (z ▸ q.lt) (by rw[hC];exact Wt _)
 have base0:∀b o,X.base.get? b=some o->b∉fp:=fun b o e hb=>by
   obtain⟨_,_,_,q,_⟩:=f3 b hb
   rcases q with q | q
   · exact I.ok.noex b o e q
   · exact absurd (We (Qy (I.ok.bs b o e).1) q) (Wt _)
 have stk:∀b∈fp,b∉frs X.stack:=fun b hb z=>by
   obtain⟨_,q1,q2,_⟩:=f3 b hb
   rcases Qj.mp (I.stkSub b z) with e | e
   · exact q1 e
   · exact q2 e
 refine⟨⟨I.ok.mod,k1,I.ok.glob,I.ok.blt,by rw[hC];exact Ql _,fun x y c e1 e2=>I.ok.inj x y c (hcl x c e1) (hcl y c e2),hasc,(fun x c z _=>nomatch z),I.ok.hd,I.ok.frames,.inl rfl,
     fun b hb=>⟨fun z=>absurd (ofp b hb) (by rw[show b=C from z,hC];exact Wt _),fun x c e=>(f3 b hb).2.2.2.2.1 x c (hcl x c e)⟩,
     fun b o e=>I.bs b o e,Eu I.ok.bsz I.sz,base0,stk,I.stack,I.stkFree⟩,
   rfl,I.bare,Un.kept hk,⟨m0,hn,fun i x v e1 e2 e3=>?_⟩,fun x c e=>?_,I.hok.fresh (by rw[show(vH X (tgs++frees) scope C s3 H3 fp).env.locals=C from rfl,hC];exact Ql _),fun x c e=>I.freeC x c (hcl x c e),
   fun p hp=>absurd (show p∈([]:List (Addr×Obj)) from hp) (by simp),I.hok.kept hk,?_⟩
 · -- a name's value
   have hi:tgs.length<=i:=by
     refine Nat.le_of_not_lt fun hlt=>?_
     have e2:(upC tgs.length js σ)[i]?=some (some v):=e2
     unfold upC at e2
     rw[Ec (by simpa using hlt),Re] at e2
     split at e2<;>cases e2
   have e2:(upC tgs.length js σ)[i]?=some (some v):=e2
   unfold upC at e2
   rw[Ep (by simpa using hi),Us,Wq] at e2
   have e1:(tgs++frees)[i]?=some x:=e1
   rw[Ep hi] at e1
   obtain⟨j,ej,e2⟩:=Qt.mp e2
   have hj:X.N[j]?=some x:=by
     have q:=Rp (fun l=>l[i - tgs.length]?) k7
     simp only[Wq,ej,e1,Wy] at q
     exact Wa q
   have hσ:σ[j]?=some (some v):=by
     cases q:σ[j]? with
     | none=>rw[q] at e2;cases e2
     | some o=>rw[q] at e2;exact Rp some e2
   have hf:scope.names.lookup x=some .free:=k6 x (To e1)
   have hX:X.env.kindOf x=some .cell∨X.env.kindOf x=some .free:=by
     show X.env.scope.names.lookup x=_∨X.env.scope.names.lookup x=_
     rw[hsc];exact k3 _ (Ez hf) rfl
   obtain⟨m,_,hl⟩:=I.loc
   obtain⟨u,r,l⟩:=hl j x v hj hσ (by
     rcases hX with q | q
     · exact .inr (.inl q)
     · exact .inr (.inr q))
   refine⟨u,r,.inr ⟨?_,?_⟩⟩
   · show(relabel scope X.env).names.lookup x=_∨(relabel scope X.env).names.lookup x=_
     rw[rl x,hf]
     by_cases q:(NameKind.free==NameKind.free&&X.env.scope.kind == .function&&X.env.kindOf x==some .cell)=true
     · exact .inl (by rw[Wy,Qn q])
     · exact .inr (by rw[Wy,Wd q])
   · rcases l with⟨q,_⟩ | ⟨_,c,ec,hcell⟩
     · rcases hX with z | z<;>(rw[z] at q;cases q)
     · obtain⟨c',ec'⟩:=Rw.mp (zYy scope.names [] hfr x (Ez hf))
       have e:c'=c:=Wa ((hcl x c' ec').symm.trans ec)
       subst e
       obtain⟨o,ho,hd⟩:=hcell
       exact⟨c',ec',o,hk _ _ ho,hd⟩
 · obtain⟨v,o,ho,hd⟩:=I.cell x c (hcl x c e)
   exact⟨v,o,hk _ _ ho,hd⟩
 · show(upC tgs.length js σ).length=(tgs++frees).length
   have q:=Rp List.length k7
   rw[Qo,Qo] at q
   unfold upC
   rw[Wr,Us,Qo,Wr,q]
theorem zZb {J:It}{fp:List Addr}{it:Addr}{tn:Nat->Heap->Prop}{RR:Value->Addr->Result->Shared->Prop}{E:Value->Shared->Prop}{Q:VK}
   (I2:Inv X pins σ H2 s2) (T:Turn X.prog X.w X.K tg J fp it tn) (st2:tn 0 s2.heap) (f2:∀b∈fp,mQ X pins H2 b) (hc:X.calm=true)
   (hsc:X.env.scope=sc) (hok:mF sc scope X.N tgs frees js=true)
   (hg:∀C s₀ H₀ fp,PG (vH X (tgs++frees) scope C s₀ H₀ fp) tg g) (hi:∀C s₀ H₀ fp,zSX (vH X (tgs++frees) scope C s₀ H₀ fp) ifs tc) (he:∀C s₀ H₀ fp,PE (vH X (tgs++frees) scope C s₀ H₀ fp) elt te)
   (hw:zKs J tgs.length js g tc te σ H2 Q)
   (hRR:∀D C s' H' m,Inv X pins σ H' s'->Q (.ref D) H'->mQ X pins H' C->s'.heap.Ns C m->RR (.ref D) C (.ok .next) s') :
   wpAny (model X.prog X.w) X.A (newList []) (fun acc s₃ => wpAny (model X.prog X.w) X.A (newFunctionEnv scope X.env.globals (iJ X.env scope.names []) [] X.env.qual none .none (some X.env)) (fun cenv s₄ =>
     codeAny (model X.prog X.w) X.A (.compStart (.ListComp elt [⟨tg,iter,ifs,0⟩] scope pos) 0 (.ref it) acc { cenv with scope:=relabel scope X.env }) (RR acc cenv.locals) s₄) E s₃) E s2:=by
 obtain⟨k1,k2,k3,k4,k5,k6,k7⟩:=sS hok
 refine Ry (wpAny_newFunctionEnv k2 (by intro y hy;simp at hy) (fun h4 hn4 hs4=>?_) k1)
 dsimp only at hn4 hs4 ⊢
 generalize hh3:s2.heap.push { cls:=.type "list",dict:=none,data:=.seq ([]:List Value).toArray }=h3 at hn4 hs4 ⊢
 generalize hD:s2.heap.objs.size=D
 have hDn:H2 D=none:=by rw[←hD];exact I2.fresh
 have hsz3:h3.objs.size=D+1:=by rw[←hh3,Eg,hD]
 have keep23:∀b o,s2.heap.get? b=some o->h3.get? b=some o:=fun b o e=>by rw[←hh3];exact Qr _ e
 have keep34:∀b o,h3.get? b=some o->h4.get? b=some o:=fun b o e=>hs4.extBut b o (Wu (Qy e)) (Qr _ e)
 have I3:Inv X pins σ (upd H2 D (.lst [])) { s2 with heap:=h3 }:=by
   have q:=I2.lnew (its:=[]) (ys:=[]) (t':=s2.toks) .nil (Tj _)
   rw[hD] at q
   rw[←hh3]
   exact q
 have nfp:∀b∈fp,b≠D:=fun b hb z=>by
   obtain⟨o,e,_⟩:=T.obj 0 _ st2 b hb
   exact absurd (Qy e) (by rw[z,hD];exact Wt _)
 have f3:∀b∈fp,mQ X pins (upd H2 D (.lst [])) b:=fun b hb=>by
   obtain⟨q0,q⟩:=f2 b hb
   exact⟨by rw[yQ (nfp b hb)];exact q0,q⟩
 have ofp:∀b∈fp,b < h3.objs.size:=fun b hb=>by
   obtain⟨o,e,_⟩:=T.obj 0 _ st2 b hb
   exact Qy (keep23 b o e)
 obtain⟨W,⟨n0,w0⟩,turn⟩:=hw D hDn
 have loop:∀s4:Shared,s4={ s2 with heap:=h4,toks:=s2.toks+([]:List (Str×Value)).length } ->
     codeAny (model X.prog X.w) X.A (.compLoop (.ListComp elt [⟨tg,iter,ifs,0⟩] scope pos) 0 (.ref it) (.ref D) (compEnvC scope (iJ X.env scope.names []) h3.objs.size X.env)) (RR (.ref D) h3.objs.size) s4:=by
   rintro s4 rfl
   generalize hX':vH X (tgs++frees) scope h3.objs.size { s2 with heap:=h3 } (upd H2 D (.lst [])) fp=X'
   have I4:Inv X' [] (upC tgs.length js σ) (upd H2 D (.lst [])) { s2 with heap:=h4,toks:=s2.toks+([]:List (Str×Value)).length }:=by
     rw[←hX']
     exact zTw (s3:={ s2 with heap:=h3 }) I3 f3 ofp hsc hok rfl keep34 hn4
   have eP:X'.prog=X.prog:=by rw[←hX'];rfl
   have eW:X'.w=X.w:=by rw[←hX'];rfl
   have eK:X'.K=X.K:=by rw[←hX'];rfl
   have eA:X'.A=X.A:=by rw[←hX'];rfl
   have eC:X'.calm=true:=by rw[←hX'];exact hc
   have T':Turn X'.prog X'.w X'.K tg J fp it tn:=by rw[eP,eW,eK];exact T
   have eE:X'.env=compEnvC scope (iJ X.env scope.names []) h3.objs.size X.env:=by rw[←hX'];rfl
   have eX:X'.xe=F0:=by rw[←hX'];rfl
   have stat:∀ {H':Hp},(∀b∈fp,H' b=none)->∀b∈fp,mQ X' [] H' b:=fun {H'} hn b hb=>by
     obtain⟨_,q1,q2,q3,q4,q5⟩:=f3 b hb
     rw[←hX']
     refine⟨hn b hb,?_,?_,.inl hb,fun x c e=>?_,fun p hp=>absurd (show p∈([]:List (Addr×Obj)) from hp) (by simp)⟩
     · exact fun z=>absurd (ofp b hb) (by rw[show b=h3.objs.size from z];exact Wt _)
     · intro z
       rcases Qj.mp (I3.stkSub b z) with e | e
       · exact q1 e
       · exact q2 e
     · exact q4 x c (zYZ scope.names [] (fun _ _ z=>nomatch z) x c e)
   have hgX:PG X' tg g:=by rw[←hX'];exact hg _ _ _ _
   have hiX:zSX X' ifs tc:=by rw[←hX'];exact hi _ _ _ _
   have heX:PE X' elt te:=by rw[←hX'];exact he _ _ _ _
   refine zY6 (fun n s'=>∃i σ' H',Inv X' [] σ' H' s'/\tn i s'.heap/\(∀b∈fp,H' b=none)/\W i n σ' H') ?_ n0 ⟨0,_,_,I4,T.keep 0 _ _ st2 (fun b _ o e=>keep34 b o (keep23 b o e)),fun b hb=>(f3 b hb).1,w0⟩
   rintro n s5 ⟨i,σ5,H5,I5,st5,fr5,w5⟩
   rw[←eP,←eW,←eE,←eA]
   rcases turn i n σ5 H5 w5 with⟨stop,qn⟩ | ⟨go,step⟩
   · refine thn (T'.done X' rfl rfl rfl eC i [] s5 σ5 H5 F0 I5 (stat fr5) st5 stop) fun r s6 ⟨hr,I6⟩=>?_
     subst hr
     have un:Un (frs X.stack) fp H2 H5 s2.heap s6.heap:=by
       have u1:Un (frs X.stack) fp H2 (upd H2 D (.lst [])) s2.heap h3:=Un.laid keep23 (Nat.le_of_eq hD) hDn
       have u2:=I6.base
       rw[←hX'] at u2
       exact u1.trans u2
     have hpx:HOk X.prog X.w H5 s6.heap:=by have q:=I6.hok;rw[eP,eW] at q;exact q
     have hos:s6.os=s2.os:=by have q:=I6.os;rw[←hX'] at q;exact q
     have IX:Inv X pins σ H5 s6:=I2.call' (ch:=fp) hos un hpx I6.bare fun b hb=>⟨(f2 b hb).2.2.2.1,(f2 b hb).2.1,(f2 b hb).2.2.2.2.1,(f2 b hb).2.2.2.2.2⟩
     obtain⟨m,hm,_⟩:=I6.loc
     have hloc:X'.env.locals=h3.objs.size:=by rw[eE];rfl
     rw[hloc] at hm
     have hle:s2.heap.objs.size<=h3.objs.size:=by rw[hD,hsz3];exact Rm _
     refine hRR D h3.objs.size s6 H5 m IX qn (I2.fpOk hle ?_) hm
     have q:=I6.free
     rw[hloc] at q
     exact q
   · refine thn (T'.item X' rfl rfl rfl eC i [] s5 σ5 H5 F0 I5 (stat fr5) st5 go) fun r s6 ⟨u,hr,h6⟩=>?_
     subst hr
     refine thn h6 fun _ s7 ⟨x,H7,I7,r7,y7,st7,fr7⟩=>?_
     have I7':=I7.pinned (stat fr7) (T.obj _ _ st7)
     have xe0:X'.xe=F0:=eX
     have conv:∀ {α:Type} {t:Sem α} {Q:α->Shared->Prop} {s:Shared},wpAny (model X'.prog X'.w) X'.A t Q X'.xe s->wpAny (model X'.prog X'.w) X'.A t Q F0 s:=fun h=>by rw[xe0] at h;exact h
     refine thn (conv (hgX _ s7 σ5 H7 x u _ I7' r7 (step x H7 y7))) fun _ s8 ⟨σ8,H8,I8,q8⟩=>?_
     refine thn (conv (hiX _ s8 σ8 H8 _ I8 q8)) fun ok s9 ⟨H9,I9,q9⟩=>?_
     have again:∀ {σz:St} {Hz:Hp} {sz:Shared} {k':Nat},Inv X' ([]++zZe fp s7.heap) σz Hz sz->k' < n->W (i+1) k' σz Hz->∃m,m < n/\∃i σ' H',Inv X' [] σ' H' sz/\tn i sz.heap/\(∀b∈fp,H' b=none)/\W i m σ' H':=fun {σz Hz sz k'} Iz hk wz=>by
       refine⟨k',hk,i+1,σz,Hz,Iz.unpinned,T.keep _ _ _ st7 fun b hb o e=>(Iz.pin (b,o) (Wv _ (Wv _ (lO hb e)))).1,fun b hb=>?_,wz⟩
       obtain⟨o,e,d⟩:=T.obj _ _ st7 b hb
       exact(Iz.pin (b,o) (Wv _ (Wv _ (lO hb e)))).2.1
     cases ok with
     | false =>
       rw[Wd (by decide)] at q9
       rw[Wd (by decide)]
       obtain⟨k',hk,wz⟩:=q9
       exact again I9 hk wz
     | true =>
       rw[Qn rfl] at q9
       rw[Qn rfl]
       refine thn (conv (heX _ s9 σ8 H9 _ I9 q9)) fun v s10 ⟨y,H10,I10,r10,ys,k',hys,hl,hk,wz⟩=>?_
       refine thn (conv (pZ (X:=X') _ s10 σ8 H10 (.ref D) [y] (.ref D) [v] (fun z Hz=>W (i+1) k' σ8 Hz) I10 rfl (.cons r10 .nil) ⟨D,ys,y,rfl,rfl,hys,hl,wz⟩)) fun _ s11 ⟨_,H11,I11,_,q11⟩=>?_
       exact again I11 hk q11
 rw[show s2.heap.objs.size=D from hD] at *
 exact codeAny_compStart_list (loop _ rfl) (T.self _ 0 _ _ _ (T.keep 0 _ _ st2 fun b _ o e=>keep34 b o (keep23 b o e)) (loop _ rfl))
def zO0 (wi:TI)(m:Nat)(js:List Nat)(g:TG)(tc:TT)(te:TE):TE:=fun σ H Q=>wi σ H fun J H1=>zKs J m js g tc te σ H1 Q
theorem zZ3 (ok:X.Ok)(hsc:X.env.scope=sc)(hok:mF sc scope X.N tgs frees js=true):closureFor scope X.env=pure (iJ X.env scope.names []) :=
 zTC fun p hp e=>ok.has p.1 (by
   show X.env.scope.names.lookup p.1=_∨X.env.scope.names.lookup p.1=_
   rw[hsc];exact(sS hok).2.2.1 p hp e)
theorem zN5 (sc:Scope)(tgs frees:List Str)(js:List Nat){wi:TI}(hp:PI X tg iter wi)(hc:X.calm=true)(hsc:X.env.scope=sc)(hok:mF sc scope X.N tgs frees js=true)
   (hg:∀C s₀ H₀ fp,PG (vH X (tgs++frees) scope C s₀ H₀ fp) tg g) (hi:∀C s₀ H₀ fp,zSX (vH X (tgs++frees) scope C s₀ H₀ fp) ifs tc) (he:∀C s₀ H₀ fp,PE (vH X (tgs++frees) scope C s₀ H₀ fp) elt te)
   (hs:∀x,foldedSetIterable iter X.env x=pure x:=by intro _;rfl) :
   PE X (.ListComp elt [⟨tg,iter,ifs,0⟩] scope pos) (zO0 wi tgs.length js g tc te):=by
 intro pins s σ H Q I h
 obtain⟨k1,k2,k3,k4,k5,k6,k7⟩:=sS hok
 rw[eval_ListComp]
 refine wpAny_comprehension_free (use:=none) rfl hs (zZ3 I.ok hsc hok) k1 k4 (thn (hp pins s σ H _ I h) fun v s1 h1=>thn h1 fun itv s2 h2=>?_)
 obtain⟨it,fp,tn,J,H2,e,I2,T,st2,f2,hw⟩:=h2
 subst e
 refine zZb (RR:=fun acc C=>compPost (model X.prog X.w) X.A X.xe none (EP X pins σ Q) acc C) I2 T st2 f2 hc hsc hok hg hi he hw ?_
 intro D C s' H' m I' q fC hn
 refine⟨m,hn,fun h' hs'=>⟨.ref D,H',?_,rfl,q⟩⟩
 obtain⟨c0,c1,c2,c3,c4,c5⟩:=fC
 exact I'.turned (t':=s'.toks) (fun b o hb e=>hs'.extBut b o hb e) c0 c1 c3 c4 c5
theorem zSZ (sc:Scope)(tgs frees:List Str)(js:List Nat){wi:TI}{i:Nat}{x:Str}{pos' spos:Pos}(hN:X.N.Nodup)(hx:X.N[i]?=some x)(hl:X.env.scope.names.lookup x=some .local)
   (hp:PI X tg iter wi) (hc:X.calm=true) (hsc:X.env.scope=sc) (hok:mF sc scope X.N tgs frees js=true)
   (hg:∀C s₀ H₀ fp,PG (vH X (tgs++frees) scope C s₀ H₀ fp) tg g) (hi:∀C s₀ H₀ fp,zSX (vH X (tgs++frees) scope C s₀ H₀ fp) ifs tc) (he:∀C s₀ H₀ fp,PE (vH X (tgs++frees) scope C s₀ H₀ fp) elt te)
   (hsw:swapsWith (.ListComp elt [⟨tg,iter,ifs,0⟩] scope pos) (some (.Name x pos')) spos.line X.env=pure true:=by with_unfolding_all rfl) (hs:∀x,foldedSetIterable iter X.env x=pure x:=by intro _;rfl) :
   PS X (.Assign [.Name x pos'] (.ListComp elt [⟨tg,iter,ifs,0⟩] scope pos) spos) (zR8 (zO0 wi tgs.length js g tc te) (zU8 i)):=by
 intro pins s σ H D I h
 obtain⟨k1,k2,k3,k4,k5,k6,k7⟩:=sS hok
 rw[exec_Assign_Name_used _ _ _ _ hsw]
 refine Qw (Yn (Qw ?_))
 show wpAny _ X.A (do let _ ←comprehension (.ListComp elt [⟨tg,iter,ifs,0⟩] scope pos) scope X.env _ (newList []) false (eval iter X.env) (some (assign (.Name x pos') X.env))) _ _ s
 refine Qw (Rq (wpAny_comprehension_free (use:=some (assign (.Name x pos') X.env)) (Q:=fun _ s'=>SP X pins D .next s') rfl hs (zZ3 I.ok hsc hok) k1 k4
   (thn (hp pins s σ H _ I h) fun v s1 h1=>thn h1 fun itv s2 h2=>?_)) (fun _ s' hq=>Qi (Qi hq)) fun _ _ e=>e)
 obtain⟨it,fp,tn,J,H2,e,I2,T,st2,f2,hw⟩:=h2
 subst e
 refine zZb (RR:=fun acc C=>compPost (model X.prog X.w) X.A X.xe (some (assign (.Name x pos') X.env)) (fun _ s'=>SP X pins D .next s') acc C) I2 T st2 f2 hc hsc hok hg hi he hw ?_
 intro D' C s' H' m I' q fC hn
 obtain⟨c0,c1,c2,c3,c4,c5⟩:=fC
 show wpAny _ X.A (assign (.Name x pos') X.env (.ref D')) _ _ _
 refine wpAny_assign_Name (cM (v:=V.ref D') I' hN hx (.inl hl) rfl (fun s3 I3 hb=>?_) (.inr hl))
 obtain⟨a,sb,ha⟩:=hb
 have hCa:C≠a:=by
   rcases ha with z | z
   · rw[z];exact c1
   · exact(c4 x a z).symm
 refine⟨m,hn.sameBut sb hCa,fun h' hs'=>⟨_,H',I3.turned (t':=s3.toks) (fun b o hb e=>hs'.extBut b o hb e) c0 c1 c3 c4 c5,q⟩⟩
end
inductive KT where
 | int (i:Int) | tup (l:List KT)
instance:DecidableEq KT:=fun _ _=>Classical.propDecidable _
def zMJ:KT->Int
 | .int i=>hashInt i
 | .tup _=>0
def hK:Nat->KT->Int
 | n+1,.tup ks=>reduceHash (Builtin.Tuple.tupleHashOf (ks.map (hK n)))
 | _,k=>zMJ k
def bE:List KT->List Addr->List Value->List DictEntry
 | k::ks,a::as,u::us=>⟨hK 8 k,.ref a,u⟩::bE ks as us
 | _,_,_=>[]
def mN (a:Addr)(ks:List KT)(as:List Addr)(vs:List V):Heap->Prop:=fun h =>
 ∃us,Vals vs us/\∃o es ep,h.get? a=some o/\o.ExactDict/\o.data = .dict es ep/\es.toList=bE ks as us
inductive D where
 | non | bl (b:Bool) | int (i:Int) | str (x:Str) | tup (ds:List D) | lst (ds:List D) | obj (c:Str) (ns:List Str) (ds:List D)
 /-- an exception of an own class -/
 | exc (c:Str) (ns:List Str) (ds:List D)
 deriving Inhabited
theorem Same.tup {K:PySem.W.Frag}{H H':Hp}{a:Addr}{xs:List V}(e:Same H H')(h:SqT K H a xs):SqT K H' a xs:=by
 rcases h with(h | ⟨o,h⟩) | h
 · exact .inl (.inl (e _ _ h))
 · exact .inl (.inr ⟨o,e _ _ h⟩)
 · exact .inr h
def ClsAt (K:PySem.W.Frag)(c:Str)(C:Addr):Prop:=PySem.W.nsIn K mainGlobals c=some (some (.ref C))
theorem ClsAt.one {K:PySem.W.Frag}{c:Str}{C C':Addr}(h:ClsAt K c C)(h':ClsAt K c C'):C'=C:=by
 have:=h.symm.trans h'
 cases this;rfl
def Xe (C a:Addr)(od:Option Addr):Heap->Prop:=fun h=>∃fs,h.get? a=some { cls:=.ref C,dict:=od,data:=.fields fs }
def Xd (dx:Addr)(fs:List (Str×V)):Heap->Prop:=fun h=>∃mA,h.Ns1 dx mA/\∀f,RelO (fs.lookup f) (mA f)
def XD (G:Hp):Option Addr->List (Str×V)->Prop
 | none,fs=>fs=[]
 | some dx,fs=>G dx=some (.ext (Xd dx fs))
theorem XD.mono {G G':Hp}(e:Same G G'):∀ {od:Option Addr} {fs:List (Str×V)},XD G od fs->XD G' od fs
 | none,_,h=>h
 | some _,_,h=>e _ _ h
mutual
def Rep (K:PySem.W.Frag)(G:Hp):D->V->Prop
 | .non,v=>v = .non
 | .bl b,v=>v = .bl b
 | .int i,v=>v = .int i
 | .str x,v=>v = .str x
 | .tup ds,v=>∃a vs,v = .ref a/\SqT K G a vs/\Reps K G ds vs
 | .lst ds,v=>∃a vs,v = .ref a/\SqL K G a vs/\Reps K G ds vs
 | .obj c ns ds,v=>∃C a dx vs,ClsAt K c C/\v = .ref a/\G a=some (.ins C dx (ns.zip vs))/\ns.length=ds.length/\Reps K G ds vs
 | .exc c ns ds,v=>∃C a od vs,ClsAt K c C/\v = .ref a/\G a=some (.ext (Xe C a od))/\XD G od (ns.zip vs)/\ns.length=ds.length/\Reps K G ds vs
def Reps (K:PySem.W.Frag)(G:Hp):List D->List V->Prop
 | [],vs=>vs=[]
 | d::r,vs=>∃v vr,vs=v::vr/\Rep K G d v/\Reps K G r vr
end
section
variable {K:PySem.W.Frag} {G G':Hp}
mutual
theorem Rep.mono (e:Same G G'):∀(d:D) (v:V),Rep K G d v->Rep K G' d v
 | .non,_,h=>by unfold Rep at h ⊢;exact h
 | .bl _,_,h=>by unfold Rep at h ⊢;exact h
 | .int _,_,h=>by unfold Rep at h ⊢;exact h
 | .str _,_,h=>by unfold Rep at h ⊢;exact h
 | .tup ds,_,h=>by
   unfold Rep at h ⊢
   obtain⟨a,vs,h1,h2,h3⟩:=h
   exact⟨a,vs,h1,e.tup h2,Reps.mono e ds vs h3⟩
 | .lst ds,_,h=>by
   unfold Rep at h ⊢
   obtain⟨a,vs,h1,h2,h3⟩:=h
   exact⟨a,vs,h1,e.seq h2,Reps.mono e ds vs h3⟩
 | .obj C ns ds,_,h=>by
   unfold Rep at h ⊢
   obtain⟨C,a,dx,vs,h0,h1,h2,h4,h3⟩:=h
   exact⟨C,a,dx,vs,h0,h1,e _ _ h2,h4,Reps.mono e ds vs h3⟩
 | .exc C ns ds,_,h=>by
   unfold Rep at h ⊢
   obtain⟨C,a,od,vs,h0,h1,h2,h5,h4,h3⟩:=h
   exact⟨C,a,od,vs,h0,h1,e _ _ h2,h5.mono e,h4,Reps.mono e ds vs h3⟩
theorem Reps.mono (e:Same G G'):∀(ds:List D) (vs:List V),Reps K G ds vs->Reps K G' ds vs
 | [],_,h=>by unfold Reps at h ⊢;exact h
 | d::r,_,h=>by
   unfold Reps at h ⊢
   obtain⟨v,vr,h1,h2,h3⟩:=h
   exact⟨v,vr,h1,Rep.mono e d v h2,Reps.mono e r vr h3⟩
end
theorem vD {v:V}:Rep K G .non v↔v = .non:=by unfold Rep;exact Oe
theorem wX {b:Bool}{v:V}:Rep K G (.bl b) v↔v = .bl b:=by unfold Rep;exact Oe
theorem zB {i:Int}{v:V}:Rep K G (.int i) v↔v = .int i:=by unfold Rep;exact Oe
theorem yI {x:Str}{v:V}:Rep K G (.str x) v↔v = .str x:=by unfold Rep;exact Oe
theorem xI {ds:List D}{v:V}:Rep K G (.tup ds) v↔∃a vs,v = .ref a/\SqT K G a vs/\Reps K G ds vs:=by
 constructor<;>(intro h;unfold Rep at *;exact h)
theorem xH {ds:List D}{v:V}:Rep K G (.lst ds) v↔∃a vs,v = .ref a/\SqL K G a vs/\Reps K G ds vs:=by
 constructor<;>(intro h;unfold Rep at *;exact h)
theorem zZM {c:Str}{ns:List Str}{ds:List D}{v:V}:Rep K G (.obj c ns ds) v↔∃C a dx vs,ClsAt K c C/\v = .ref a/\G a=some (.ins C dx (ns.zip vs))/\ns.length=ds.length/\Reps K G ds vs:=by
 constructor<;>(intro h;unfold Rep at *;exact h)
theorem lF {c:Str}{ns:List Str}{ds:List D}{v:V}:Rep K G (.exc c ns ds) v↔∃C a od vs,ClsAt K c C/\v = .ref a/\G a=some (.ext (Xe C a od))/\XD G od (ns.zip vs)/\ns.length=ds.length/\Reps K G ds vs:=by
 constructor<;>(intro h;unfold Rep at *;exact h)
theorem yR {vs:List V}:Reps K G [] vs↔vs=[]:=by unfold Reps;exact Oe
theorem z9 {d:D}{r:List D}{vs:List V}:Reps K G (d::r) vs↔∃v vr,vs=v::vr/\Rep K G d v/\Reps K G r vr:=by
 rw[Reps]
theorem Reps.length:∀ {ds:List D} {vs:List V},Reps K G ds vs->ds.length=vs.length
 | [],_,h=>by rw[yR] at h;rw[h];rfl
 | d::r,_,h=>by
   rw[z9] at h
   obtain⟨v,vr,rfl,_,h3⟩:=h
   rw[Qp,Qp,Reps.length h3]
theorem Reps.get:∀ {ds:List D} {vs:List V} {i:Nat} {d:D},Reps K G ds vs->ds[i]?=some d->∃v,vs[i]?=some v/\Rep K G d v
 | [],_,_,_,_,e=>by simp at e
 | d::r,_,0,_,h,e=>by
   rw[z9] at h
   obtain⟨v,vr,rfl,h2,h3⟩:=h
   simp at e;subst e
   exact⟨v,rfl,h2⟩
 | d::r,_,i+1,_,h,e=>by
   rw[z9] at h
   obtain⟨v,vr,rfl,h2,h3⟩:=h
   obtain⟨u,e1,e2⟩:=Reps.get h3 (by simpa using e)
   exact⟨u,by simpa using e1,e2⟩
theorem Reps.snoc:∀ {ds:List D} {vs:List V} {d:D} {v:V},Reps K G ds vs->Rep K G d v->Reps K G (ds++[d]) (vs++[v])
 | [],_,d,v,h,r=>by
   rw[yR] at h;subst h
   exact z9.mpr ⟨v,[],rfl,r,yR.mpr rfl⟩
 | e::t,_,d,v,h,r=>by
   rw[z9] at h
   obtain⟨u,vr,rfl,h2,h3⟩:=h
   exact z9.mpr ⟨u,vr++[v],rfl,h2,h3.snoc r⟩
theorem Reps.append:∀ {ds es:List D} {vs us:List V},Reps K G ds vs->Reps K G es us->Reps K G (ds++es) (vs++us)
 | [],_,_,_,h,r=>by rw[yR] at h;subst h;exact r
 | e::t,_,_,us,h,r=>by
   rw[z9] at h
   obtain⟨u,vr,rfl,h2,h3⟩:=h
   exact z9.mpr ⟨u,vr++us,rfl,h2,h3.append r⟩
theorem Reps.take:∀ {ds:List D} {vs:List V} (n:Nat),Reps K G ds vs->Reps K G (ds.take n) (vs.take n)
 | _,_,0,_=>by rw[List.take_zero,List.take_zero];exact yR.mpr rfl
 | [],_,_+1,h=>by rw[yR] at h;subst h;exact yR.mpr rfl
 | e::t,_,n+1,h=>by
   rw[z9] at h
   obtain⟨u,vr,rfl,h2,h3⟩:=h
   exact z9.mpr ⟨u,vr.take n,rfl,h2,h3.take n⟩
theorem Reps.drop:∀ {ds:List D} {vs:List V} (n:Nat),Reps K G ds vs->Reps K G (ds.drop n) (vs.drop n)
 | _,_,0,h=>h
 | [],_,_+1,h=>by rw[yR] at h;subst h;exact yR.mpr rfl
 | e::t,_,n+1,h=>by
   rw[z9] at h
   obtain⟨u,vr,rfl,h2,h3⟩:=h
   exact h3.drop n
theorem Reps.set:∀ {ds:List D} {vs:List V} {d:D} {v:V} (i:Nat),Reps K G ds vs->Rep K G d v->Reps K G (ds.set i d) (vs.set i v)
 | [],_,_,_,_,h,_=>by rw[yR] at h;subst h;exact yR.mpr rfl
 | e::t,_,d,v,0,h,r=>by
   rw[z9] at h
   obtain⟨u,vr,rfl,h2,h3⟩:=h
   exact z9.mpr ⟨v,vr,rfl,r,h3⟩
 | e::t,_,d,v,i+1,h,r=>by
   rw[z9] at h
   obtain⟨u,vr,rfl,h2,h3⟩:=h
   exact z9.mpr ⟨u,vr.set i v,rfl,h2,h3.set i r⟩
theorem Reps.erase:∀ {ds:List D} {vs:List V} (i:Nat),Reps K G ds vs->Reps K G (ds.eraseIdx i) (vs.eraseIdx i)
 | [],_,_,h=>by rw[yR] at h;subst h;exact yR.mpr rfl
 | e::t,_,0,h=>by
   rw[z9] at h
   obtain⟨u,vr,rfl,h2,h3⟩:=h
   exact h3
 | e::t,_,i+1,h=>by
   rw[z9] at h
   obtain⟨u,vr,rfl,h2,h3⟩:=h
   exact z9.mpr ⟨u,vr.eraseIdx i,rfl,h2,h3.erase i⟩
end
structure Step (G H G' H':Hp):Prop where
 hh:Same H H'
 gg:Same G G'
 sub:Same G' H'
 new:∀a,H a≠none->G' a=G a
theorem Step.refl {G H:Hp}(h:Same G H):Step G H G H:=⟨Same.refl _,Same.refl _,h,fun _ _=>rfl⟩
theorem Step.trans {G H G1 H1 G2 H2:Hp}(a:Step G H G1 H1)(b:Step G1 H1 G2 H2):Step G H G2 H2 :=
 ⟨a.hh.trans b.hh,a.gg.trans b.gg,b.sub,fun c hc=>(b.new c (fun z=>hc (a.hh.free z))).trans (a.new c hc)⟩
theorem Same.new {H:Hp}{p:Addr}{o:HO}(hp:H p=none):Same H (upd H p o):=fun b u e=>by rw[yQ (yJ e hp)];exact e
theorem Step.laid {G H:Hp}{p:Addr}{o:HO}(s:Same G H)(hp:H p=none):Step G H (upd G p o) (upd H p o):=by
 refine⟨Same.new hp,Same.new (s.free hp),fun b u e=>?_,fun a ha=>?_⟩
 · by_cases hb:b=p
   · subst hb;rw[zC] at e ⊢;exact e
   · rw[yQ hb] at e ⊢;exact s b u e
 · exact yQ (fun z:a=p=>ha (by rw[z];exact hp))
theorem Step.own {G H:Hp}{p:Addr}{o:HO}(s:Same G H)(hp:H p=none):Step G H G (upd H p o) :=
 ⟨Same.new hp,Same.refl _,s.trans (Same.new hp),fun _ _=>rfl⟩
theorem Step.frz {G H G' H':Hp}{p:Addr}{o:HO}(s:Step G H G' H')(hp:H p=none)(h':H' p=some o)(g':G' p=none):Step G H (upd G' p o) H':=by
 refine⟨s.hh,s.gg.trans (Same.new g'),fun b u e=>?_,fun a ha=>?_⟩
 · by_cases hb:b=p
   · subst hb;rw[zC] at e;rw[h'];exact e
   · rw[yQ hb] at e;exact s.sub b u e
 · rw[yQ (fun z:a=p=>ha (by rw[z];exact hp))];exact s.new a ha
inductive B where
 | no | fz (d:D) | ow (ds:List D)
 /-- a dict of its own: keys and values -/
 | od (kvs:List (D×D))
 deriving Inhabited
def bL (f:D->Option KT):List D->Option (List KT)
 | []=>some []
 | d::r=>(f d).bind fun k=>(bL f r).map fun ks=>k::ks
def ktD:Nat->D->Option KT
 | _,.int i=>some (.int i)
 | _,.bl b=>some (.int (if b then 1 else 0))
 | n+1,.tup ds=>(bL (ktD n) ds).map .tup
 | _,_=>none
inductive ODs (K:PySem.W.Frag)(G:Hp):List (D×D)->List KT->List Addr->List V->Prop
 | nil:ODs K G [] [] [] []
 | cons {d e:D} {k:KT} {a:Addr} {v:V} {kvs:List (D×D)} {ks:List KT} {as:List Addr} {vs:List V}:ktD 8 d=some k->Rep K G d (.ref a)->Rep K G e v->ODs K G kvs ks as vs->ODs K G ((d,e)::kvs) (k::ks) (a::as) (v::vs)
theorem ODs.mono {K:PySem.W.Frag}{G G':Hp}(h:Same G G'):∀ {kvs ks as vs},ODs K G kvs ks as vs->ODs K G' kvs ks as vs
 | _,_,_,_,.nil=>.nil
 | _,_,_,_,.cons h1 h2 h3 h4=>.cons h1 (h2.mono h) (h3.mono h) (ODs.mono h h4)
inductive RB (K:PySem.W.Frag)(H0 G H:Hp):Option V->B->Prop where
 | no {o:Option V}:RB K H0 G H o .no
 | fz {v:V} {d:D}:Rep K G d v->RB K H0 G H (some v) (.fz d)
 | ow {a:Addr} {vs:List V} {ds:List D}:H a=some (.lst vs)->G a=none->H0 a=none->Reps K G ds vs->RB K H0 G H (some (.ref a)) (.ow ds)
 | od {a:Addr} {kvs:List (D×D)} {ks:List KT} {as:List Addr} {vs:List V}:H a=some (.ext (mN a ks as vs))->G a=none->H0 a=none->ODs K G kvs ks as vs->ks.Nodup->(a==sysModules)=false->RB K H0 G H (some (.ref a)) (.od kvs)
structure Good (K:PySem.W.Frag)(G0 H0 G H:Hp)(σ:St)(ρ:List B):Prop where
 st:Step G0 H0 G H
 vals:Paired (RB K H0 G H) σ ρ
 apart:∀(i j:Nat) (a:Addr) (ds es:List D),ρ[i]?=some (.ow ds)->ρ[j]?=some (.ow es)->σ[i]?=some (some (.ref a))->σ[j]?=some (some (.ref a))->i=j
theorem Paired.get {α β:Type}{F:α->β->Prop}:∀ {l:List α} {r:List β} {i:Nat} {b:β},Paired F l r->r[i]?=some b->∃a,l[i]?=some a/\F a b
 | _,_,_,_,.nil,e=>by simp at e
 | _,_,0,_,.cons h _,e=>by simp at e;subst e;exact⟨_,rfl,h⟩
 | _,_,i+1,b,.cons _ t,e=>by
   obtain⟨a,h1,h2⟩:=Paired.get (i:=i) (b:=b) t (by simpa using e)
   exact⟨a,by simpa using h1,h2⟩
theorem Paired.set {α β:Type}{F:α->β->Prop}{a:α}{b:β}(h:F a b):∀ {l:List α} {r:List β} (i:Nat),Paired F l r->Paired F (l.set i a) (r.set i b)
 | _,_,_,.nil=>.nil
 | _,_,0,.cons _ t=>.cons h t
 | _,_,i+1,.cons q t=>.cons q (Paired.set h i t)
theorem RB.step {K:PySem.W.Frag}{H0 G H G' H':Hp}{o:Option V}{b:B}(r:RB K H0 G H o b)(s:Step G H G' H'):RB K H0 G' H' o b:=by
 cases r with
 | no=>exact .no
 | fz q=>exact .fz (q.mono s.gg)
 | ow h1 h2 h3 h4=>exact .ow (s.hh _ _ h1) ((s.new _ (by rw[h1];exact fun z=>nomatch z)).trans h2) h3 (h4.mono s.gg)
 | od h1 h2 h3 h4 h5 h6=>exact .od (s.hh _ _ h1) ((s.new _ (by rw[h1];exact fun z=>nomatch z)).trans h2) h3 (h4.mono s.gg) h5 h6
theorem Good.step {K:PySem.W.Frag}{G0 H0 G H G' H':Hp}{σ:St}{ρ:List B}(g:Good K G0 H0 G H σ ρ)(s:Step G H G' H'):Good K G0 H0 G' H' σ ρ :=
 ⟨g.st.trans s,Paired.mapP g.vals fun _ _ r=>r.step s,g.apart⟩
theorem Good.sub {K:PySem.W.Frag}{G0 H0 G H:Hp}{σ:St}{ρ:List B}(g:Good K G0 H0 G H σ ρ):Same G H:=g.st.sub
abbrev Ef:=List B->Option D
def tF (K:PySem.W.Frag)(f:Ef):TE:=fun σ H Q=>∃G0 H0 G ρ d,Good K G0 H0 G H σ ρ/\f ρ=some d/\∀v H' G',Step G H G' H'->Rep K G' d v->Q v H'
def PF (X:Cx)(e:Expr)(f:Ef):Prop:=PE X e (tF X.K f)
theorem PE.to {X:Cx}{e:Expr}{t:TE}{f:Ef}(h:PE X e t)(imp:∀σ H Q,tF X.K f σ H Q->t σ H Q):PF X e f:=fun pins s σ H Q I q=>h pins s σ H Q I (imp σ H Q q)
abbrev Lf:=List B->Option (List D)
def tFr (K:PySem.W.Frag)(f:Lf):TE:=fun σ H Q=>∃G0 H0 G ρ ds,Good K G0 H0 G H σ ρ/\f ρ=some ds/\∀a vs H' G',Step G H G' H'->H a=none->H' a=some (.lst vs)->G' a=none->Reps K G' ds vs->Q (.ref a) H'
def PFr (X:Cx)(e:Expr)(f:Lf):Prop:=PE X e (tFr X.K f)
theorem PE.toR {X:Cx}{e:Expr}{t:TE}{f:Lf}(h:PE X e t)(imp:∀σ H Q,tFr X.K f σ H Q->t σ H Q):PFr X e f:=fun pins s σ H Q I q=>h pins s σ H Q I (imp σ H Q q)
def eL (f:Lf):Ef:=fun ρ=>(f ρ).map .lst
theorem vN {X:Cx}{e:Expr}{f:Lf}(h:PFr X e f):PF X e (eL f):=by
 refine PE.to h ?_
 rintro σ H Q ⟨G0,H0,G,ρ,d,good,hf,k⟩
 unfold eL at hf
 obtain⟨ds,h1,rfl⟩:=Qt.mp hf
 refine⟨G0,H0,G,ρ,ds,good,h1,fun a vs H' G' s hn ha ga rs=>?_⟩
 exact k _ _ (upd G' a (.lst vs)) (s.frz hn ha ga) (xH.mpr ⟨a,vs,rfl,.of zC,rs.mono (Same.new ga)⟩)
abbrev Tf:=List B->Option Bool
def tFT (K:PySem.W.Frag)(f:Tf):TT:=fun σ H Q=>∃G0 H0 G ρ b,Good K G0 H0 G H σ ρ/\f ρ=some b/\∀H' G',Step G H G' H'->Q b H'
def PFT (X:Cx)(e:Expr)(f:Tf):Prop:=PT X e (tFT X.K f)
theorem PT.to {X:Cx}{e:Expr}{t:TT}{f:Tf}(h:PT X e t)(imp:∀σ H Q,tFT X.K f σ H Q->t σ H Q):PFT X e f:=fun pins s σ H Q I q=>h pins s σ H Q I (imp σ H Q q)
def PFW (X:Cx)(e:Expr)(f:Tf):Prop:=PW X e (tFT X.K f)
def tFA (K:PySem.W.Frag)(f:Lf):TA:=fun σ H Q=>∃G0 H0 G ρ ds,Good K G0 H0 G H σ ρ/\f ρ=some ds/\∀vs H' G',Step G H G' H'->Reps K G' ds vs->Q vs H'
def PFA (X:Cx)(es:List Expr)(f:Lf):Prop:=PA X es (tFA X.K f)
theorem PA.to {X:Cx}{es:List Expr}{t:TA}{f:Lf}(h:PA X es t)(imp:∀σ H Q,tFA X.K f σ H Q->t σ H Q):PFA X es f:=fun pos pins s σ H Q I q=>h pos pins s σ H Q I (imp σ H Q q)
section
variable {X:Cx} {a b c e:Expr} {es:List Expr} {fa fb fc:Ef} {ga gb:Lf} {ta tb:Tf} {pos:Pos}
def qI (ρ:List B)(i:Nat):Option D:=match ρ[i]? with | some (.fz d)=>some d | _=>none
def eV (i:Nat):Ef:=fun ρ=>qI ρ i
theorem zRh {K:PySem.W.Frag}{G0 H0 G H:Hp}{σ:St}{ρ:List B}{i:Nat}{d:D}(g:Good K G0 H0 G H σ ρ)(h:qI ρ i=some d):∃v,σ[i]?=some (some v)/\Rep K G d v:=by
 unfold qI at h
 split at h
 · rename_i d' e
   cases h
   obtain⟨o,h1,r⟩:=Paired.get g.vals e
   cases r with
   | fz r=>exact⟨_,h1,r⟩
 · cases h
theorem zT (i:Nat){x:Str}(hN:X.N[i]?=some x:=by rfl)(hv:Vis X.env.scope x:=by first | exact Or.inl rfl | exact Or.inr (Or.inl rfl) | exact Or.inr (Or.inr rfl))(hd:(x==("__debug__":Str))=false:=by decide)(hcd:(x==("__classdict__":Str))=false:=by decide):PF X (.Name x pos) (eV i):=by
 refine PE.to (pK hN hv hd hcd) ?_
 rintro σ H Q ⟨G0,H0,G,ρ,d,good,hf,k⟩
 obtain⟨v,h1,r⟩:=zRh good hf
 exact⟨v,h1,k v H G (.refl good.sub) r⟩
def eC (d:D):Ef:=fun _=>some d
theorem cL {v:V}{d:D}(h:PE X e (tC v))(r:∀G,Rep X.K G d v):PF X e (eC d):=by
 refine PE.to h ?_
 rintro σ H Q ⟨G0,H0,G,ρ,d',good,hf,k⟩
 cases hf
 exact k v H G (.refl good.sub) (r G)
theorem zW {i:Int}{j:Nat}:PF X (.Constant (.int i) j pos) (eC (.int i)):=cL zMh fun _=>zB.mpr rfl
theorem wN {i:Bool}{j:Nat}:PF X (.Constant (.bool i) j pos) (eC (.bl i)):=cL zK9 fun _=>wX.mpr rfl
theorem wU {j:Nat}:PF X (.Constant .none j pos) (eC .non):=cL zQr fun _=>vD.mpr rfl
theorem uX {x:Str}{j:Nat}:PF X (.Constant (.str x) j pos) (eC (.str x)):=cL zLn fun _=>yI.mpr rfl
theorem lA {x y:Str}{t:Tok}(hg:Gl X x)(hm:X.mg x=some (.str y t))(hd:(x==("__debug__":Str))=false:=by decide):PF X (.Name x pos) (eC (.str y)):=cL (cU (v:=.str y) hg hm ⟨t,rfl⟩ hd) fun _=>yI.mpr rfl
theorem zNr {x:Str}{i:Int}{t:Tok}(hg:Gl X x)(hm:X.mg x=some (.int i t))(hd:(x==("__debug__":Str))=false:=by decide):PF X (.Name x pos) (eC (.int i)):=cL (cU (v:=.int i) hg hm ⟨t,rfl⟩ hd) fun _=>zB.mpr rfl
def eI (C:Int->Int->Bool)(g:Int->Int->Int)(fa fb:Ef):Ef:=fun ρ=>(fa ρ).bind fun x=>(fb ρ).bind fun y=>match x,y with | .int i,.int j=>if C i j then some (.int (g i j)) else none | _,_=>none
theorem zOA {C:Int->Int->Bool}{g:Int->Int->Int}{ρ:List B}{d:D}(h:eI C g fa fb ρ=some d):∃i j,fa ρ=some (.int i)/\fb ρ=some (.int j)/\C i j=true/\d = .int (g i j):=by
 unfold eI at h
 obtain⟨x,h1,h⟩:=Qq.mp h
 obtain⟨y,h2,h⟩:=Qq.mp h
 cases x with
 | int i =>
   cases y with
   | int j =>
     dsimp only at h
     split at h
     · rename_i hc;cases h;exact⟨i,j,h1,h2,hc,rfl⟩
     · cases h
   | _=>cases h
 | _=>cases h
theorem zLx {op:Operator}{C:Int->Int->Bool}{P:Int->Int->Prop}{g:Int->Int->Int}(ho:OpR X (binaryOp op) (rI P fun i j=>.int (g i j)))(hP:∀i j,C i j=true->P i j)(ha:PF X a fa)(hb:PF X b fb):PF X (.BinOp a op b pos) (eI C g fa fb):=by
 refine PE.to (zWW ho ha hb) ?_
 rintro σ H Q ⟨G0,H0,G,ρ,d,good,hf,k⟩
 obtain⟨i,j,h1,h2,hc,rfl⟩:=zOA hf
 refine⟨G0,H0,G,ρ,_,good,h1,fun x H1 G1 s1 r1=>⟨G0,H0,G1,ρ,_,good.step s1,h2,fun y H2 G2 s2 r2=>?_⟩⟩
 exact⟨i,j,zB.mp r1,zB.mp r2,hP i j hc,k _ _ G2 (s1.trans s2) (zB.mpr rfl)⟩
theorem zPH {op:Operator}{g:Int->Int->Int}(ho:OpR X (binaryOp op) (rI0 fun i j=>.int (g i j)))(ha:PF X a fa)(hb:PF X b fb):PF X (.BinOp a op b pos) (eI (fun _ _=>true) g fa fb):=by
 refine PE.to (zWW ho ha hb) ?_
 rintro σ H Q ⟨G0,H0,G,ρ,d,good,hf,k⟩
 obtain⟨i,j,h1,h2,hc,rfl⟩:=zOA hf
 refine⟨G0,H0,G,ρ,_,good,h1,fun x H1 G1 s1 r1=>⟨G0,H0,G1,ρ,_,good.step s1,h2,fun y H2 G2 s2 r2=>?_⟩⟩
 exact⟨i,j,zB.mp r1,zB.mp r2,k _ _ G2 (s1.trans s2) (zB.mpr rfl)⟩
abbrev lW:=eI (fun _ _=>true) (fun i j=>i+j)
abbrev rF:=eI (fun _ _=>true) (fun i j=>i - j)
def zVL (i j:Int):Bool:=(decide (-(2^64) < i)&&decide (i < 2^64))||(decide (-(2^64) < j)&&decide (j < 2^64))
abbrev zYd:=eI zVL (fun i j=>i*j)
def zWc (_ j:Int):Bool:=decide (0 < j)&&decide (j < 1073741824)
abbrev rZ:=eI zWc (fun i j=>i / j)
abbrev uC:=eI (fun _ j=>decide (0 < j)) (fun i j=>i % j)
abbrev zW6:=eI (fun _ _=>true) (fun i j=>Builtin.bitXor i j)
theorem rB (ha:PF X a fa)(hb:PF X b fb):PF X (.BinOp a .Add b pos) (lW fa fb):=zPH zO1 ha hb
theorem nF (ha:PF X a fa)(hb:PF X b fb):PF X (.BinOp a .Sub b pos) (rF fa fb):=zPH zLB ha hb
theorem fW (ha:PF X a fa)(hb:PF X b fb):PF X (.BinOp a .Mult b pos) (zYd fa fb):=zLx zLf (fun i j h=>by
 unfold zVL at h
 simp only[En,Qx,Wc] at h
 exact h) ha hb
theorem uK (ha:PF X a fa)(hb:PF X b fb):PF X (.BinOp a .FloorDiv b pos) (rZ fa fb):=zLx zOn (fun i j h=>by
 unfold zWc at h
 simp only[Qx,Wc] at h
 exact h) ha hb
theorem vG (ha:PF X a fa)(hb:PF X b fb):PF X (.BinOp a .Mod b pos) (uC fa fb):=zLx zLk (fun i j h=>Ru h) ha hb
theorem zW7 (ha:PF X a fa)(hb:PF X b fb):PF X (.BinOp a .BitXor b pos) (zW6 fa fb):=zPH zMj ha hb
def zNe (fa:Ef):Ef:=fun ρ=>(fa ρ).bind fun x=>match x with | .int i=>some (.int (-i)) | _=>none
theorem zPW (ha:PF X a fa):PF X (.UnaryOp .USub a pos) (zNe fa):=by
 refine PE.to (zKM zMk ha) ?_
 rintro σ H Q ⟨G0,H0,G,ρ,d,good,hf,k⟩
 unfold zNe at hf
 obtain⟨x,h1,hf⟩:=Qq.mp hf
 split at hf
 · rename_i i
   cases hf
   exact⟨G0,H0,G,ρ,_,good,h1,fun x H1 G1 s1 r1=>⟨i,zB.mp r1,k _ _ G1 s1 (zB.mpr rfl)⟩⟩
 · cases hf
def eB2 (g:D->D->Option Bool)(fa fb:Ef):Tf:=fun ρ=>(fa ρ).bind fun x=>(fb ρ).bind fun y=>g x y
def uL (t:Tf):Ef:=fun ρ=>(t ρ).map .bl
def gLt:D->D->Option Bool | .int i,.int j=>some (decide (i < j)) | _,_=>none
def gLe:D->D->Option Bool | .int i,.int j=>some (decide (i<=j)) | _,_=>none
def gGt:D->D->Option Bool | .int i,.int j=>some (decide (j < i)) | _,_=>none
def gEq:D->D->Option Bool
 | .int i,.int j=>some (decide (i=j))
 | .bl i,.bl j=>some (decide (i=j))
 | .str i,.str j=>some (decide (i=j))
 | _,_=>none
def gNe (x y:D):Option Bool:=(gEq x y).map (!·)
def CmR (X:Cx)(op:CmpOp)(g:D->D->Option Bool):Prop:=∃r:R2,OpR X (compareOp op) r/\∀(d d':D) (k:Bool) (G H:Hp) (x y:V) (Q:VK),g d d'=some k->Same G H->Rep X.K G d x->Rep X.K G d' y->(∀H' G',Step G H G' H'->Q (.bl k) H')->r x y H Q
theorem zTd {op:CmpOp}{p:Int->Int->Bool}{g:D->D->Option Bool}(ho:OpR X (compareOp op) (rI0 fun i j=>.bl (p i j)))(hg:∀d d' k,g d d'=some k->∃i j,d = .int i/\d' = .int j/\k=p i j):CmR X op g:=by
 refine⟨_,ho,fun d d' k G H x y Q h s rx ry q=>?_⟩
 obtain⟨i,j,rfl,rfl,rfl⟩:=hg d d' k h
 exact⟨i,j,zB.mp rx,zB.mp ry,q H G (.refl s)⟩
theorem zKv:CmR X .Lt gLt:=zTd zKN fun d d' k h=>by unfold gLt at h;split at h<;>cases h;exact⟨_,_,rfl,rfl,rfl⟩
theorem zMQ:CmR X .LtE gLe:=zTd zLa fun d d' k h=>by unfold gLe at h;split at h<;>cases h;exact⟨_,_,rfl,rfl,rfl⟩
theorem zOC:CmR X .Gt gGt:=zTd zKz fun d d' k h=>by unfold gGt at h;split at h<;>cases h;exact⟨_,_,rfl,rfl,rfl⟩
theorem zPS {d d':D}{k:Bool}{K:PySem.W.Frag}{G:Hp}{x y:V}(h:gEq d d'=some k)(rx:Rep K G d x)(ry:Rep K G d' y):zL4 x y=true/\decide (x=y)=k:=by
 unfold gEq at h
 split at h
 · cases h;rw[zB] at rx ry;subst rx;subst ry;exact⟨rfl,by simp⟩
 · cases h;rw[wX] at rx ry;subst rx;subst ry;exact⟨rfl,by simp⟩
 · cases h;rw[yI] at rx ry;subst rx;subst ry;exact⟨rfl,by simp⟩
 · cases h
theorem uI:CmR X .Eq gEq:=⟨_,zKW,fun d d' k G H x y Q h s rx ry q=>by
 obtain⟨h1,h2⟩:=zPS h rx ry
 exact⟨h1,by rw[h2];exact q H G (.refl s)⟩⟩
theorem gW:CmR X .NotEq gNe:=⟨_,zK2,fun d d' k G H x y Q h s rx ry q=>by
 unfold gNe at h
 obtain⟨k',h',rfl⟩:=Qt.mp h
 obtain⟨h1,h2⟩:=zPS h' rx ry
 exact⟨h1,by rw[h2];exact q H G (.refl s)⟩⟩
theorem zS5 {g:D->D->Option Bool}{ρ:List B}{k:Bool}(h:eB2 g fa fb ρ=some k):∃x y,fa ρ=some x/\fb ρ=some y/\g x y=some k:=by
 unfold eB2 at h
 obtain⟨x,h1,h⟩:=Qq.mp h
 obtain⟨y,h2,h⟩:=Qq.mp h
 exact⟨x,y,h1,h2,h⟩
theorem zYU {t:Tf}{ρ:List B}{d:D}(h:uL t ρ=some d):∃k,t ρ=some k/\d = .bl k:=by
 unfold uL at h
 obtain⟨k,h1,rfl⟩:=Qt.mp h
 exact⟨k,h1,rfl⟩
theorem sZ {op:CmpOp}{g:D->D->Option Bool}(hc:CmR X op g)(ha:PF X a fa)(hb:PF X b fb)(hm:behindInMarks op b=false:=by first | exact zZa _ | (with_unfolding_all rfl)):PF X (.Compare a [op] [b] pos) (uL (eB2 g fa fb)):=by
 obtain⟨r,ho,hr⟩:=hc
 refine PE.to (zOw ho ha hb hm) ?_
 rintro σ H Q ⟨G0,H0,G,ρ,d,good,hf,k⟩
 obtain⟨c,hf2,rfl⟩:=zYU hf
 obtain⟨x,y,h1,h2,h3⟩:=zS5 hf2
 refine⟨G0,H0,G,ρ,_,good,h1,fun u H1 G1 s1 r1=>⟨G0,H0,G1,ρ,_,good.step s1,h2,fun v H2 G2 s2 r2=>?_⟩⟩
 exact hr x y c G2 H2 u v Q h3 s2.sub (r1.mono s2.gg) r2 fun H' G' s3=>k _ _ G' ((s1.trans s2).trans s3) (wX.mpr rfl)
theorem yU {op:CmpOp}{g:D->D->Option Bool}(hc:CmR X op g)(ha:PF X a fa)(hb:PF X b fb)(hm:behindInMarks op b=false:=by first | exact zZa _ | (with_unfolding_all rfl)):PFT X (.Compare a [op] [b] pos) (eB2 g fa fb):=by
 obtain⟨r,ho,hr⟩:=hc
 refine PT.to (zZU ho ha hb hm) ?_
 rintro σ H Q ⟨G0,H0,G,ρ,c,good,hf,k⟩
 obtain⟨x,y,h1,h2,h3⟩:=zS5 hf
 refine⟨G0,H0,G,ρ,_,good,h1,fun u H1 G1 s1 r1=>⟨G0,H0,G1,ρ,_,good.step s1,h2,fun v H2 G2 s2 r2=>?_⟩⟩
 exact hr x y c G2 H2 u v _ h3 s2.sub (r1.mono s2.gg) r2 fun H' G' s3=>⟨c,rfl,k _ G' ((s1.trans s2).trans s3)⟩
def pB:D->Bool | .non=>true | _=>false
theorem zXF {K:PySem.W.Frag}{G:Hp}{d:D}{v:V}(r:Rep K G d v):decide (v = .non)=pB d:=by
 cases d with
 | non=>rw[vD] at r;subst r;rfl
 | bl b=>rw[wX] at r;subst r;simp[pB]
 | int b=>rw[zB] at r;subst r;simp[pB]
 | str b=>rw[yI] at r;subst r;simp[pB]
 | tup ds=>obtain⟨p,_,rfl,_⟩:=xI.mp r;simp[pB]
 | lst ds=>obtain⟨p,_,rfl,_⟩:=xH.mp r;simp[pB]
 | obj C ns ds=>obtain⟨_,p,_,_,_,rfl,_⟩:=zZM.mp r;simp[pB]
 | exc C ns ds=>obtain⟨_,p,_,_,_,rfl,_⟩:=lF.mp r;simp[pB]
def uB:D->D->Option Bool | d,.non=>some (!pB d) | _,_=>none
theorem jS:CmR X .IsNot uB:=⟨_,zNl,fun d d' k G H x y Q h s rx ry q=>by
 unfold uB at h
 split at h
 · cases h
   refine⟨vD.mp ry,?_⟩
   rw[zXF rx];exact q H G (.refl s)
 · cases h⟩
def tB1 (f:Ef):Tf:=fun ρ=>(f ρ).bind fun x=>match x with | .bl k=>some k | _=>none
theorem zW1 {f:Ef}{ρ:List B}{k:Bool}(h:tB1 f ρ=some k):f ρ=some (.bl k):=by
 unfold tB1 at h
 obtain⟨x,h1,h⟩:=Qq.mp h
 split at h
 · cases h;exact h1
 · cases h
theorem xN (ha:PF X a fa)(he:∀whole,isTrue a X.env whole=(do let v ←whole;standAt a.pos;holding [v] (truthy v)):=by intro _;rfl):PFT X a (tB1 fa):=by
 refine PT.to (zMl ha he) ?_
 rintro σ H Q ⟨G0,H0,G,ρ,c,good,hf,k⟩
 exact⟨G0,H0,G,ρ,_,good,zW1 hf,fun u H1 G1 s1 r1=>⟨c,wX.mp r1,k _ G1 s1⟩⟩
def vM (t:Tf):Tf:=fun ρ=>(t ρ).map (!·)
def kX (t u:Tf):Tf:=fun ρ=>(t ρ).bind fun c=>if c=true then u ρ else some false
def eR (t u:Tf):Tf:=fun ρ=>(t ρ).bind fun c=>if c=true then some true else u ρ
theorem rQ (ha:PFT X a ta):PFT X (.UnaryOp .Not a pos) (vM ta):=by
 refine PT.to (zLX ha) ?_
 rintro σ H Q ⟨G0,H0,G,ρ,c,good,hf,k⟩
 unfold vM at hf
 obtain⟨c',h1,rfl⟩:=Qt.mp hf
 exact⟨G0,H0,G,ρ,_,good,h1,fun H1 G1 s1=>k _ G1 s1⟩
theorem PW.to {t:TT}{f:Tf}(h:PW X e t)(imp:∀σ H Q,tFT X.K f σ H Q->t σ H Q):PFW X e f:=fun whole pins s σ H Q I q=>h whole pins s σ H Q I (imp σ H Q q)
theorem eN (ha:PFT X a ta):PFW X (.BoolOp .And [a] pos) ta:=zOb ha
theorem qO (ha:PFT X a ta):PFW X (.BoolOp .Or [a] pos) ta:=zLZ ha
theorem zZS {rest:List Expr}(ha:PFT X a ta)(hb:PFW X (.BoolOp .And (b::rest) pos) tb):PFW X (.BoolOp .And (a::b::rest) pos) (kX ta tb):=by
 refine PW.to (zM9 ha hb) ?_
 rintro σ H Q ⟨G0,H0,G,ρ,c,good,hf,k⟩
 unfold kX at hf
 obtain⟨c',h1,hf⟩:=Qq.mp hf
 refine⟨G0,H0,G,ρ,_,good,h1,fun H1 G1 s1=>?_⟩
 split at hf
 · rename_i h;rw[Qn h];exact⟨G0,H0,G1,ρ,c,good.step s1,hf,fun H2 G2 s2=>k _ G2 (s1.trans s2)⟩
 · rename_i h;rw[Wd h];cases hf;exact k _ G1 s1
theorem oX {rest:List Expr}(ha:PFT X a ta)(hb:PFW X (.BoolOp .Or (b::rest) pos) tb):PFW X (.BoolOp .Or (a::b::rest) pos) (eR ta tb):=by
 refine PW.to (zK7 ha hb) ?_
 rintro σ H Q ⟨G0,H0,G,ρ,c,good,hf,k⟩
 unfold eR at hf
 obtain⟨c',h1,hf⟩:=Qq.mp hf
 refine⟨G0,H0,G,ρ,_,good,h1,fun H1 G1 s1=>?_⟩
 split at hf
 · rename_i h;rw[Qn h];cases hf;exact k _ G1 s1
 · rename_i h;rw[Wd h];exact⟨G0,H0,G1,ρ,c,good.step s1,hf,fun H2 G2 s2=>k _ G2 (s1.trans s2)⟩
theorem bJ (h:PFW X e ta):PFT X e ta:=h.pt
theorem zTT {op:BoolOp}(h:PF X a fa):PF X (.BoolOp op [a] pos) fa:=zM4 h
def zYW (fa fb:Ef):Ef:=fun ρ=>(tB1 fa ρ).bind fun c=>if c=true then fb ρ else some (.bl false)
theorem zVQ {rest:List Expr}(ha:PF X a fa)(hb:PF X (.BoolOp .And (b::rest) pos) fb):PF X (.BoolOp .And (a::b::rest) pos) (zYW fa fb):=by
 refine PE.to (zM5 ha hb) ?_
 rintro σ H Q ⟨G0,H0,G,ρ,d,good,hf,k⟩
 obtain⟨c,h1,hf⟩:=Qq.mp hf
 refine⟨G0,H0,G,ρ,_,good,zW1 h1,fun u H1 G1 s1 r1=>⟨c,wX.mp r1,?_⟩⟩
 split at hf
 · rename_i h;rw[Qn h];exact⟨G0,H0,G1,ρ,d,good.step s1,hf,fun v H2 G2 s2 r2=>k _ _ G2 (s1.trans s2) r2⟩
 · rename_i h;rw[Wd h];cases hf;exact k _ _ G1 s1 (wX.mpr rfl)
theorem zP4 (ha:PF X a fa):PF X (.UnaryOp .Not a pos) (uL (vM (tB1 fa))):=by
 refine PE.to (zLg ha) ?_
 rintro σ H Q ⟨G0,H0,G,ρ,d,good,hf,k⟩
 obtain⟨c,hf2,rfl⟩:=zYU hf
 unfold vM at hf2
 obtain⟨c',h1,rfl⟩:=Qt.mp hf2
 exact⟨G0,H0,G,ρ,_,good,zW1 h1,fun u H1 G1 s1 r1=>⟨c',wX.mp r1,k _ _ G1 s1 (wX.mpr rfl)⟩⟩
def eIf (t:Tf)(fa fb:Ef):Ef:=fun ρ=>(t ρ).bind fun c=>if c=true then fa ρ else fb ρ
theorem zVw (ht:PFT X c ta)(ha:PF X a fa)(hb:PF X b fb):PF X (.IfExp c a b pos) (eIf ta fa fb):=by
 refine PE.to (zQc ht ha hb) ?_
 rintro σ H Q ⟨G0,H0,G,ρ,d,good,hf,k⟩
 unfold eIf at hf
 obtain⟨c',h1,hf⟩:=Qq.mp hf
 refine⟨G0,H0,G,ρ,_,good,h1,fun H1 G1 s1=>?_⟩
 split at hf
 · rename_i h;rw[Qn h];exact⟨G0,H0,G1,ρ,d,good.step s1,hf,fun v H2 G2 s2 r2=>k _ _ G2 (s1.trans s2) r2⟩
 · rename_i h;rw[Wd h];exact⟨G0,H0,G1,ρ,d,good.step s1,hf,fun v H2 G2 s2 r2=>k _ _ G2 (s1.trans s2) r2⟩
def zR:Lf:=fun _=>some []
def zY (f:Ef)(r:Lf):Lf:=fun ρ=>(f ρ).bind fun d=>(r ρ).map fun ds=>d::ds
theorem zX:PFA X [] zR:=by
 refine PA.to yE ?_
 rintro σ H Q ⟨G0,H0,G,ρ,d,good,hf,k⟩
 cases hf
 exact k [] H G (.refl good.sub) (yR.mpr rfl)
theorem bN {f:Ef}{r:Lf}{ρ:List B}{ds:List D}(h:zY f r ρ=some ds):∃d dr,f ρ=some d/\r ρ=some dr/\ds=d::dr:=by
 unfold zY at h
 obtain⟨d,h1,h⟩:=Qq.mp h
 obtain⟨dr,h2,rfl⟩:=Qt.mp h
 exact⟨d,dr,h1,h2,rfl⟩
theorem zZ (ha:PF X e fa)(hr:PFA X es ga)(hs:starEach (e::es) X.env=(false,eval e X.env)::starEach es X.env:=by rfl):PFA X (e::es) (zY fa ga):=by
 refine PA.to (yV ha hr hs) ?_
 rintro σ H Q ⟨G0,H0,G,ρ,ds,good,hf,k⟩
 obtain⟨d,dr,h1,h2,rfl⟩:=bN hf
 refine⟨G0,H0,G,ρ,_,good,h1,fun u H1 G1 s1 r1=>⟨G0,H0,G1,ρ,_,good.step s1,h2,fun v H2 G2 s2 r2=>?_⟩⟩
 exact k _ _ G2 (s1.trans s2) (z9.mpr ⟨u,v,rfl,r1.mono s2.gg,r2⟩)
abbrev lim:Nat:=100000
theorem wD {n:Nat}(h:n<=lim):n < sizeLine:=Nat.lt_of_le_of_lt h (by decide)
def okL (ds:List D):Option (List D):=if ds.length<=lim then some ds else none
theorem dO {ds es:List D}(h:okL ds=some es):es=ds/\ds.length<=lim:=by
 unfold okL at h
 split at h
 · rename_i q;cases h;exact⟨rfl,q⟩
 · cases h
def yX (g:Lf):Ef:=fun ρ=>((g ρ).bind okL).map .tup
theorem zQ {k:Nat}(h:PFA X es ga):PF X (.Tuple es k pos) (yX ga):=by
 refine PE.to (zM6 h) ?_
 rintro σ H Q ⟨G0,H0,G,ρ,d,good,hf,k⟩
 unfold yX at hf
 obtain⟨ds,h1,rfl⟩:=Qt.mp hf
 obtain⟨es,h1,h2⟩:=Qq.mp h1
 obtain⟨rfl,h3⟩:=dO h2
 refine⟨G0,H0,G,ρ,_,good,h1,fun vs H1 G1 s1 r1=>⟨by rw[←r1.length];exact Wj (wD h3),fun p hp=>?_⟩⟩
 have s2:=Step.laid (o:=.tup vs) s1.sub hp
 exact k _ _ _ (s1.trans s2) (xI.mpr ⟨p,vs,rfl,.of zC,r1.mono s2.gg⟩)
def xS (g:Lf):Lf:=fun ρ=>(g ρ).bind okL
theorem yD (h:PFA X es ga):PFr X (.List es pos) (xS ga):=by
 refine PE.toR (zPI h) ?_
 rintro σ H Q ⟨G0,H0,G,ρ,d,good,hf,k⟩
 unfold xS at hf
 obtain⟨es,h1,h2⟩:=Qq.mp hf
 obtain⟨rfl,h3⟩:=dO h2
 refine⟨G0,H0,G,ρ,_,good,h1,fun vs H1 G1 s1 r1=>⟨by rw[←r1.length];exact Wj (wD h3),fun p hp=>?_⟩⟩
 exact k p vs _ G1 (s1.trans (Step.own s1.sub hp)) (s1.hh.free hp) zC (s1.sub.free hp) r1
def atD (x y:D):Option D:=match x,y with
 | .tup ds,.int i=>atI ds i
 | .lst ds,.int i=>atI ds i
 | .str z,.int i=>if z.length<=lim then(atI z.cps.toList i).map fun c=>.str ⟨#[c]⟩ else none
 | _,_=>none
def eIx (fa fb:Ef):Ef:=fun ρ=>(fa ρ).bind fun x=>(fb ρ).bind fun y=>atD x y
theorem zYu {K:PySem.W.Frag}{G:Hp}{ds:List D}{vs:List V}{i:Int}{d:D}(r:Reps K G ds vs)(h:atI ds i=some d):∃v,atI vs i=some v/\Rep K G d v:=by
 unfold atI at h ⊢
 rw[r.length] at h
 obtain⟨j,h1,h2⟩:=Qq.mp h
 obtain⟨v,h3,h4⟩:=r.get h2
 exact⟨v,by rw[h1];exact h3,h4⟩
theorem xX (ha:PF X a fa)(hb:PF X b fb)(hs:zZO b:=by exact fun _ _=>rfl):PF X (.Subscript a b pos) (eIx fa fb):=by
 refine PE.to (zP9 zMb ha hb hs) ?_
 rintro σ H Q ⟨G0,H0,G,ρ,d,good,hf,k⟩
 unfold eIx at hf
 obtain⟨x,h1,hf⟩:=Qq.mp hf
 obtain⟨y,h2,hf⟩:=Qq.mp hf
 refine⟨G0,H0,G,ρ,_,good,h1,fun u H1 G1 s1 r1=>⟨G0,H0,G1,ρ,_,good.step s1,h2,fun v H2 G2 s2 r2=>?_⟩⟩
 have r1:=r1.mono s2.gg
 have s3:=s1.trans s2
 unfold atD at hf
 split at hf
 · obtain⟨p,vs,rfl,q,rs⟩:=xI.mp r1
   obtain⟨w,e,rw'⟩:=zYu rs hf
   exact .inr (.inl ⟨p,vs,_,w,rfl,zB.mp r2,s2.sub.tup q,e,k _ _ G2 s3 rw'⟩)
 · obtain⟨p,vs,rfl,q,rs⟩:=xH.mp r1
   obtain⟨w,e,rw'⟩:=zYu rs hf
   exact .inl ⟨p,vs,_,w,rfl,zB.mp r2,s2.sub.seq q,e,k _ _ G2 s3 rw'⟩
 · split at hf
   · rename_i hz
     obtain⟨c,e,rfl⟩:=Qt.mp hf
     exact .inr (.inr ⟨_,_,c,yI.mp r1,zB.mp r2,Wj (wD hz),e,k _ _ G2 s3 (yI.mpr rfl)⟩)
   · cases hf
 · cases hf
end
inductive Out where
 | nx (ρ:List B) | rt (d:D) | rl (ds:List D) | bk (ρ:List B) | ct (ρ:List B)
 deriving Inhabited
abbrev Sf:=List B->Option Out
def Wants (K:PySem.W.Frag)(G0 H0 G:Hp)(D:Ends):Out->Prop
 | .nx ρ'=>∀σ' H' G',Same G G'->Good K G0 H0 G' H' σ' ρ'->D.nx σ' H'
 | .bk ρ'=>∀σ' H' G',Same G G'->Good K G0 H0 G' H' σ' ρ'->D.bk σ' H'
 | .ct ρ'=>∀σ' H' G',Same G G'->Good K G0 H0 G' H' σ' ρ'->D.ct σ' H'
 | .rt d=>∀v H' G',Step G0 H0 G' H'->Rep K G' d v->D.rt v H'
 | .rl ds=>∀a vs H' G',Step G0 H0 G' H'->H0 a=none->H' a=some (.lst vs)->G' a=none->Reps K G' ds vs->D.rt (.ref a) H'
def tFS (K:PySem.W.Frag)(f:Sf):TS:=fun D σ H=>∃G0 H0 G ρ o,Good K G0 H0 G H σ ρ/\f ρ=some o/\Wants K G0 H0 G D o
def PFS (X:Cx)(st:Stmt)(f:Sf):Prop:=PS X st (tFS X.K f)
def PFSs (X:Cx)(sts:List Stmt)(f:Sf):Prop:=PSs X sts (tFS X.K f)
theorem PS.to {X:Cx}{st:Stmt}{t:TS}{f:Sf}(h:PS X st t)(imp:∀D σ H,tFS X.K f D σ H->t D σ H):PFS X st f:=fun pins s σ H D I q=>h pins s σ H D I (imp D σ H q)
theorem PSs.to {X:Cx}{st:List Stmt}{t:TS}{f:Sf}(h:PSs X st t)(imp:∀D σ H,tFS X.K f D σ H->t D σ H):PFSs X st f:=fun pins s σ H D I q=>h pins s σ H D I (imp D σ H q)
theorem Wants.mono {K:PySem.W.Frag}{G0 H0 G G':Hp}{D:Ends}{o:Out}(h:Wants K G0 H0 G D o)(s:Same G G'):Wants K G0 H0 G' D o:=by
 cases o with
 | nx ρ=>exact fun σ' H' G2 s2 g=>h σ' H' G2 (s.trans s2) g
 | bk ρ=>exact fun σ' H' G2 s2 g=>h σ' H' G2 (s.trans s2) g
 | ct ρ=>exact fun σ' H' G2 s2 g=>h σ' H' G2 (s.trans s2) g
 | rt d=>exact h
 | rl ds=>exact h
theorem vL {ρ:List B}{i j:Nat}{d:D}{ds:List D}(h:(ρ.set i (.fz d))[j]?=some (.ow ds)):j≠i/\ρ[j]?=some (.ow ds):=by
 by_cases e:j=i
 · subst e
   rw[Yb] at h
   split at h
   · split at h<;>cases h
   · rename_i z;exact absurd rfl z
 · rw[Wi (Ne.symm e)] at h
   exact⟨e,h⟩
theorem bZ {ρ:List B}{i j:Nat}{d:D}{ds:List (D×D)}(h:(ρ.set i (.fz d))[j]?=some (.od ds)):j≠i/\ρ[j]?=some (.od ds):=by
 by_cases e:j=i
 · subst e
   rw[Yb] at h
   split at h
   · split at h<;>cases h
   · rename_i z;exact absurd rfl z
 · rw[Wi (Ne.symm e)] at h
   exact⟨e,h⟩
theorem Good.setF {K:PySem.W.Frag}{G0 H0 G H:Hp}{σ:St}{ρ:List B}{v:V}{d:D}(g:Good K G0 H0 G H σ ρ)(i:Nat)(r:Rep K G d v):Good K G0 H0 G H (σ.set i (some v)) (ρ.set i (.fz d)):=by
 refine⟨g.st,Paired.set (.fz r) i g.vals,fun j k a ds es h1 h2 h3 h4=>?_⟩
 obtain⟨n1,e1⟩:=vL h1
 obtain⟨n2,e2⟩:=vL h2
 rw[Wi (Ne.symm n1)] at h3
 rw[Wi (Ne.symm n2)] at h4
 exact g.apart j k a ds es e1 e2 h3 h4
theorem Good.addr {K:PySem.W.Frag}{G0 H0 G H:Hp}{σ:St}{ρ:List B}{i:Nat}{ds:List D}(g:Good K G0 H0 G H σ ρ)(h:ρ[i]?=some (.ow ds)):∃a vs,σ[i]?=some (some (.ref a))/\H a=some (.lst vs)/\G a=none/\H0 a=none/\Reps K G ds vs:=by
 obtain⟨o,e,r⟩:=Paired.get g.vals h
 cases r with
 | ow h1 h2 h3 h4=>exact⟨_,_,e,h1,h2,h3,h4⟩
theorem Good.setO {K:PySem.W.Frag}{G0 H0 G H:Hp}{σ:St}{ρ:List B}{a:Addr}{vs:List V}{ds:List D}(g:Good K G0 H0 G H σ ρ)(i:Nat)(ha:H a=some (.lst vs))(ga:G a=none)(h0:H0 a=none)(rs:Reps K G ds vs)
   (fr:∀(j:Nat) (es:List D),ρ[j]?=some (B.ow es)->σ[j]?≠some (some (V.ref a))):Good K G0 H0 G H (σ.set i (some (.ref a))) (ρ.set i (.ow ds)):=by
 have hl:σ.length=ρ.length:=Paired.length g.vals
 refine⟨g.st,Paired.set (.ow ha ga h0 rs) i g.vals,fun j k b d1 d2 h1 h2 h3 h4=>?_⟩
 by_cases hj:j=i
 · by_cases hk:k=i
   · rw[hj,hk]
   · subst hj
     rw[Wi (Ne.symm hk)] at h2 h4
     have hlt:j < σ.length:=by
       have:=(Qk.mp h3).1
       rwa[Tq] at this
     rw[Ea hlt] at h3
     cases h3
     exact absurd h4 (fr k d2 h2)
 · rw[Wi (Ne.symm hj)] at h1 h3
   by_cases hk:k=i
   · subst hk
     have hlt:k < σ.length:=by
       have:=(Qk.mp h4).1
       rwa[Tq] at this
     rw[Ea hlt] at h4
     cases h4
     exact absurd h3 (fr j d1 h1)
   · rw[Wi (Ne.symm hk)] at h2 h4
     exact g.apart j k b d1 d2 h1 h2 h3 h4
theorem Good.wr {K:PySem.W.Frag}{G0 H0 G H:Hp}{σ:St}{ρ:List B}{a:Addr}{us:List V}{ds es:List D}{i:Nat}(g:Good K G0 H0 G H σ ρ)(hi:ρ[i]?=some (.ow ds))(hs:σ[i]?=some (some (.ref a)))(rs:Reps K G es us) :
   Good K G0 H0 G (upd H a (.lst us)) σ (ρ.set i (.ow es)):=by
 obtain⟨a',vs,h1,h2,h3,h4,_⟩:=g.addr hi
 rw[hs] at h1;cases h1
 have st:Step G0 H0 G (upd H a (.lst us)):=by
   refine⟨fun b o e=>?_,g.st.gg,fun b o e=>?_,g.st.new⟩
   · rw[yQ (yJ e h4)];exact g.st.hh b o e
   · rw[yQ (yJ e h3)];exact g.st.sub b o e
 have hl:σ.length=ρ.length:=Paired.length g.vals
 have hil:i < ρ.length:=(Qk.mp hi).1
 have key:∀(l:List (Option V)) (r:List B) (n:Nat),Paired (RB K H0 G H) l r->(∀j es,n+j≠i->r[j]?=some (.ow es)->l[j]?≠some (some (.ref a)))->(∀j,n+j=i->l[j]?=some (some (.ref a))) ->
     Paired (RB K H0 G (upd H a (.lst us))) l (if i < n then r else r.set (i - n) (.ow es)):=by
   intro l r n p
   induction p generalizing n with
   | nil=>intro _ _;split<;>exact .nil
   | @cons o b l' r' q t ih =>
     intro hne hat
     have tl:=ih (n+1) (fun j es z e=>by have:=hne (j+1) es (by omega) (by simpa using e);simpa using this) (fun j z=>by have:=hat (j+1) (by omega);simpa using this)
     have keepq:(∀es,b = .ow es->o≠some (.ref a))->RB K H0 G (upd H a (.lst us)) o b:=fun hb=>by
       cases q with
       | no=>exact .no
       | fz r=>exact .fz r
       | @ow c vs ds' c1 c2 c3 c4 =>
         have:c≠a:=fun z=>hb _ rfl (by rw[z])
         exact .ow (by rw[yQ this];exact c1) c2 c3 c4
       | @od c _ _ _ _ c1 c2 c3 c4 c5 c6 =>
         have:c≠a:=fun z=>by rw[z,h2] at c1;cases c1
         exact .od (by rw[yQ this];exact c1) c2 c3 c4 c5 c6
     by_cases h1:i < n
     · rw[Qn h1]
       rw[Qn (by omega)] at tl
       refine .cons (keepq fun es e z=>?_) tl
       exact hne 0 es (by omega) (by simp[e]) (by simp[z])
     · rw[Wd h1]
       by_cases h2:i=n
       · subst h2
         rw[Qn (by omega)] at tl
         have:=hat 0 (by omega)
         simp at this
         subst this
         rw[Nat.sub_self]
         exact .cons (.ow zC h3 h4 rs) tl
       · rw[Wd (by omega)] at tl
         have e:i - n=(i - (n+1))+1:=by omega
         rw[e]
         refine .cons (keepq fun es e z=>?_) tl
         exact hne 0 es (by omega) (by simp[e]) (by simp[z])
 have vals:=key σ ρ 0 g.vals (fun j es' z e w=>by
   have:=g.apart j i a es' ds e hi w hs
   omega) (fun j z=>by rw[show j=i by omega];exact hs)
 rw[Wd (Tx _),Nat.sub_zero] at vals
 refine⟨st,vals,fun j k b d1 d2 e1 e2 e3 e4=>?_⟩
 have un:∀(j:Nat) (d1:List D),(ρ.set i (B.ow es))[j]?=some (B.ow d1)->∃d,ρ[j]?=some (B.ow d):=fun j d1 e=>by
   by_cases hj:j=i
   · subst hj;exact⟨ds,hi⟩
   · rw[Wi (Ne.symm hj)] at e;exact⟨d1,e⟩
 obtain⟨c1,f1⟩:=un j d1 e1
 obtain⟨c2,f2⟩:=un k d2 e2
 exact g.apart j k b c1 c2 f1 f2 e3 e4
section
variable {X:Cx} {a b c e tg:Expr} {es:List Expr} {fa fb:Ef} {ga:Lf} {ta:Tf} {pos:Pos} {st:Stmt} {sts rest:List Stmt} {f g:Sf}
def zJ (f g:Sf):Sf:=fun ρ=>(f ρ).bind fun o=>match o with | .nx ρ'=>g ρ' | o=>some o
def xL:Sf:=fun ρ=>some (.nx ρ)
theorem yY:PFSs X [] xL:=by
 refine PSs.to zVH ?_
 rintro D σ H ⟨G0,H0,G,ρ,o,good,hf,k⟩
 cases hf
 exact k σ H G (Same.refl _) good
theorem zS (h:PFS X st f):PFSs X [st] f:=zNS h
theorem wP (h1:PFS X st f)(h2:PFSs X rest g):PFSs X (st::rest) (zJ f g):=by
 refine PSs.to (jB h1 h2) ?_
 rintro D σ H ⟨G0,H0,G,ρ,o,good,hf,k⟩
 unfold zJ at hf
 obtain⟨o1,h1,hf⟩:=Qq.mp hf
 refine⟨G0,H0,G,ρ,o1,good,h1,?_⟩
 cases o1 with
 | nx ρ'=>exact fun σ' H' G' s g'=>⟨G0,H0,G',ρ',o,g',hf,k.mono s⟩
 | rt d=>cases hf;exact k
 | rl d=>cases hf;exact k
 | bk d=>cases hf;exact k
 | ct d=>cases hf;exact k
theorem zWC:PFS X (.Continue pos) (fun ρ=>some (.ct ρ)):=by
 refine PS.to zUf ?_
 rintro D σ H ⟨G0,H0,G,ρ,o,good,hf,k⟩
 cases hf
 exact k σ H G (Same.refl _) good
def yC (f:Ef):Sf:=fun ρ=>(f ρ).map .rt
theorem zG (h:PF X e fa):PFS X (.Return (some e) pos) (yC fa):=by
 refine PS.to (zWD h) ?_
 rintro D σ H ⟨G0,H0,G,ρ,o,good,hf,k⟩
 unfold yC at hf
 obtain⟨d,h1,rfl⟩:=Qt.mp hf
 exact⟨G0,H0,G,ρ,d,good,h1,fun v H' G' s r=>k v H' G' (good.st.trans s) r⟩
def sL (f:Lf):Sf:=fun ρ=>(f ρ).map .rl
theorem lV (h:PFr X e ga):PFS X (.Return (some e) pos) (sL ga):=by
 refine PS.to (zWD h) ?_
 rintro D σ H ⟨G0,H0,G,ρ,o,good,hf,k⟩
 unfold sL at hf
 obtain⟨d,h1,rfl⟩:=Qt.mp hf
 exact⟨G0,H0,G,ρ,d,good,h1,fun p vs H' G' s hn hp gp rs=>k p vs H' G' (good.st.trans s) (good.st.hh.free hn) hp gp rs⟩
def aP (i:Nat):Sf:=fun ρ=>match ρ[i]? with | some (.ow ds)=>some (.rl ds) | _=>none
theorem iX (i:Nat){x:Str}{pos':Pos}(hN:X.N[i]?=some x:=by rfl)(hv:Vis X.env.scope x:=by first | exact Or.inl rfl | exact Or.inr (Or.inl rfl) | exact Or.inr (Or.inr rfl))(hd:(x==("__debug__":Str))=false:=by decide)(hcd:(x==("__classdict__":Str))=false:=by decide) :
   PFS X (.Return (some (.Name x pos')) pos) (aP i):=by
 refine PS.to (zWD (pK hN hv hd hcd)) ?_
 rintro D σ H ⟨G0,H0,G,ρ,o,good,hf,k⟩
 unfold aP at hf
 split at hf
 · rename_i ds e
   cases hf
   obtain⟨p,vs,h1,h2,h3,h4,h5⟩:=good.addr e
   exact⟨.ref p,h1,k p vs H G good.st h4 h2 h3 h5⟩
 · cases hf
def sIf (t:Tf)(f g:Sf):Sf:=fun ρ=>(t ρ).bind fun c=>if c=true then f ρ else g ρ
theorem yM {sa sb:List Stmt}(ht:PFT X c ta)(ha:PFSs X sa f)(hb:PFSs X sb g):PFS X (.If c sa sb pos) (sIf ta f g):=by
 refine PS.to (zMH ht ha hb) ?_
 rintro D σ H ⟨G0,H0,G,ρ,o,good,hf,k⟩
 unfold sIf at hf
 obtain⟨c',h1,hf⟩:=Qq.mp hf
 refine⟨G0,H0,G,ρ,_,good,h1,fun H1 G1 s1=>?_⟩
 split at hf
 · rename_i h;rw[Qn h];exact⟨G0,H0,G1,ρ,o,good.step s1,hf,k.mono s1.gg⟩
 · rename_i h;rw[Wd h];exact⟨G0,H0,G1,ρ,o,good.step s1,hf,k.mono s1.gg⟩
def zXB (f:Ef):Sf:=fun ρ=>(f ρ).map fun _=>.nx ρ
theorem zUl (h:PF X e fa)(hs:swapsWith e none pos.line X.env=pure false:=by rfl):PFS X (.Expr e pos) (zXB fa):=by
 refine PS.to (zS1 h hs) ?_
 rintro D σ H ⟨G0,H0,G,ρ,o,good,hf,k⟩
 unfold zXB at hf
 obtain⟨d,h1,rfl⟩:=Qt.mp hf
 exact⟨G0,H0,G,ρ,d,good,h1,fun v H' G' s r=>k σ H' G' s.gg (good.step s)⟩
abbrev Gf:=D->List B->Option (List B)
def tFG (K:PySem.W.Frag)(g:Gf):TG:=fun v σ H Q=>∃G0 H0 G ρ d ρ',Good K G0 H0 G H σ ρ/\Rep K G d v/\g d ρ=some ρ'/\∀σ' H' G',Step G H G' H'->Good K G0 H0 G' H' σ' ρ'->Q σ' H'
def PFG (X:Cx)(tg:Expr)(g:Gf):Prop:=PG X tg (tFG X.K g)
abbrev Gfs:=List D->List B->Option (List B)
def zJF (K:PySem.W.Frag)(g:Gfs):TGs:=fun vs σ H Q=>∃G0 H0 G ρ ds ρ',Good K G0 H0 G H σ ρ/\Reps K G ds vs/\g ds ρ=some ρ'/\∀σ' H' G',Step G H G' H'->Good K G0 H0 G' H' σ' ρ'->Q σ' H'
def zNO (X:Cx)(tgs:List Expr)(g:Gfs):Prop:=PGs X tgs (zJF X.K g)
def gN (i:Nat):Gf:=fun d ρ=>some (ρ.set i (.fz d))
theorem yF (i:Nat){x:Str}(hN:X.N.Nodup)(hi:X.N[i]?=some x:=by rfl)(hx:Loc X.env.scope x:=by first | exact .inl rfl | exact .inr rfl)(hf:X.fn x=true∨X.env.scope.names.lookup x=some .local:=by first | exact .inl rfl | exact .inr rfl):PFG X (.Name x pos) (gN i):=by
 have h:=zOf (pos:=pos) hN hi hx hf
 intro pins s σ H v u Q I r q
 refine h pins s σ H v u Q I r ?_
 obtain⟨G0,H0,G,ρ,d,ρ',good,rd,hf,k⟩:=q
 cases hf
 exact k _ H G (.refl good.sub) (good.setF i rd)
def xZ:Gfs:=fun ds ρ=>match ds with | []=>some ρ | _=>none
def zP (g:Gf)(r:Gfs):Gfs:=fun ds ρ=>match ds with | d::dr=>(g d ρ).bind fun ρ'=>r dr ρ' | _=>none
theorem yG:zNO X [] xZ:=by
 intro pins s σ H vs us Q I r q
 refine zNH pins s σ H vs us Q I r ?_
 obtain⟨G0,H0,G,ρ,ds,ρ',good,rd,hf,k⟩:=q
 unfold xZ at hf
 split at hf
 · cases hf
   rw[yR] at rd
   exact⟨rd,k _ H G (.refl good.sub) good⟩
 · cases hf
theorem zN {g:Gf}{r:Gfs}(h1:PFG X e g)(h2:zNO X es r)(hs:(assignEach (e::es) X.env).map (·.2)=assign e X.env::(assignEach es X.env).map (·.2):=by rfl):zNO X (e::es) (zP g r):=by
 intro pins s σ H vs us Q I rv q
 refine zQq h1 h2 hs pins s σ H vs us Q I rv ?_
 obtain⟨G0,H0,G,ρ,ds,ρ',good,rd,hf,k⟩:=q
 unfold zP at hf
 split at hf
 · rename_i d dr
   obtain⟨ρ1,e1,e2⟩:=Qq.mp hf
   obtain⟨v,vr,rfl,r1,r2⟩:=z9.mp rd
   exact⟨v,vr,rfl,G0,H0,G,ρ,d,ρ1,good,r1,e1,fun σ' H' G' s' g'=>⟨G0,H0,G',ρ1,dr,ρ',g',r2.mono s'.gg,e2,fun σ2 H2 G2 s2 g2=>k σ2 H2 G2 (s'.trans s2) g2⟩⟩
 · cases hf
def gT (r:Gfs):Gf:=fun d ρ=>match d with | .tup ds=>r ds ρ | _=>none
theorem sA {r:Gfs}{k:Nat}(n:Nat)(hc:X.calm=true)(h:zNO X es r)(hr:∀ds ρ ρ',r ds ρ=some ρ'->ds.length=n)(hn:(assignEach es X.env).length=n:=by rfl)(hst:(assignEach es X.env).findIdx? (·.1)=none:=by rfl):PFG X (.Tuple es k pos) (gT r):=by
 have h:=zLr (pos:=pos) (k:=k) hc h hn hst
 intro pins s σ H v u Q I rv q
 refine h pins s σ H v u Q I rv ?_
 obtain⟨G0,H0,G,ρ,d,ρ',good,rd,hf,k⟩:=q
 unfold gT at hf
 split at hf
 · obtain⟨p,vs,rfl,h1,h2⟩:=xI.mp rd
   exact⟨p,vs,rfl,good.sub.tup h1,by rw[←h2.length];exact hr _ _ _ hf,G0,H0,G,ρ,_,ρ',good,h2,hf,k⟩
 · cases hf
theorem zE {g:Gf}{r:Gfs}{n:Nat}(h:∀ds ρ ρ',r ds ρ=some ρ'->ds.length=n):∀ds ρ ρ',zP g r ds ρ=some ρ'->ds.length=n+1:=by
 intro ds ρ ρ' q
 unfold zP at q
 split at q
 · obtain⟨ρ1,e1,e2⟩:=Qq.mp q
   rw[Qp,h _ _ _ e2]
 · cases q
theorem xU:∀ds ρ ρ',xZ ds ρ=some ρ'->ds.length=0:=by
 intro ds ρ ρ' q
 unfold xZ at q
 split at q
 · rfl
 · cases q
def zY5 (ρ:List B):Prop:=(∀(j:Nat) (es:List D),ρ[j]?≠some (B.ow es))/\∀(j:Nat) (ks:List (D×D)),ρ[j]?≠some (B.od ks)
def zQL (g:Gf):Prop:=∀d ρ ρ',g d ρ=some ρ'->zY5 ρ->zY5 ρ'
def zSL (g:Gfs):Prop:=∀d ρ ρ',g d ρ=some ρ'->zY5 ρ->zY5 ρ'
theorem uQ (i:Nat):zQL (gN i):=fun d ρ ρ' h n=>by
 cases h
 exact⟨fun j es e=>n.1 j es (vL e).2,fun j ks e=>n.2 j ks (bZ e).2⟩
theorem rS:zSL xZ:=fun d ρ ρ' h n=>by
 unfold xZ at h
 split at h
 · cases h;exact n
 · cases h
theorem xP {g:Gf}{r:Gfs}(h1:zQL g)(h2:zSL r):zSL (zP g r):=fun d ρ ρ' h n=>by
 unfold zP at h
 split at h
 · obtain⟨ρ1,e1,e2⟩:=Qq.mp h
   exact h2 _ _ _ e2 (h1 _ _ _ e1 n)
 · cases h
theorem zYi {r:Gfs}(h:zSL r):zQL (gT r):=fun d ρ ρ' q n=>by
 unfold gT at q
 split at q
 · exact h _ _ _ q n
 · cases q
def uU (f:Ef)(g:Gf):Sf:=fun ρ=>(f ρ).bind fun d=>(g d ρ).map .nx
theorem zQk {K:PySem.W.Frag}{t:TE}{f:Ef}{g:Gf}(imp:∀σ H Q,tF K f σ H Q->t σ H Q){D:Ends}{σ:St}{H:Hp}(h:tFS K (uU f g) D σ H):zR8 t (tFG K g) D σ H:=by
 obtain⟨G0,H0,G,ρ,o,good,hf,k⟩:=h
 unfold uU at hf
 obtain⟨d,h1,hf⟩:=Qq.mp hf
 obtain⟨ρ',h2,rfl⟩:=Qt.mp hf
 exact imp _ _ _ ⟨G0,H0,G,ρ,d,good,h1,fun v H' G' s r=>⟨G0,H0,G',ρ,d,ρ',good.step s,r,h2,fun σ2 H2 G2 s2 g2=>k σ2 H2 G2 (s.gg.trans s2.gg) g2⟩⟩
theorem vU {g:Gf}(he:PF X e fa)(hg:PFG X tg g)(hs:swapsWithSole [tg] e pos.line X.env=pure false:=by rfl)(hw:swappedStores [tg] e X.env=pure none:=by rfl)(h1:(assignEach [tg] X.env).map (·.2)=[assign tg X.env]:=by rfl) :
   PFS X (.Assign [tg] e pos) (uU fa g):=PS.to (zTx he hg hs hw h1) fun D σ H h=>zQk (fun _ _ _ q=>q) h
def yK (i:Nat)(f:Ef):Sf:=fun ρ=>(f ρ).map fun d=>.nx (ρ.set i (.fz d))
theorem zP6 {K:PySem.W.Frag}{t:TE}{f:Ef}{i:Nat}(imp:∀σ H Q,tF K f σ H Q->t σ H Q){D:Ends}{σ:St}{H:Hp}(h:tFS K (yK i f) D σ H):zR8 t (zU8 i) D σ H:=by
 obtain⟨G0,H0,G,ρ,o,good,hf,k⟩:=h
 unfold yK at hf
 obtain⟨d,h1,rfl⟩:=Qt.mp hf
 exact imp _ _ _ ⟨G0,H0,G,ρ,d,good,h1,fun v H' G' s r=>k _ H' G' s.gg ((good.step s).setF i r)⟩
theorem zD (i:Nat){x:Str}{pos':Pos}(hN:X.N.Nodup)(he:PF X e fa)(hi:X.N[i]?=some x:=by rfl)(hx:Loc X.env.scope x:=by first | exact .inl rfl | exact .inr rfl)(hs:swapsWith e (some (.Name x pos')) pos.line X.env=pure false:=by rfl)
   (hf:X.fn x=true∨X.env.scope.names.lookup x=some .local:=by first | exact .inl rfl | exact .inr rfl):PFS X (.Assign [.Name x pos'] e pos) (yK i fa) :=
 PS.to (zWl hN hi hx he hs hf) fun D σ H h=>zP6 (fun _ _ _ q=>q) h
def tV (i:Nat)(f:Lf):Sf:=fun ρ=>(f ρ).map fun ds=>.nx (ρ.set i (.ow ds))
theorem zV5 {K:PySem.W.Frag}{t:TE}{f:Lf}{i:Nat}(imp:∀σ H Q,tFr K f σ H Q->t σ H Q){D:Ends}{σ:St}{H:Hp}(h:tFS K (tV i f) D σ H):zR8 t (zU8 i) D σ H:=by
 obtain⟨G0,H0,G,ρ,o,good,hf,k⟩:=h
 unfold tV at hf
 obtain⟨ds,h1,rfl⟩:=Qt.mp hf
 refine imp _ _ _ ⟨G0,H0,G,ρ,ds,good,h1,fun p vs H' G' s hn hp gp rs=>?_⟩
 refine k _ H' G' s.gg ((good.step s).setO i hp gp (good.st.hh.free hn) rs fun j es e z=>?_)
 obtain⟨q,us,e1,e2,_⟩:=good.addr e
 rw[e1] at z;cases z
 rw[hn] at e2;cases e2
theorem sT (i:Nat){x:Str}{pos':Pos}(hN:X.N.Nodup)(he:PFr X e ga)(hi:X.N[i]?=some x:=by rfl)(hx:Loc X.env.scope x:=by first | exact .inl rfl | exact .inr rfl)(hs:swapsWith e (some (.Name x pos')) pos.line X.env=pure false:=by rfl)
   (hf:X.fn x=true∨X.env.scope.names.lookup x=some .local:=by first | exact .inl rfl | exact .inr rfl):PFS X (.Assign [.Name x pos'] e pos) (tV i ga) :=
 PS.to (zWl hN hi hx he hs hf) fun D σ H h=>zV5 (fun _ _ _ q=>q) h
def zLG (i:Nat)(ρ:List B):List B:=match ρ[i]? with | some (.ow ds)=>ρ.set i (.fz (.lst ds)) | _=>ρ
def fL (i:Nat)(f:Sf):Sf:=fun ρ=>f (zLG i ρ)
theorem Good.frz {K:PySem.W.Frag}{G0 H0 G H:Hp}{σ:St}{ρ:List B}(g:Good K G0 H0 G H σ ρ)(i:Nat):∃G',Same G G'/\Good K G0 H0 G' H σ (zLG i ρ):=by
 unfold zLG
 split
 · rename_i ds e
   obtain⟨p,vs,h1,h2,h3,h4,h5⟩:=g.addr e
   have sG:Same G (upd G p (.lst vs)):=Same.new h3
   have st:Step G0 H0 (upd G p (.lst vs)) H:=by
     refine⟨g.st.hh,g.st.gg.trans sG,fun b o q=>?_,fun b hb=>?_⟩
     · by_cases z:b=p
       · subst z;rw[zC] at q;rw[h2];exact q
       · rw[yQ z] at q;exact g.st.sub b o q
     · rw[yQ (fun z:b=p=>hb (by rw[z];exact h4))];exact g.st.new b hb
   have vals:Paired (RB K H0 (upd G p (.lst vs)) H) σ (ρ.set i (.fz (.lst ds))):=by
     have key:∀(l:List (Option V)) (r:List B) (n:Nat),Paired (RB K H0 G H) l r->(∀j es,n+j≠i->r[j]?=some (.ow es)->l[j]?≠some (some (.ref p)))->(∀j,n+j=i->l[j]?=some (some (.ref p))) ->
         Paired (RB K H0 (upd G p (.lst vs)) H) l (if i < n then r else r.set (i - n) (.fz (.lst ds))):=by
       intro l r n q
       induction q generalizing n with
       | nil=>intro _ _;split<;>exact .nil
       | @cons o b l' r' q t ih =>
         intro hne hat
         have tl:=ih (n+1) (fun j es z e=>by have:=hne (j+1) es (by omega) (by simpa using e);simpa using this) (fun j z=>by have:=hat (j+1) (by omega);simpa using this)
         have keepq:(∀es,b = .ow es->o≠some (.ref p))->RB K H0 (upd G p (.lst vs)) H o b:=fun hb=>by
           cases q with
           | no=>exact .no
           | fz r=>exact .fz (r.mono sG)
           | @ow c vs' ds' c1 c2 c3 c4 =>
             have:c≠p:=fun z=>hb _ rfl (by rw[z])
             exact .ow c1 (by rw[yQ this];exact c2) c3 (c4.mono sG)
           | @od c _ _ _ _ c1 c2 c3 c4 c5 c6 =>
             have:c≠p:=fun z=>by rw[z,h2] at c1;cases c1
             exact .od c1 (by rw[yQ this];exact c2) c3 (c4.mono sG) c5 c6
         by_cases h1:i < n
         · rw[Qn h1]
           rw[Qn (by omega)] at tl
           exact .cons (keepq fun es e z=>hne 0 es (by omega) (by simp[e]) (by simp[z])) tl
         · rw[Wd h1]
           by_cases h2:i=n
           · subst h2
             rw[Qn (by omega)] at tl
             have:=hat 0 (by omega)
             simp at this
             subst this
             rw[Nat.sub_self]
             exact .cons (.fz (xH.mpr ⟨p,vs,rfl,.of zC,h5.mono sG⟩)) tl
           · rw[Wd (by omega)] at tl
             have e:i - n=(i - (n+1))+1:=by omega
             rw[e]
             exact .cons (keepq fun es e z=>hne 0 es (by omega) (by simp[e]) (by simp[z])) tl
     have v:=key σ ρ 0 g.vals (fun j es' z e' w=>by have:=g.apart j i p es' ds e' e w h1;omega) (fun j z=>by rw[show j=i by omega];exact h1)
     rw[Wd (Tx _),Nat.sub_zero] at v
     exact v
   refine⟨_,sG,st,vals,fun j k b d1 d2 e1 e2 e3 e4=>?_⟩
   obtain⟨_,f1⟩:=vL e1
   obtain⟨_,f2⟩:=vL e2
   exact g.apart j k b d1 d2 f1 f2 e3 e4
 · exact⟨G,Same.refl _,g⟩
theorem qQ (i:Nat)(h:PFS X st f):PFS X st (fL i f):=by
 refine PS.to h ?_
 rintro D σ H ⟨G0,H0,G,ρ,o,good,hf,k⟩
 obtain⟨G',s,g'⟩:=good.frz i
 exact⟨G0,H0,G',_,o,g',hf,k.mono s⟩
end
def bM (K:PySem.W.Frag)(J:It)(G:Hp)(ds:List D):Prop:=∀(i:Nat) (G2 H2:Hp),Same G G2->Same G2 H2 ->
 (∀d,ds[i]?=some d->J.go i H2/\∀x H3,J.yld i H2 x H3->∃G3,Step G2 H2 G3 H3/\Rep K G3 d x)/\(ds.length<=i->J.stop i H2)
def tFI (K:PySem.W.Frag)(f:Lf):TI:=fun σ H R=>∃G0 H0 G ρ ds,Good K G0 H0 G H σ ρ/\f ρ=some ds/\∀J H' G',Step G H G' H'->bM K J G' ds->R J H'
def PFI (X:Cx)(tg iter:Expr)(f:Lf):Prop:=PI X tg iter (tFI X.K f)
theorem PI.to {X:Cx}{tg e:Expr}{t:TI}{f:Lf}(h:PI X tg e t)(imp:∀σ H R,tFI X.K f σ H R->t σ H R):PFI X tg e f:=fun pins s σ H R I q=>h pins s σ H R I (imp σ H R q)
theorem eZ {K:PySem.W.Frag}{G:Hp}{a:Addr}{vs:List V}{ds:List D}(h:SqL K G a vs)(r:Reps K G ds vs):bM K (Itl K a) G ds:=by
 intro i G2 H2 s1 s2
 have q:SqL K H2 a vs:=(s1.trans s2).seq h
 refine⟨fun d hd=>?_,fun hi=>⟨vs,q,by rw[←r.length];exact hi⟩⟩
 obtain⟨v,e,rv⟩:=r.get hd
 refine⟨⟨vs,v,q,e⟩,fun x H3 y=>?_⟩
 obtain⟨rfl,y⟩:=y
 have:=y vs q
 rw[e] at this;cases this
 exact⟨G2,.refl s2,rv.mono s1⟩
theorem zSR {K:PySem.W.Frag}{G:Hp}{a:Addr}{vs:List V}{ds:List D}(h:SqT K G a vs)(r:Reps K G ds vs):bM K (Itt K a) G ds:=by
 intro i G2 H2 s1 s2
 have q:SqT K H2 a vs:=(s1.trans s2).tup h
 refine⟨fun d hd=>?_,fun hi=>⟨vs,q,by rw[←r.length];exact hi⟩⟩
 obtain⟨v,e,rv⟩:=r.get hd
 refine⟨⟨vs,v,q,e⟩,fun x H3 y=>?_⟩
 obtain⟨rfl,y⟩:=y
 have:=y vs q
 rw[e] at this;cases this
 exact⟨G2,.refl s2,rv.mono s1⟩
def vQ (lo:Int)(n:Nat):List D:=(List.range n).map fun i=>D.int (lo+(i:Nat))
theorem fF {K:PySem.W.Frag}{G:Hp}{lo:Int}{n:Nat}:bM K (Itr lo n) G (vQ lo n):=by
 intro i G2 H2 s1 s2
 have hl:(vQ lo n).length=n:=by simp[vQ]
 refine⟨fun d hd=>?_,fun hi=>by rw[hl] at hi;exact hi⟩
 have hi:i < n:=by rw[←hl];exact(Qk.mp hd).1
 refine⟨hi,fun x H3 y=>?_⟩
 obtain⟨rfl,rfl⟩:=y
 have e:d = .int (lo+i):=by
   unfold vQ at hd
   rw[Wq,Tk hi] at hd
   exact(Wa hd).symm
 subst e
 exact⟨G2,.refl s2,zB.mpr rfl⟩
section
variable {X:Cx} {a b c e tg elt iter:Expr} {es ifs:List Expr} {fa fb:Ef} {ga gi:Lf} {ta tc:Tf} {pos:Pos} {st:Stmt} {sts rest:List Stmt} {f g:Sf}
def iL (f:Ef):Lf:=fun ρ=>(f ρ).bind fun d=>match d with | .lst ds=>some ds | _=>none
def iT (f:Ef):Lf:=fun ρ=>(f ρ).bind fun d=>match d with | .tup ds=>some ds | _=>none
theorem zTP (h:PF X e fa):PFI X tg e (iL fa):=by
 refine PI.to (zSK h) ?_
 rintro σ H R ⟨G0,H0,G,ρ,ds,good,hf,k⟩
 unfold iL at hf
 obtain⟨d,h1,hf⟩:=Qq.mp hf
 cases d with
 | lst es =>
   cases hf
   refine⟨G0,H0,G,ρ,_,good,h1,fun x H1 G1 s1 r1=>?_⟩
   obtain⟨p,vs,rfl,q,rs⟩:=xH.mp r1
   exact⟨p,rfl,⟨vs,s1.sub.seq q⟩,k _ H1 G1 s1 (eZ q rs)⟩
 | _=>cases hf
theorem zMU (h:PFr X e ga):PFI X tg e ga:=by
 refine PI.to (zSK h) ?_
 rintro σ H R ⟨G0,H0,G,ρ,ds,good,hf,k⟩
 refine⟨G0,H0,G,ρ,_,good,hf,fun p vs H1 G1 s1 hn hp gp rs=>?_⟩
 exact⟨p,rfl,⟨vs,.of hp⟩,k _ H1 (upd G1 p (.lst vs)) (s1.frz hn hp gp) (eZ (.of zC) (rs.mono (Same.new gp)))⟩
theorem zQM (h:PF X e fa):PFI X tg e (iT fa):=by
 refine PI.to (zLy h) ?_
 rintro σ H R ⟨G0,H0,G,ρ,ds,good,hf,k⟩
 unfold iT at hf
 obtain⟨d,h1,hf⟩:=Qq.mp hf
 cases d with
 | tup es =>
   cases hf
   refine⟨G0,H0,G,ρ,_,good,h1,fun x H1 G1 s1 r1=>?_⟩
   obtain⟨p,vs,rfl,q,rs⟩:=xI.mp r1
   exact⟨p,rfl,⟨vs,s1.sub.tup q⟩,k _ H1 G1 s1 (zSR q rs)⟩
 | _=>cases hf
def iR (f:Ef):Lf:=fun ρ=>(f ρ).bind fun d=>match d with | .int n=>if decide (-1000000<=n)&&decide (n<=1000000) then some (vQ 0 n.toNat) else none | _=>none
theorem zYz {p:Pos}(hg:Gl X "range")(hm:X.mg "range"=none)(h:PF X a fa)(hs:starEach [a] X.env=[(false,eval a X.env)]:=by rfl):PFI X tg (.Call (.Name "range" p) [a] [] pos) (iR fa):=by
 refine PI.to (zQK hg hm (yV h yE (by rw[hs];rfl)) hs) ?_
 rintro σ H R ⟨G0,H0,G,ρ,ds,good,hf,k⟩
 unfold iR at hf
 obtain⟨d,h1,hf⟩:=Qq.mp hf
 cases d with
 | int n =>
   dsimp only at hf
   split at hf
   · rename_i hc
     cases hf
     simp only[Qx,Wc] at hc
     refine⟨G0,H0,G,ρ,_,good,h1,fun x H1 G1 s1 r1=>⟨n,by rw[zB.mp r1],by omega,by omega,k _ H1 G1 s1 fF⟩⟩
   · cases hf
 | _=>cases hf
def iR2 (f g:Ef):Lf:=fun ρ=>(f ρ).bind fun x=>(g ρ).bind fun y=>match x,y with | .int m,.int n=>if decide (-1000000<=m)&&decide (m<=1000000)&&decide (-1000000<=n)&&decide (n<=1000000) then some (vQ m (n - m).toNat) else none | _,_=>none
theorem zMT {p:Pos}(hg:Gl X "range")(hm:X.mg "range"=none)(h:PF X a fa)(h':PF X b fb)(hs:starEach [a,b] X.env=[(false,eval a X.env),(false,eval b X.env)]:=by rfl)(hs2:starEach [b] X.env=[(false,eval b X.env)]:=by rfl):PFI X tg (.Call (.Name "range" p) [a,b] [] pos) (iR2 fa fb):=by
 refine PI.to (zQP hg hm (yV h (yV h' yE (by rw[hs2];rfl)) (by rw[hs,hs2])) hs hs2) ?_
 rintro σ H R ⟨G0,H0,G,ρ,ds,good,hf,k⟩
 unfold iR2 at hf
 obtain⟨d,h1,hf⟩:=Qq.mp hf
 obtain⟨d',h2,hf⟩:=Qq.mp hf
 cases d with
 | int m =>
   cases d' with
   | int n =>
     dsimp only at hf
     split at hf
     · rename_i hc
       cases hf
       simp only[Qx,Wc] at hc
       refine⟨G0,H0,G,ρ,_,good,h1,fun x H1 G1 s1 r1=>⟨G0,H0,G1,ρ,_,good.step s1,h2,fun y H2 G2 s2 r2=>⟨m,n,by rw[zB.mp r1,zB.mp r2],⟨by omega,by omega,by omega,by omega⟩,k _ H2 G2 (s1.trans s2) fF⟩⟩⟩
     · cases hf
   | _=>cases hf
 | _=>cases hf
def nD (g:Gf)(body:Sf):List D->Sf
 | [],ρ=>some (.nx ρ)
 | d::r,ρ=>(g d ρ).bind fun ρ1=>(body ρ1).bind fun o=>match o with
   | .nx ρ2=>nD g body r ρ2
   | .ct ρ2=>nD g body r ρ2
   | .bk ρ2=>some (.nx ρ2)
   | o=>some o
def qP (src:Lf)(g:Gf)(body:Sf):Sf:=fun ρ=>(src ρ).bind fun ds=>nD g body ds ρ
theorem sW {gt:Gf}{body:List Stmt}{fb:Sf}(hp:PassesOwn (model X.prog X.w) X.A X.env X.xe)(hc:X.calm=true)(hi:PFI X tg iter gi)(hg:PFG X tg gt)(hb:PFSs X body fb)(hs:∀x,foldedSetIterable iter X.env x=pure x:=by intro _;rfl) :
   PFS X (.For tg iter body [] pos) (qP gi gt fb):=by
 refine PS.to (zLC hp hc hi hg hb hs) ?_
 rintro D σ H ⟨G0,H0,G,ρ,o,good,hf,k⟩
 unfold qP at hf
 obtain⟨ds,h1,hf⟩:=Qq.mp hf
 refine⟨G0,H0,G,ρ,ds,good,h1,fun J H1 G1 s1 y=>?_⟩
 refine⟨fun i m σ H=>m=ds.length - i/\i<=ds.length/\∃G2 ρ2,Same G1 G2/\Good X.K G0 H0 G2 H σ ρ2/\nD gt fb (ds.drop i) ρ2=some o,⟨ds.length,by simp,Tj _,G1,ρ,Same.refl _,good.step s1,by simpa using hf⟩,?_⟩
 rintro i m σ2 H2 ⟨rfl,hi',G2,ρ2,sg,good2,hf2⟩
 obtain⟨y1,y2⟩:=y i G2 H2 sg good2.sub
 by_cases hlt:i < ds.length
 · obtain⟨go,yl⟩:=y1 ds[i] (Qu hlt)
   rw[Oo hlt] at hf2
   unfold nD at hf2
   obtain⟨ρ3,e1,hf2⟩:=Qq.mp hf2
   obtain⟨o1,e2,hf2⟩:=Qq.mp hf2
   refine .inr ⟨go,fun σ' H'=>∃G' ρ',Same G1 G'/\Good X.K G0 H0 G' H' σ' ρ'/\nD gt fb (ds.drop (i+1)) ρ'=some o,fun σ' H' ⟨G',ρ',a1,a2,a3⟩=>⟨ds.length - (i+1),by omega,rfl,hlt,G',ρ',a1,a2,a3⟩,fun x H3 yx=>?_⟩
   obtain⟨G3,s3,r3⟩:=yl x H3 yx
   refine⟨G0,H0,G3,ρ2,_,ρ3,good2.step s3,r3,e1,fun σ4 H4 G4 s4 good4=>?_⟩
   have sg4:Same G1 G4:=(sg.trans s3.gg).trans s4.gg
   refine⟨G0,H0,G4,ρ3,o1,good4,e2,?_⟩
   cases o1 with
   | nx ρ5=>exact fun σ5 H5 G5 s5 good5=>⟨G5,ρ5,sg4.trans s5,good5,hf2⟩
   | ct ρ5=>exact fun σ5 H5 G5 s5 good5=>⟨G5,ρ5,sg4.trans s5,good5,hf2⟩
   | bk ρ5=>cases hf2;exact fun σ5 H5 G5 s5 good5=>k σ5 H5 G5 ((s1.gg.trans sg4).trans s5) good5
   | rt d=>cases hf2;exact k
   | rl d=>cases hf2;exact k
 · have e:i=ds.length:=by omega
   subst e
   rw[List.drop_length] at hf2
   cases hf2
   exact .inl ⟨y2 (Ql _),k σ2 H2 G2 (s1.gg.trans sg) good2⟩
def sF (g:Gf)(t:Tf)(elt:Ef):List D->List B->List D->Option (List D)
 | [],_,acc=>some acc
 | d::r,ρ,acc=>(g d ρ).bind fun ρ1=>(t ρ1).bind fun c=>if c=true then(elt ρ1).bind fun y=>sF g t elt r ρ1 (acc++[y]) else sF g t elt r ρ1 acc
def upB (m:Nat)(js:List Nat)(ρ:List B):List B:=List.replicate m .no++js.map fun j=>match ρ[j]? with | some (.fz d)=>.fz d | _=>.no
def xY (src:Lf)(m:Nat)(js:List Nat)(g:Gf)(t:Tf)(elt:Ef):Lf:=fun ρ=>((src ρ).bind okL).bind fun ds=>sF g t elt ds (upB m js ρ) []
theorem Good.up {K:PySem.W.Frag}{G0 H0 G H:Hp}{σ:St}{ρ:List B}(g:Good K G0 H0 G H σ ρ)(m:Nat)(js:List Nat):Good K G H G H (upC m js σ) (upB m js ρ):=by
 refine⟨.refl g.sub,?_,fun i j a ds es h1=>?_⟩
 · unfold upC upB
   have rep:∀m:Nat,Paired (RB K H G H) (List.replicate m (none:Option V)) (List.replicate m B.no):=fun m=>by
     induction m with
     | zero=>exact .nil
     | succ n ih=>rw[Wl,Wl];exact .cons .no ih
   have app:∀ {l1 l2:List (Option V)} {r1 r2:List B},Paired (RB K H G H) l1 r1->Paired (RB K H G H) l2 r2->Paired (RB K H G H) (l1++l2) (r1++r2):=fun h1 h2=>by
     induction h1 with
     | nil=>exact h2
     | cons q t ih=>exact .cons q ih
   refine app (rep m) ?_
   induction js with
   | nil=>exact .nil
   | cons j r ih =>
     rw[Qg,Qg]
     refine .cons ?_ ih
     cases e:ρ[j]? with
     | none=>exact .no
     | some b =>
       obtain⟨o,e1,r1⟩:=Paired.get g.vals e
       cases r1 with
       | no=>exact .no
       | fz q=>rw[e1];exact .fz q
       | ow q1 q2 q3 q4=>exact .no
       | od q1 q2 q3 q4 q5 q6=>exact .no
 · unfold upB at h1
   by_cases hi:i < m
   · rw[Ec (by simpa using hi),Re] at h1
     split at h1<;>cases h1
   · rw[Ep (by simpa using hi),Wq] at h1
     obtain⟨k,_,h1⟩:=Qt.mp h1
     split at h1<;>cases h1
theorem zOT (m:Nat)(js:List Nat)(ρ:List B):zY5 (upB m js ρ):=by
 constructor
 all_goals
   intro i es h1
   unfold upB at h1
   by_cases hi:i < m
   · rw[Ec (by simpa using hi),Re] at h1
     split at h1<;>cases h1
   · rw[Ep (by simpa using hi),Wq] at h1
     obtain⟨k,_,h1⟩:=Qt.mp h1
     split at h1<;>cases h1
theorem Good.wrX {K:PySem.W.Frag}{G0 H0 G H:Hp}{σ:St}{ρ:List B}{p:Addr}{o:HO}(g:Good K G0 H0 G H σ ρ)(n:zY5 ρ)(gp:G p=none)(h0:H0 p=none):Good K G0 H0 G (upd H p o) σ ρ:=by
 refine⟨⟨fun b u e=>?_,g.st.gg,fun b u e=>?_,g.st.new⟩,?_,g.apart⟩
 · rw[yQ (yJ e h0)];exact g.st.hh b u e
 · rw[yQ (yJ e gp)];exact g.st.sub b u e
 · have key:∀(l:List (Option V)) (r:List B),Paired (RB K H0 G H) l r->zY5 r->Paired (RB K H0 G (upd H p o)) l r:=by
     intro l r q
     induction q with
     | nil=>intro _;exact .nil
     | @cons x b l' r' q t ih =>
       intro n
       refine .cons ?_ (ih ⟨fun j es e=>n.1 (j+1) es (by simpa using e),fun j es e=>n.2 (j+1) es (by simpa using e)⟩)
       cases q with
       | no=>exact .no
       | fz r=>exact .fz r
       | ow _ _ _ _=>exact absurd rfl (n.1 0 _)
       | od _ _ _ _ _ _=>exact absurd rfl (n.2 0 _)
   exact key σ ρ g.vals n
theorem zUi {K:PySem.W.Frag}{m:Nat}{js:List Nat}{gt:Gf}{t:Tf}{el:Ef}(hgo:zQL gt){σ:St}{H:Hp}{Q:VK}(h:tFr K (xY gi m js gt t el) σ H Q):zO0 (tFI K gi) m js (tFG K gt) (tFT K t) (tF K el) σ H Q:=by
 obtain⟨G0,H0,G,ρ,out,good,hf,k⟩:=h
 unfold xY at hf
 obtain⟨ds,h1,hf⟩:=Qq.mp hf
 obtain⟨ds',h1,h1'⟩:=Qq.mp h1
 obtain⟨rfl,hlen⟩:=dO h1'
 refine⟨G0,H0,G,ρ,_,good,h1,fun J H1 G1 s1 y D hD=>?_⟩
 have good1:=(good.step s1).up m js
 have hGD:G1 D=none:=s1.sub.free hD
 refine⟨fun i n σ2 H2=>n=ds.length - i/\i<=ds.length/\∃G2 ρ2 acc us,Same G1 G2/\G2 D=none/\H2 D=some (.lst us)/\Reps K G2 acc us/\acc.length<=i/\zY5 ρ2/\Good K G1 H1 G2 H2 σ2 ρ2/\sF gt t el (ds.drop i) ρ2 acc=some out,
   ⟨ds.length,by simp,Tj _,G1,upB m js ρ,[],[],Same.refl _,hGD,zC,yR.mpr rfl,Ql _,zOT _ _ _,good1.step (Step.own s1.sub hD),by simpa using hf⟩,?_⟩
 rintro i n σ2 H2 ⟨rfl,hi,G2,ρ2,acc,us,sg,gD,hD2,rs,hal,now,good2,hf2⟩
 obtain⟨y1,y2⟩:=y i G2 H2 sg good2.sub
 by_cases hlt:i < ds.length
 · obtain⟨go,yl⟩:=y1 ds[i] (Qu hlt)
   rw[Oo hlt] at hf2
   unfold sF at hf2
   obtain⟨ρ3,e1,hf2⟩:=Qq.mp hf2
   obtain⟨c,e2,hf2⟩:=Qq.mp hf2
   have now3:=hgo _ _ _ e1 now
   refine .inr ⟨go,fun x H3 yx=>?_⟩
   obtain⟨G3,s3,r3⟩:=yl x H3 yx
   refine⟨G1,H1,G3,ρ2,_,ρ3,good2.step s3,r3,e1,fun σ4 H4 G4 s4 good4=>?_⟩
   refine⟨G1,H1,G4,ρ3,c,good4,e2,fun H5 G5 s5=>?_⟩
   have s35:=(s3.trans s4).trans s5
   have hne:H2 D≠none:=by rw[hD2];exact fun z=>nomatch z
   split at hf2
   · rename_i hc
     show if c=true then _ else _
     rw[Qn hc]
     obtain⟨yd,e3,hf2⟩:=Qq.mp hf2
     refine⟨G1,H1,G5,ρ3,yd,good4.step s5,e3,fun v H6 G6 s6 r6=>?_⟩
     have s36:=s35.trans s6
     have hD6:H6 D=some (.lst us):=s36.hh _ _ hD2
     have gD6:G6 D=none:=(s36.new D hne).trans gD
     refine⟨us,ds.length - (i+1),hD6,?_,by omega,rfl,hlt,G6,ρ3,acc++[yd],us++[v],sg.trans s36.gg,gD6,zC,(rs.mono s36.gg).snoc r6,by rw[Wr,Ud];omega,now3,((good4.step s5).step s6).wrX now3 gD6 hD,hf2⟩
     rw[←rs.length]
     exact wD (Eu hal (Eu hi hlen))
   · rename_i hc
     show if c=true then _ else _
     rw[Wd hc]
     exact⟨ds.length - (i+1),by omega,rfl,hlt,G5,ρ3,acc,us,sg.trans s35.gg,(s35.new D hne).trans gD,s35.hh _ _ hD2,rs.mono s35.gg,by omega,now3,good4.step s5,hf2⟩
 · have e:i=ds.length:=by omega
   subst e
   rw[List.drop_length] at hf2
   cases hf2
   exact .inl ⟨y2 (Ql _),k D us H2 G2 (s1.trans good2.st) (s1.hh.free hD) hD2 gD rs⟩
def tOK:Tf:=fun _=>some true
def zSy (X:Cx)(ifs:List Expr)(t:Tf):Prop:=zSX X ifs (tFT X.K t)
theorem y0 {X:Cx}:zSy X [] tOK:=fun pins s σ H Q I h=>zOM pins s σ H Q I (by
 obtain⟨G0,H0,G,ρ,b,good,hf,k⟩:=h
 cases hf
 exact k H G (.refl good.sub))
theorem zWY {X:Cx}{c:Expr}{t:Tf}(h:PFT X c t):zSy X [c] t:=zPA h
theorem wM (sc:Scope)(N tgs frees:List Str)(js:List Nat){scope:Scope}{gt:Gf}{t:Tf}{el:Ef}(hgo:zQL gt)(hp:PFI X tg iter gi)(hc:X.calm=true)(hsc:X.env.scope=sc)(hNN:X.N=N)(hok:mF sc scope N tgs frees js=true)
   (hg:∀C s₀ H₀ fp,PFG (vH X (tgs++frees) scope C s₀ H₀ fp) tg gt) (hi:∀C s₀ H₀ fp,zSy (vH X (tgs++frees) scope C s₀ H₀ fp) ifs t) (he:∀C s₀ H₀ fp,PF (vH X (tgs++frees) scope C s₀ H₀ fp) elt el)
   (hs:∀x,foldedSetIterable iter X.env x=pure x:=by intro _;rfl) :
   PFr X (.ListComp elt [⟨tg,iter,ifs,0⟩] scope pos) (xY gi tgs.length js gt t el) :=
 PE.toR (zN5 (g:=tFG X.K gt) (tc:=tFT X.K t) (te:=tF X.K el) sc tgs frees js hp hc hsc (by rw[hNN];exact hok) hg hi he hs) fun σ H Q h=>zUi hgo h
theorem pF (sc:Scope)(N tgs frees:List Str)(js:List Nat){scope:Scope}{gt:Gf}{t:Tf}{el:Ef}(hgo:zQL gt)(i:Nat){x:Str}{pos' spos:Pos}(hN:X.N.Nodup)(hx:X.N[i]?=some x)(hl:X.env.scope.names.lookup x=some .local)(hp:PFI X tg iter gi)(hc:X.calm=true)(hsc:X.env.scope=sc)(hNN:X.N=N)(hok:mF sc scope N tgs frees js=true)
   (hg:∀C s₀ H₀ fp,PFG (vH X (tgs++frees) scope C s₀ H₀ fp) tg gt) (hi:∀C s₀ H₀ fp,zSy (vH X (tgs++frees) scope C s₀ H₀ fp) ifs t) (he:∀C s₀ H₀ fp,PF (vH X (tgs++frees) scope C s₀ H₀ fp) elt el)
   (hsw:swapsWith (.ListComp elt [⟨tg,iter,ifs,0⟩] scope pos) (some (.Name x pos')) spos.line X.env=pure true:=by with_unfolding_all rfl) (hs:∀x,foldedSetIterable iter X.env x=pure x:=by intro _;rfl) :
   PFS X (.Assign [.Name x pos'] (.ListComp elt [⟨tg,iter,ifs,0⟩] scope pos) spos) (tV i (xY gi tgs.length js gt t el)) :=
 PS.to (zSZ (g:=tFG X.K gt) (tc:=tFT X.K t) (te:=tF X.K el) sc tgs frees js hN hx hl hp hc hsc (by rw[hNN];exact hok) hg hi he hsw hs) fun D σ H h=>zV5 (fun _ _ _ q=>zUi hgo q) h
end
section
variable {X:Cx} {a b c e tg elt iter:Expr} {es ifs:List Expr} {fa fb fc:Ef} {ga gi:Lf} {ta tc:Tf} {pos:Pos} {st:Stmt} {sts rest:List Stmt} {f g:Sf}
def aF (i:Nat)(f:Ef):Sf:=fun ρ=>(f ρ).bind fun d=>match ρ[i]? with | some (.ow ds)=>if ds.length < lim then some (.nx (ρ.set i (.ow (ds++[d])))) else none | _=>none
theorem zZv (i:Nat)(ht:PE X c (tBM X.K "list" zSu (zNo i) (fG (tF X.K fa) zVx)))(hs:swapsWith c none pos.line X.env=pure false:=by rfl):PFS X (.Expr c pos) (aF i fa):=by
 refine PS.to (zS1 ht hs) ?_
 rintro D σ H ⟨G0,H0,G,ρ,o,good,hf,k⟩
 unfold aF at hf
 obtain⟨d,h1,hf⟩:=Qq.mp hf
 split at hf
 · rename_i ds hi
   split at hf
   · rename_i hl
     cases hf
     obtain⟨p,vs,e1,e2,e3,e4,e5⟩:=good.addr hi
     refine⟨.ref p,e1,.inl ⟨rfl,vs,.of e2⟩,G0,H0,G,ρ,d,good,h1,fun v H1 G1 s1 r1=>?_⟩
     have good1:=good.step s1
     obtain⟨p',vs',f1,f2,f3,f4,f5⟩:=good1.addr hi
     rw[e1] at f1;cases f1
     exact⟨p,vs',v,rfl,rfl,f2,by rw[←f5.length];exact wD (Wj hl),k σ _ G1 s1.gg (good1.wr hi e1 (f5.snoc r1))⟩
   · cases hf
 · cases hf
def zRj (j i:Nat)(f:Ef):Sf:=fun ρ=>(f ρ).bind fun d=>match d,ρ[i]? with
 | .int n,some (.ow ds)=>if ds.length<=lim then(ixN ds.length n).bind fun q=>(ds[q]?).map fun x=>.nx ((ρ.set i (.ow (ds.eraseIdx q))).set j (.fz x)) else none
 | _,_=>none
theorem zNY (j i:Nat){y:Str}{p4:Pos}(hNd:X.N.Nodup)(ht:PE X c (tBM X.K "list" zPj (zNo i) (fG (tF X.K fa) zVx)))(hj:X.N[j]?=some y:=by rfl)(hjx:Loc X.env.scope y:=by first | exact .inl rfl | exact .inr rfl)
   (hs:swapsWith c (some (.Name y p4)) pos.line X.env=pure false:=by rfl) (hfn:X.fn y=true∨X.env.scope.names.lookup y=some .local:=by first | exact .inl rfl | exact .inr rfl) :
   PFS X (.Assign [.Name y p4] c pos) (zRj j i fa):=by
 refine PS.to (zWl hNd hj hjx ht hs hfn) ?_
 rintro D σ H ⟨G0,H0,G,ρ,o,good,hf,k⟩
 unfold zRj at hf
 obtain⟨d,h1,hf⟩:=Qq.mp hf
 split at hf
 · rename_i n ds hi
   split at hf
   · rename_i hl
     obtain⟨q,hq,hf⟩:=Qq.mp hf
     obtain⟨x',hx,rfl⟩:=Qt.mp hf
     obtain⟨p,vs,e1,e2,e3,e4,e5⟩:=good.addr hi
     refine⟨.ref p,e1,.inl ⟨rfl,vs,.of e2⟩,G0,H0,G,ρ,_,good,h1,fun v H1 G1 s1 r1=>?_⟩
     have good1:=good.step s1
     obtain⟨p',vs',f1,f2,f3,f4,f5⟩:=good1.addr hi
     rw[e1] at f1;cases f1
     obtain⟨w,hw,rw'⟩:=f5.get hx
     have hlen:=f5.length
     rw[hlen] at hq
     obtain⟨q1,q2,q3,q4⟩:=zWF hq
     have hb:vs'.length < 2^40:=by rw[←hlen];exact Nat.lt_of_le_of_lt hl (by decide)
     refine⟨p,vs',n,q,w,rfl,by rw[zB.mp r1],f2,by omega,by omega,q1,hw,?_⟩
     exact k _ _ G1 s1.gg ((good1.wr hi e1 (f5.erase q)).setF j rw')
   · cases hf
 · cases hf
def zZE (i:Nat)(fi fv:Ef):Sf:=fun ρ=>(fv ρ).bind fun d=>(fi ρ).bind fun n=>match n,ρ[i]? with
 | .int n,some (.ow ds)=>if ds.length<=lim then(ixN ds.length n).map fun q=>.nx (ρ.set i (.ow (ds.set q d))) else none
 | _,_=>none
theorem zWa (i:Nat){x:Str}{p1 p2:Pos}(he:PF X e fa)(hb:PF X b fb)(hN:X.N[i]?=some x:=by rfl)(hv:Vis X.env.scope x:=by first | exact Or.inl rfl | exact Or.inr (Or.inl rfl) | exact Or.inr (Or.inr rfl))(hd:(x==("__debug__":Str))=false:=by decide)(hcd:(x==("__classdict__":Str))=false:=by decide)
   (ha:∀v,assign (.Subscript (.Name x p1) b p2) X.env v=(do
     let ov ←holding [v] (eval (.Name x p1) X.env)
     let iv ←holding [v,ov] (eval b X.env)
     standAt p2
     holding [v,ov,iv] (setItem ov iv v)
     release [v,ov,iv] []):=by intro _;rfl)
   (hs:swapsWithSole [.Subscript (.Name x p1) b p2] e pos.line X.env=pure false:=by rfl) (hw:swappedStores [.Subscript (.Name x p1) b p2] e X.env=pure none:=by rfl)
   (h1:(assignEach [.Subscript (.Name x p1) b p2] X.env).map (·.2)=[assign (.Subscript (.Name x p1) b p2) X.env]:=by rfl):PFS X (.Assign [.Subscript (.Name x p1) b p2] e pos) (zZE i fb fa):=by
 refine PS.to (zTx he (zPE (pK hN hv hd hcd) hb zQ1 ha) hs hw h1) ?_
 rintro D σ H ⟨G0,H0,G,ρ,o,good,hf,k⟩
 unfold zZE at hf
 obtain⟨d,h1,hf⟩:=Qq.mp hf
 obtain⟨n,h2,hf⟩:=Qq.mp hf
 split at hf
 · rename_i n ds hi
   split at hf
   · rename_i hl
     obtain⟨q,hq,rfl⟩:=Qt.mp hf
     refine⟨G0,H0,G,ρ,d,good,h1,fun v H1 G1 s1 r1=>?_⟩
     have good1:=good.step s1
     obtain⟨p,vs,e1,e2,e3,e4,e5⟩:=good1.addr hi
     refine⟨.ref p,e1,G0,H0,G1,ρ,_,good1,h2,fun u H2 G2 s2 r2=>?_⟩
     have good2:=good1.step s2
     obtain⟨p',vs',f1,f2,f3,f4,f5⟩:=good2.addr hi
     rw[e1] at f1;cases f1
     refine⟨p,vs',n,q,rfl,zB.mp r2,f2,by rw[←f5.length];exact hq,?_⟩
     exact k _ _ G2 (s1.gg.trans s2.gg) (good2.wr hi e1 (f5.set q (r1.mono s2.gg)))
   · cases hf
 · cases hf
def zRq:D->Option D
 | .tup ds=>some (.int ds.length)
 | .lst ds=>some (.int ds.length)
 | .str z=>if z.length<=lim then some (.int z.length) else none
 | _=>none
def wT (f:Ef):Ef:=fun ρ=>(f ρ).bind zRq
theorem wI {p:Pos}(hg:Gl X "len")(hm:X.mg "len"=none)(h:PF X a fa)(hs:starEach [a] X.env=[(false,eval a X.env)]:=by rfl):PF X (.Call (.Name "len" p) [a] [] pos) (wT fa):=by
 refine PE.to (sV (cY.or zWH) hg hm PySem.boot_len (yV h yE (by rw[hs];rfl)) (by decide) (by decide) (by rw[hs];rfl) (by rfl)) ?_
 rintro σ H Q ⟨G0,H0,G,ρ,d,good,hf,k⟩
 unfold wT at hf
 obtain⟨x,h1,hf⟩:=Qq.mp hf
 refine⟨G0,H0,G,ρ,_,good,h1,fun v H1 G1 s1 r1=>?_⟩
 unfold zRq at hf
 split at hf
 · cases hf
   obtain⟨p,vs,rfl,q,rs⟩:=xI.mp r1
   exact .inl ⟨p,vs,rfl,.inr (s1.sub.tup q),k _ _ G1 s1 (zB.mpr (by rw[rs.length]))⟩
 · cases hf
   obtain⟨p,vs,rfl,q,rs⟩:=xH.mp r1
   exact .inl ⟨p,vs,rfl,.inl (s1.sub.seq q),k _ _ G1 s1 (zB.mpr (by rw[rs.length]))⟩
 · split at hf
   · rename_i hz
     cases hf
     exact .inr ⟨_,by rw[yI.mp r1],Wj (wD hz),k _ _ G1 s1 (zB.mpr rfl)⟩
   · cases hf
 · cases hf
def jW (i:Nat):Ef:=fun ρ=>match ρ[i]? with | some (.ow ds)=>some (.int ds.length) | _=>none
theorem zZI (i:Nat){x:Str}{p p1:Pos}(hg:Gl X "len")(hm:X.mg "len"=none)(hN:X.N[i]?=some x:=by rfl)(hv:Vis X.env.scope x:=by first | exact Or.inl rfl | exact Or.inr (Or.inl rfl) | exact Or.inr (Or.inr rfl))(hd:(x==("__debug__":Str))=false:=by decide)(hcd:(x==("__classdict__":Str))=false:=by decide):PF X (.Call (.Name "len" p) [.Name x p1] [] pos) (jW i):=by
 refine PE.to (sV cY hg hm PySem.boot_len (yV (pK hN hv hd hcd) yE)) ?_
 rintro σ H Q ⟨G0,H0,G,ρ,d,good,hf,k⟩
 unfold jW at hf
 split at hf
 · rename_i ds hi
   cases hf
   obtain⟨q,vs,e1,e2,e3,e4,e5⟩:=good.addr hi
   exact⟨.ref q,e1,q,vs,rfl,.inl (.of e2),k _ _ G (.refl good.sub) (zB.mpr (by rw[e5.length]))⟩
 · cases hf
def zTb:D->Option D | .lst ds=>some (.tup ds) | .tup ds=>some (.tup ds) | _=>none
def vX (f:Ef):Ef:=fun ρ=>(f ρ).bind zTb
theorem uY {p:Pos}(hg:Gl X "tuple")(hm:X.mg "tuple"=none)(h:PF X a fa)(hs:starEach [a] X.env=[(false,eval a X.env)]:=by rfl):PF X (.Call (.Name "tuple" p) [a] [] pos) (vX fa):=by
 refine PE.to (qA zXX hg hm (by rfl) (yV h yE (by rw[hs];rfl)) (by decide) (by decide) (by rw[hs];rfl) (by rfl)) ?_
 rintro σ H Q ⟨G0,H0,G,ρ,d,good,hf,k⟩
 unfold vX at hf
 obtain⟨x,h1,hf⟩:=Qq.mp hf
 refine⟨G0,H0,G,ρ,_,good,h1,fun v H1 G1 s1 r1=>?_⟩
 unfold zTb at hf
 split at hf
 · cases hf
   obtain⟨p,vs,rfl,q,rs⟩:=xH.mp r1
   refine⟨p,vs,rfl,.inl ⟨s1.sub.seq q,fun l hl=>?_⟩⟩
   have s2:=Step.laid (o:=.tup vs) s1.sub hl
   exact k _ _ _ (s1.trans s2) (xI.mpr ⟨l,vs,rfl,.of zC,rs.mono s2.gg⟩)
 · cases hf
   obtain⟨p,vs,rfl,q,rs⟩:=xI.mp r1
   exact⟨p,vs,rfl,.inr ⟨s1.sub.tup q,k _ _ G1 s1 r1⟩⟩
 · cases hf
def zOY:D->Option (List D) | .lst ds=>some ds | .tup ds=>some ds | _=>none
def zWL (f:Ef):Lf:=fun ρ=>(f ρ).bind zOY
theorem zRO {p:Pos}(hg:Gl X "list")(hm:X.mg "list"=none)(h:PF X a fa)(hs:starEach [a] X.env=[(false,eval a X.env)]:=by rfl):PFr X (.Call (.Name "list" p) [a] [] pos) (zWL fa):=by
 refine PE.toR (qA zVP hg hm (by rfl) (yV h yE (by rw[hs];rfl)) (by decide) (by decide) (by rw[hs];rfl) (by rfl)) ?_
 rintro σ H Q ⟨G0,H0,G,ρ,d,good,hf,k⟩
 unfold zWL at hf
 obtain⟨x,h1,hf⟩:=Qq.mp hf
 refine⟨G0,H0,G,ρ,_,good,h1,fun v H1 G1 s1 r1=>?_⟩
 unfold zOY at hf
 split at hf
 · cases hf
   obtain⟨p,vs,rfl,q,rs⟩:=xH.mp r1
   exact⟨p,vs,rfl,.inl (s1.sub.seq q),fun l hl=>k l vs _ G1 (s1.trans (Step.own s1.sub hl)) (s1.hh.free hl) zC (s1.sub.free hl) rs⟩
 · cases hf
   obtain⟨p,vs,rfl,q,rs⟩:=xI.mp r1
   exact⟨p,vs,rfl,.inr (s1.sub.tup q),fun l hl=>k l vs _ G1 (s1.trans (Step.own s1.sub hl)) (s1.hh.free hl) zC (s1.sub.free hl) rs⟩
 · cases hf
theorem zVE:CallR X (.type "range") (fun xs H Q=>∃j,xs=[.int j]/\∀p,H p=none->Q (.ref p) (upd H p (.rng 0 j))):=by
 intro pins s σ H xs us Q I r h
 obtain⟨j,rfl,q⟩:=h
 obtain⟨u,rfl,ru⟩:=pI r
 obtain⟨t,rfl⟩:=ru
 refine call_range_1 ⟨.ref s.heap.objs.size,_,I.laid (o:=.rng 0 j) (fun b o e=>Qr _ e) (Ql _) ?_,rfl,q _ I.fresh⟩
 exact⟨_,_,_,Qa _ rfl⟩
theorem zZm (hc:X.calm=true):CallR X (.type "list") (fun xs H Q=>∃p j,xs=[.ref p]/\H p=some (.rng 0 j) /\ -1000000<=j/\j<=100000/\∀l,H l=none->Q (.ref l) (upd H l (.lst ((List.range j.toNat).map fun(i:Nat)=>V.int (0+(i:Nat)))))):=by
 intro pins s σ H xs us Q I r h
 obtain⟨p,j,rfl,hp,h1,h2,q⟩:=h
 obtain⟨u,rfl,ru⟩:=pI r
 cases ru
 obtain⟨t,u',v,e⟩:=(show ObjOk X.prog X.w H s.heap p (.rng 0 j) from I.hok p _ hp)
 have hsz:Builtin.Range.rangeSize 0 j 1=(j.toNat:Nat):=by rw[rangeSize_one];split<;>omega
 refine call_list_range (n:=j.toNat) (I.ok.hd hc) (show IsRange s.heap p 0 j 1 t u' v from e) (small_one (by omega) (by omega) (by omega) (by omega)) hsz (by omega) fun h' tk acc' c' hk hS hit=>?_
 have hvals:Vals ((List.range j.toNat).map fun(i:Nat)=>V.int (0+(i:Nat))) acc'.toList:=by
   have hl:acc'.toList.length=j.toNat:=by simpa using hit.1
   have gen:∀(l:List Value) (k:Nat),(∀i v,l[i]?=some v->∃t,v=Value.int (0+((k+i:Nat):Int)) t)->Vals ((List.range' k l.length).map fun(i:Nat)=>V.int (0+(i:Nat))) l:=by
     intro l
     induction l with
     | nil=>intro k _;exact .nil
     | cons y r ih =>
       intro k hh
       rw[Qp,List.range'_succ,Qg]
       refine .cons ?_ (ih (k+1) fun i v e=>?_)
       · obtain⟨t,e⟩:=hh 0 y rfl
         exact⟨t,by simpa using e⟩
       · obtain⟨t,e'⟩:=hh (i+1) v (by simpa using e)
         exact⟨t,by rw[e',show k+(i+1)=k+1+i by omega]⟩
   have:=gen acc'.toList 0 fun i v e=>by
     obtain⟨t,e'⟩:=hit.2 i v (by simpa using e)
     exact⟨t,by rw[e'];simp⟩
   rw[hl,←List.range_eq_range'] at this
   exact this
 refine⟨.ref s.heap.objs.size,_,I.laid (t':=tk) (o:=.lst _) hk (Ql _) ?_,rfl,q _ I.fresh⟩
 exact⟨by rw[Qo,List.length_range];exact Wj (wD (by show j.toNat<=100000;omega)),acc'.toList,c',hvals,by simpa using hS⟩
def zTG (f:Ef):Lf:=fun ρ=>(f ρ).bind fun d=>match d with | .int n=>if decide (-1000000<=n)&&decide (n<=100000) then some (vQ 0 n.toNat) else none | _=>none
theorem zRC {K:PySem.W.Frag}{G:Hp}(n:Nat):Reps K G (vQ 0 n) ((List.range n).map fun(i:Nat)=>V.int (0+(i:Nat))):=by
 unfold vQ
 induction (List.range n) with
 | nil=>exact yR.mpr rfl
 | cons x r ih=>exact z9.mpr ⟨_,_,rfl,zB.mpr rfl,ih⟩
theorem zPY {p p1 p2:Pos}(hc:X.calm=true)(hg:Gl X "list")(hm:X.mg "list"=none)(hg':Gl X "range")(hm':X.mg "range"=none)(h:PF X a fa)(hs:starEach [a] X.env=[(false,eval a X.env)]:=by rfl)
   (hs2:starEach [.Call (.Name "range" p1) [a] [] p2] X.env=[(false,eval (.Call (.Name "range" p1) [a] [] p2) X.env)]:=by rfl) :
   PFr X (.Call (.Name "list" p) [.Call (.Name "range" p1) [a] [] p2] [] pos) (zTG fa):=by
 refine PE.toR (qA (zZm hc) hg hm (by rfl) (yV (qA zVE hg' hm' (by rfl) (yV h yE (by rw[hs];rfl)) (by decide) (by decide) (by rw[hs];rfl) (by rfl)) yE (by rw[hs2];rfl)) (by decide) (by decide) (by rw[hs2];rfl) (by rfl)) ?_
 rintro σ H Q ⟨G0,H0,G,ρ,ds,good,hf,k⟩
 unfold zTG at hf
 obtain⟨d,h1,hf⟩:=Qq.mp hf
 cases d with
 | int n =>
   dsimp only at hf
   split at hf
   · rename_i hc
     cases hf
     simp only[Qx,Wc] at hc
     refine⟨G0,H0,G,ρ,_,good,h1,fun x H1 G1 s1 r1=>⟨n,by rw[zB.mp r1],fun p hp=>⟨p,n,rfl,zC,hc.1,hc.2,fun l hl=>?_⟩⟩⟩
     have s2:Step G1 H1 G1 (upd H1 p (.rng 0 n)):=Step.own s1.sub hp
     have s3:=Step.own (o:=.lst ((List.range n.toNat).map fun(i:Nat)=>V.int (0+(i:Nat)))) s2.sub hl
     exact k l _ _ G1 ((s1.trans s2).trans s3) ((s1.trans s2).hh.free hl) zC (s2.sub.free hl) (zRC _)
   · cases hf
 | _=>cases hf
end
def spF (K:PySem.W.Frag)(n:Nat)(f:List D->Option D):Sp:=fun vs H Q _=>∃G ds d,Same G H/\Reps K G ds vs/\ds.length=n/\f ds=some d/\∀v H' G',Step G H G' H'->Rep K G' d v->Q v H'
def spL (K:PySem.W.Frag)(n:Nat)(f:List D->Option (List D)):Sp:=fun vs H Q _=>∃G ds es,Same G H/\Reps K G ds vs/\ds.length=n/\f ds=some es/\∀a us H' G',Step G H G' H'->H a=none->H' a=some (.lst us)->G' a=none->Reps K G' es us->Q (.ref a) H'
def rC (N:Nat)(ds:List D):List B:=ds.map .fz++List.replicate (N - ds.length) .no
def wA:Out->Option D
 | .nx _=>some .non
 | .rt d=>some d
 | .rl ds=>some (.lst ds)
 | _=>none
def zZD:Out->Option (List D)
 | .rl ds=>some ds
 | _=>none
def fnF (N:Nat)(body:Sf)(ds:List D):Option D:=(body (rC N ds)).bind wA
def fnL (N:Nat)(body:Sf)(ds:List D):Option (List D):=(body (rC N ds)).bind zZD
theorem lT {K:PySem.W.Frag}{G H:Hp}{N:List Str}{ds:List D}{vs:List V}(s:Same G H)(r:Reps K G ds vs):Good K G H G H (oE N vs) (rC N.length ds):=by
 refine⟨.refl s,?_,fun i j a es es' h1=>?_⟩
 · unfold oE rC
   rw[r.length]
   have rep:∀m:Nat,Paired (RB K H G H) (List.replicate m (none:Option V)) (List.replicate m B.no):=fun m=>by
     induction m with
     | zero=>exact .nil
     | succ n ih=>rw[Wl,Wl];exact .cons .no ih
   have key:∀(ds:List D) (vs:List V) (l:List (Option V)) (q:List B),Reps K G ds vs->Paired (RB K H G H) l q->Paired (RB K H G H) (vs.map some++l) (ds.map .fz++q):=by
     intro ds
     induction ds with
     | nil=>intro vs l q h p;rw[yR] at h;subst h;exact p
     | cons d r ih =>
       intro vs l q h p
       obtain⟨v,vr,rfl,h1,h2⟩:=z9.mp h
       exact .cons (.fz h1) (ih vr l q h2 p)
   exact key ds vs _ _ r (rep _)
 · unfold rC at h1
   by_cases hi:i < ds.length
   · rw[Ec (by simpa using hi),Wq] at h1
     obtain⟨k,_,h1⟩:=Qt.mp h1
     cases h1
   · rw[Ep (by simpa using hi),Re] at h1
     split at h1<;>cases h1
section
variable {P:Program} {w:World} {K:PySem.W.Frag} {mg:Str->Option Value} {base:Heap} {x qual:Str} {st:Stmt} {f:Addr} {fd:FuncData} {N ps:List Str} {k:Nat}
theorem xD {body:Sf}(F:Fun K x qual st f fd)(S:FnScope N ps (zV st))
   (hb:∀(cdv:Value) (A:Around) (outer:List Env) (s:Shared) (H:Hp) (E:XK),Room k (A.deeper (envOfC qual (zV st) s.heap.objs.size f cdv))->PFSs (kO CX0 P w K mg base N qual (zV st) f cdv A outer s H E).nox (zK st) body) :
   FnOk P w K mg base CX0 (k+1) f fd ps (spF K ps.length (fnF N.length body)):=by
 refine F.ok S (fun vs H Q E h=>?_) (fun cdv A outer s H vs Q E hr h=>⟨_,hb cdv A outer s H E hr,?_⟩)
 · obtain⟨G,ds,d,sub,rs,hl,_⟩:=h
   rw[←rs.length];exact hl
 · obtain⟨G,ds,d,sub,rs,hl,hf,k⟩:=h
   unfold fnF at hf
   obtain⟨o,h1,h2⟩:=Qq.mp hf
   refine⟨G,H,G,_,o,lT sub rs,h1,?_⟩
   cases o with
   | nx ρ=>cases h2;exact fun σ' H' G' s' g'=>k .non H' G' g'.st (vD.mpr rfl)
   | rt e=>cases h2;exact fun v H' G' s' r=>k v H' G' s' r
   | rl es=>cases h2;exact fun p us H' G' s' hn hp gp r=>k _ H' (upd G' p (.lst us)) (s'.frz hn hp gp) (xH.mpr ⟨p,us,rfl,.of zC,r.mono (Same.new gp)⟩)
   | bk ρ=>cases h2
   | ct ρ=>cases h2
theorem lC {body:Sf}(F:Fun K x qual st f fd)(S:FnScope N ps (zV st))
   (hb:∀(cdv:Value) (A:Around) (outer:List Env) (s:Shared) (H:Hp) (E:XK),Room k (A.deeper (envOfC qual (zV st) s.heap.objs.size f cdv))->PFSs (kO CX0 P w K mg base N qual (zV st) f cdv A outer s H E).nox (zK st) body) :
   FnOk P w K mg base CX0 (k+1) f fd ps (spL K ps.length (fnL N.length body)):=by
 refine F.ok S (fun vs H Q E h=>?_) (fun cdv A outer s H vs Q E hr h=>⟨_,hb cdv A outer s H E hr,?_⟩)
 · obtain⟨G,ds,d,sub,rs,hl,_⟩:=h
   rw[←rs.length];exact hl
 · obtain⟨G,ds,d,sub,rs,hl,hf,k⟩:=h
   unfold fnL at hf
   obtain⟨o,h1,h2⟩:=Qq.mp hf
   refine⟨G,H,G,_,o,lT sub rs,h1,?_⟩
   cases o with
   | rl es=>cases h2;exact fun p us H' G' s' hn hp gp r=>k p us H' G' s' hn hp gp r
   | _=>cases h2
theorem zOG {CX:CXT}{n:Nat}:FnOk P w K mg base CX k f fd ps (spF K n fun _=>none) :=
 ⟨fun vs H Q E h=>(by obtain⟨_,_,_,_,_,_,z,_⟩:=h;exact nomatch z),fun A outer s H args us vs Q E _ _ _ _ h=>(by obtain⟨_,_,_,_,_,_,z,_⟩:=h;exact nomatch z)⟩
end
section
variable {X:Cx} {a b c e tg elt iter:Expr} {es ifs:List Expr} {fa fb fc:Ef} {ga gi:Lf} {ta tc:Tf} {pos p:Pos} {st:Stmt} {sts rest:List Stmt} {f g:Sf}
def zM (n:Nat)(f:List D->Option D)(g:Lf):Ef:=fun ρ=>(g ρ).bind fun ds=>if ds.length=n then f ds else none
theorem zNX {k n:Nat}{fad:Addr}{fd:FuncData}{ps:List Str}{x:Str}{fD:List D->Option D}(F:FnOk X.prog X.w X.K X.mg X.base CX0 k fad fd ps (spF X.K n fD))(hr:Room k X.A)(hm:X.mg x=some (.ref fad))(hk:PySem.W.keepIn X.K (.ref fad)=true)(hb:Binds X.K fd ps [])(hg:Gl X x)
   (ha:PFA X (e::es) ga) (hdb:(x==("__debug__":Str))=false:=by decide) (he:starEach (e::es) X.env=(false,eval e X.env)::starEach es X.env:=by rfl) (hpl:(backTo pos (starEach es X.env)).any (·.1)=false:=by rfl) :
   PF X (.Call (.Name x p) (e::es) [] pos) (zM n fD ga):=by
 refine PE.to (zZP (E:=E0) F hr hg hm hk hb .nil zS6 ha hdb he hpl) ?_
 rintro σ H Q ⟨G0,H0,G,ρ,d,good,hf,k⟩
 unfold zM at hf
 obtain⟨ds,h1,hf⟩:=Qq.mp hf
 split at hf
 · rename_i hl
   refine⟨G0,H0,G,ρ,_,good,h1,fun vs H1 G1 s1 r1=>?_⟩
   show spF X.K n fD (vs++[]) H1 Q E0
   rw[Wh]
   exact⟨G1,ds,d,s1.sub,r1,hl,hf,fun v H' G' s r=>k v H' G' (s1.trans s) r⟩
 · cases hf
def vY (n:Nat)(f:List D->Option (List D))(g:Lf):Lf:=fun ρ=>(g ρ).bind fun ds=>if ds.length=n then f ds else none
theorem zN1 {k n:Nat}{fad:Addr}{fd:FuncData}{ps:List Str}{x:Str}{fD:List D->Option (List D)}(F:FnOk X.prog X.w X.K X.mg X.base CX0 k fad fd ps (spL X.K n fD))(hr:Room k X.A)(hm:X.mg x=some (.ref fad))(hk:PySem.W.keepIn X.K (.ref fad)=true)(hb:Binds X.K fd ps [])(hg:Gl X x)
   (ha:PFA X (e::es) ga) (hdb:(x==("__debug__":Str))=false:=by decide) (he:starEach (e::es) X.env=(false,eval e X.env)::starEach es X.env:=by rfl) (hpl:(backTo pos (starEach es X.env)).any (·.1)=false:=by rfl) :
   PFr X (.Call (.Name x p) (e::es) [] pos) (vY n fD ga):=by
 refine PE.toR (zZP (E:=E0) F hr hg hm hk hb .nil zS6 ha hdb he hpl) ?_
 rintro σ H Q ⟨G0,H0,G,ρ,d,good,hf,k⟩
 unfold vY at hf
 obtain⟨ds,h1,hf⟩:=Qq.mp hf
 split at hf
 · rename_i hl
   refine⟨G0,H0,G,ρ,_,good,h1,fun vs H1 G1 s1 r1=>?_⟩
   show spL X.K n fD (vs++[]) H1 Q E0
   rw[Wh]
   exact⟨G1,ds,d,s1.sub,r1,hl,hf,fun p us H' G' s hn hp gp r=>k p us H' G' (s1.trans s) (s1.hh.free hn) hp gp r⟩
 · cases hf
def uM (t:Tf)(body:Sf):Nat->Sf
 | 0,_=>none
 | n+1,ρ=>(t ρ).bind fun c=>if c=true then(body ρ).bind fun o=>match o with
     | .nx ρ2=>uM t body n ρ2
     | .ct ρ2=>uM t body n ρ2
     | .bk ρ2=>some (.nx ρ2)
     | o=>some o
   else some (.nx ρ)
theorem zWR (n:Nat){body:List Stmt}{fb:Sf}(hp:PassesOwn (model X.prog X.w) X.A X.env X.xe)(hc:PFT X c tc)(hb:PFSs X body fb):PFS X (.While c body [] pos) (uM tc fb n):=by
 refine PS.to (zQ8 hp hc hb) ?_
 rintro D σ H ⟨G0,H0,G,ρ,o,good,hf,k⟩
 refine⟨fun m σ H=>∃G2 ρ2,Same G G2/\Good X.K G0 H0 G2 H σ ρ2/\uM tc fb m ρ2=some o,⟨n,G,ρ,Same.refl _,good,hf⟩,?_⟩
 rintro m σ2 H2 ⟨G2,ρ2,sg,good2,hf2⟩
 cases m with
 | zero=>cases hf2
 | succ m =>
   unfold uM at hf2
   obtain⟨c',h1,hf2⟩:=Qq.mp hf2
   refine⟨G0,H0,G2,ρ2,c',good2,h1,fun H3 G3 s3=>?_⟩
   cases c' with
   | true =>
     rw[Qn rfl] at hf2
     obtain⟨o1,e2,hf2⟩:=Qq.mp hf2
     refine⟨fun σ' H'=>∃G2 ρ2,Same G G2/\Good X.K G0 H0 G2 H' σ' ρ2/\uM tc fb m ρ2=some o,fun σ' H' h=>⟨m,Iv _,h⟩,?_⟩
     refine⟨G0,H0,G3,ρ2,o1,good2.step s3,e2,?_⟩
     have sg3:Same G G3:=sg.trans s3.gg
     cases o1 with
     | nx ρ5=>exact fun σ5 H5 G5 s5 good5=>⟨G5,ρ5,sg3.trans s5,good5,hf2⟩
     | ct ρ5=>exact fun σ5 H5 G5 s5 good5=>⟨G5,ρ5,sg3.trans s5,good5,hf2⟩
     | bk ρ5=>cases hf2;exact fun σ5 H5 G5 s5 good5=>k σ5 H5 G5 (sg3.trans s5) good5
     | rt d=>cases hf2;exact k
     | rl d=>cases hf2;exact k
   | false =>
     rw[Wd (by decide)] at hf2
     cases hf2
     exact k σ2 H3 G3 (sg.trans s3.gg) (good2.step s3)
def tyD:D->Option String
 | .non=>some "NoneType"
 | .bl _=>some "bool"
 | .int _=>some "int"
 | .str _=>some "str"
 | .tup _=>some "tuple"
 | .lst _=>some "list"
 | _=>none
theorem zKK {pins:List (Addr×Obj)}{σ:St}{H G:Hp}{s:Shared}{A:Around}{E:Value->Shared->Prop}{Q:Value->Shared->Prop}{d:D}{v:V}{u cl:Value}{t:String}{k:Bool}(I:Inv X pins σ H s)(rv:RelV v u)(sub:Same G H)(r:Rep X.K G d v)(ht:tyD d=some t)
   (e:PySem.W.kitOne X.K (.type t) cl=some k) (h:∀tk,Q (.bool k) { s with toks:=tk }):wpAny (model X.prog X.w) A (call (.builtin "isinstance") [u,cl]) Q E s:=by
 cases d with
 | non=>cases ht;rw[vD] at r;subst r;cases rv;exact Tw PySem.W.kitx_none I.kIn True.intro e (fun z=>nomatch z) h
 | bl y=>cases ht;rw[wX] at r;subst r;cases rv;exact Tw PySem.W.kitx_bool I.kIn True.intro e (fun z=>nomatch z) h
 | int i=>cases ht;rw[zB] at r;subst r;obtain⟨t,rfl⟩:=rv;exact Tw PySem.W.kitx_int I.kIn True.intro e (fun z=>nomatch z) h
 | str i=>cases ht;rw[yI] at r;subst r;obtain⟨t,rfl⟩:=rv;exact Tw PySem.W.kitx_str I.kIn True.intro e (fun z=>nomatch z) h
 | tup ds =>
   cases ht
   obtain⟨p,vs,rfl,q,_⟩:=xI.mp r
   cases rv
   obtain⟨its,_,⟨o,h1,h2,_⟩,_⟩:=I.tuple (sub.tup q)
   exact Tw PySem.W.kitx_tuple I.kIn ⟨o,h1,h2⟩ e (fun z=>nomatch z) h
 | lst ds =>
   cases ht
   obtain⟨p,vs,rfl,q,_⟩:=xH.mp r
   cases rv
   obtain⟨its,_,⟨o,n,h1,h2,_⟩,_⟩:=I.list (sub.seq q)
   exact Tw PySem.W.kitx_list I.kIn ⟨o,h1,h2⟩ e (fun z=>nomatch z) h
 | obj C ns ds=>cases ht
 | exc C ns ds=>cases ht
theorem zNk (K:PySem.W.Frag):∀t:String,t∈["NoneType","bool","int","str","tuple","list"]->PySem.W.kitOne K (.type t) (.type "int")=some (decide (t="bool"∨t="int")):=by
 intro t ht
 simp only[Qj,Ws,Rj] at ht
 rcases ht with rfl | rfl | rfl | rfl | rfl | rfl<;>kernel_rfl
theorem zQw (K:PySem.W.Frag):∀t:String,t∈["NoneType","bool","int","str","tuple","list"]->PySem.W.kitOne K (.type t) (.type "bool")=some (decide (t="bool")):=by
 intro t ht
 simp only[Qj,Ws,Rj] at ht
 rcases ht with rfl | rfl | rfl | rfl | rfl | rfl<;>kernel_rfl
theorem zNZ (K:PySem.W.Frag):∀t:String,t∈["NoneType","bool","int","str","tuple","list"]->PySem.W.kitOne K (.type t) (.type "str")=some (decide (t="str")):=by
 intro t ht
 simp only[Qj,Ws,Rj] at ht
 rcases ht with rfl | rfl | rfl | rfl | rfl | rfl<;>kernel_rfl
theorem zRB (K:PySem.W.Frag):∀t:String,t∈["NoneType","bool","int","str","tuple","list"]->PySem.W.kitOne K (.type t) (.type "tuple")=some (decide (t="tuple")):=by
 intro t ht
 simp only[Qj,Ws,Rj] at ht
 rcases ht with rfl | rfl | rfl | rfl | rfl | rfl<;>kernel_rfl
theorem zPm (K:PySem.W.Frag):∀t:String,t∈["NoneType","bool","int","str","tuple","list"]->PySem.W.kitOne K (.type t) (.type "list")=some (decide (t="list")):=by
 intro t ht
 simp only[Qj,Ws,Rj] at ht
 rcases ht with rfl | rfl | rfl | rfl | rfl | rfl<;>kernel_rfl
theorem dH {d:D}{t:String}(h:tyD d=some t):t∈["NoneType","bool","int","str","tuple","list"]:=by
 cases d<;>cases h<;>simp
def gA (p:D->Bool)(f:Ef):Ef:=fun ρ=>(f ρ).bind fun d=>match d with | .obj _ _ _=>none | .exc _ _ _=>none | d=>some (.bl (p d))
def isInt:D->Bool | .int _=>true | .bl _=>true | _=>false
def kD:D->Bool | .bl _=>true | _=>false
def isStr:D->Bool | .str _=>true | _=>false
def iB:D->Bool | .tup _=>true | _=>false
def iF:D->Bool | .lst _=>true | _=>false
theorem lB {T:Str}{TT:String}{q:D->Bool}{p1:Pos}(hT:bootBuiltins T=some (.type TT))(hq:∀(K:PySem.W.Frag) d t,tyD d=some t->PySem.W.kitOne K (.type t) (.type TT)=some (q d))(hg:Gl X "isinstance")(hm:X.mg "isinstance"=none)(hgT:Gl X T)(hmT:X.mg T=none)(h:PF X a fa)
   (hn:T≠"__name__":=by decide) (hd:(T==("__debug__":Str))=false:=by decide) (hs:starEach [a,.Name T p1] X.env=[(false,eval a X.env),(false,eval (.Name T p1) X.env)]:=by rfl):PF X (.Call (.Name "isinstance" p) [a,.Name T p1] [] pos) (gA q fa):=by
 have hcall:CallR X (.builtin "isinstance") (fun xs H Q=>∃x G d,xs=[x,.ty TT]/\Same G H/\Rep X.K G d x/\(tyD d).isSome=true/\Q (.bl (q d)) H):=by
   intro pins s σ H xs us Q I r hh
   obtain⟨x,G,d,rfl,sub,rx,ht,qq⟩:=hh
   obtain⟨u,u',rfl,ru,ru'⟩:=zSJ r
   cases ru'
   obtain⟨t,ht⟩:=Rw.mp ht
   exact zKK I ru sub rx ht (hq _ d t ht) fun tk=>⟨.bl (q d),H,I.tok tk,rfl,qq⟩
 refine PE.to (sV hcall hg hm (by rfl) (yV h (yV (zSi (v:=.ty TT) hgT hmT hT rfl hn hd) yE) (by rw[hs];rfl)) (by decide) (by decide) (by rw[hs];rfl) (by rfl)) ?_
 rintro σ H Q ⟨G0,H0,G,ρ,d,good,hf,k⟩
 unfold gA at hf
 obtain⟨x,h1,hf⟩:=Qq.mp hf
 refine⟨G0,H0,G,ρ,_,good,h1,fun v H1 G1 s1 r1=>?_⟩
 have hx:(tyD x).isSome=true/\d = .bl (q x):=by
   cases x<;>first
     | (cases hf;exact⟨rfl,rfl⟩)
     | cases hf
 obtain⟨hx,rfl⟩:=hx
 exact⟨v,G1,x,rfl,s1.sub,r1,hx,k _ _ G1 s1 (wX.mpr rfl)⟩
theorem zQl (K:PySem.W.Frag)(d:D)(t:String)(h:tyD d=some t):PySem.W.kitOne K (.type t) (.type "int")=some (isInt d):=by
 rw[zNk K t (dH h)];cases d<;>cases h<;>simp[isInt,kD,isStr,iB,iF]
theorem zNC (K:PySem.W.Frag)(d:D)(t:String)(h:tyD d=some t):PySem.W.kitOne K (.type t) (.type "bool")=some (kD d):=by
 rw[zQw K t (dH h)];cases d<;>cases h<;>simp[isInt,kD,isStr,iB,iF]
theorem zPl (K:PySem.W.Frag)(d:D)(t:String)(h:tyD d=some t):PySem.W.kitOne K (.type t) (.type "str")=some (isStr d):=by
 rw[zNZ K t (dH h)];cases d<;>cases h<;>simp[isInt,kD,isStr,iB,iF]
theorem zQ7 (K:PySem.W.Frag)(d:D)(t:String)(h:tyD d=some t):PySem.W.kitOne K (.type t) (.type "tuple")=some (iB d):=by
 rw[zRB K t (dH h)];cases d<;>cases h<;>simp[isInt,kD,isStr,iB,iF]
theorem zPx (K:PySem.W.Frag)(d:D)(t:String)(h:tyD d=some t):PySem.W.kitOne K (.type t) (.type "list")=some (iF d):=by
 rw[zPm K t (dH h)];cases d<;>cases h<;>simp[isInt,kD,isStr,iB,iF]
def zNb:List D->Option (List Bool)
 | []=>some []
 | .bl k::r=>(zNb r).map fun ks=>k::ks
 | _=>none
def zLh (f:Ef):Ef:=fun ρ=>(f ρ).bind fun d=>match d with | .lst ds=>(zNb ds).map fun ks=>.bl (ks.all id) | _=>none
theorem zRG (hc:X.calm=true):CallR X (.builtin "all") (fun xs H Q=>∃(p:Addr) (ks:List Bool),xs=[V.ref p]/\SqL X.K H p (ks.map V.bl)/\Q (.bl (ks.all id)) H):=by
 intro pins s σ H xs us Q I r h
 obtain⟨p,ks,rfl,hq,q⟩:=h
 obtain⟨u,rfl,ru⟩:=pI r
 cases ru
 obtain⟨its,rv,pl,hz⟩:=I.list hq
 have hks:∀(i:Nat) (v:Value),its[i]?=some v->∃k,ks[i]?=some k/\v=Value.bool k:=fun i v e=>by
   have hi:i < ks.length:=by have:=rv.length;rw[Qo] at this;rw[this];exact(Qk.mp e).1
   obtain⟨u,e1,r1⟩:=rv.get (i:=i) (x:=.bl ks[i]) (by rw[Wq,Qu hi];rfl)
   rw[e] at e1;cases e1
   exact⟨ks[i],Qu hi,r1⟩
 have hlen:its.length=ks.length:=by have:=rv.length;rw[Qo] at this;exact this.symm
 refine call_all_walk (Yc pl.isList ?_)
 have hne:p≠s.heap.objs.size:=by obtain⟨o,_,e,_⟩:=pl;exact Wu (Qy e)
 refine⟨s.heap.objs.size,_,_,_,_,_,fun i=>(ks[i]?).getD true,rfl,Walks.list (A:=X.A.in1) (I.ok.hd hc) s.heap.objs.size p hne its.toArray,⟨⟨_,Qa _ rfl,rfl,rfl⟩,pl.isList.push _⟩,?_,fun h' tk hk=>?_⟩
 · intro i v s' Q' E' hv hQ'
   obtain⟨k,e1,rfl⟩:=hks i v (by simpa using hv)
   have hQ2:Q' ((ks[i]?).getD true) s':=hQ'
   rw[e1] at hQ2
   exact Rk hQ2
 · have hI:Inv X pins σ H { s with heap:=h',toks:=tk }:=I.kept fun b o e=>hk b o (by simp;exact Wu (Qy e)) (Qr _ e)
   have e:((List.range its.toArray.size).all fun i=>(ks[i]?).getD true)=ks.all id:=by
     rw[Qs,hlen]
     rw[Tz]
     simp only[Qh,Es,id]
     constructor
     · intro h x hx
       obtain⟨i,hi,rfl⟩:=List.getElem_of_mem hx
       have:=h i hi
       rw[Qu hi] at this
       exact this
     · intro h i hi
       rw[Qu hi]
       exact h _ (Rb hi)
   rw[e]
   exact⟨.bl (ks.all id),H,hI,rfl,q⟩
theorem zVg {K:PySem.W.Frag}{G:Hp}:∀ {ds:List D} {vs:List V} {ks:List Bool},zNb ds=some ks->Reps K G ds vs->vs=ks.map V.bl
 | [],_,_,h,r=>by cases h;rw[yR] at r;rw[r];rfl
 | d::t,_,_,h,r=>by
   unfold zNb at h
   split at h
   · rename_i h';cases h'
   · rename_i k t' h'
     cases h'
     obtain⟨v,vr,rfl,r1,r2⟩:=z9.mp r
     obtain⟨ks,h1,rfl⟩:=Qt.mp h
     rw[zVg h1 r2,wX.mp r1];rfl
   · cases h
theorem zMw (hc:X.calm=true)(hg:Gl X "all")(hm:X.mg "all"=none)(h:PF X a fa)(hs:starEach [a] X.env=[(false,eval a X.env)]:=by rfl):PF X (.Call (.Name "all" p) [a] [] pos) (zLh fa):=by
 refine PE.to (sV (zRG hc) hg hm (by rfl) (yV h yE (by rw[hs];rfl)) (by decide) (by decide) (by rw[hs];rfl) (by rfl)) ?_
 rintro σ H Q ⟨G0,H0,G,ρ,d,good,hf,k⟩
 unfold zLh at hf
 obtain⟨x,h1,hf⟩:=Qq.mp hf
 cases x with
 | lst ds =>
   dsimp only at hf
   obtain⟨ks,h2,rfl⟩:=Qt.mp hf
   refine⟨G0,H0,G,ρ,_,good,h1,fun v H1 G1 s1 r1=>?_⟩
   obtain⟨p,vs,rfl,q,rs⟩:=xH.mp r1
   have e:=zVg h2 rs
   subst e
   exact⟨p,ks,rfl,s1.sub.seq q,k _ _ G1 s1 (wX.mpr rfl)⟩
 | _=>cases hf
end
theorem Inv.turnedNew {X:Cx}{pins:List (Addr×Obj)}{σ:St}{H:Hp}{s:Shared}{h':Heap}{t':Nat}{fp:List Addr}{T:Addr}{o:HO}(I:Inv X pins σ H s)(k:∀b u,b∉fp->s.heap.get? b=some u->h'.get? b=some u)
   (hf:∀b∈fp,mQ X pins H b) (hT:s.heap.objs.size<=T) (new:ObjOk X.prog X.w (upd H T o) h' T o):Inv X pins σ (upd H T o) { s with heap:=h',toks:=t' }:=by
 have fr:H T=none:=I.hok.fresh hT
 have neT:∀b u,s.heap.get? b=some u->b≠T:=fun b u e=>Wu (We (Qy e) hT)
 have nfp:∀b u,H b=some u->b∉fp:=fun b u e z=>by have:=(hf b z).1;rw[e] at this;cases this
 refine I.step (g':=s.gens) (d':=s.drawn) (ch:=fp) (fun b hb=>⟨(hf b hb).2.2.2.1,(hf b hb).2.1,(hf b hb).2.2.2.2.1,(hf b hb).2.2.2.2.2⟩) (fun b u _ _ hc e _=>k b u hc e)
   (fun b u _ _ hc e _=>⟨u.slots,k b u hc e⟩) (fun b u _ e n=>by rw[yQ (neT b u e)];exact n) (fun b u hc e=>⟨u,k b u hc e⟩)
   (fun b xs e=>by rw[yQ (yJ e fr)];exact e) (fun b u x e=>by rw[yQ (yJ e fr)];exact e) (fun b ps e=>⟨#[],by rw[yQ (yJ e fr),e];simp⟩) (fun m hm=>?_) (fun b u e=>?_) I.bare
 · obtain⟨ob,es,ep,ho,r⟩:=hm
   exact⟨ob,es,ep,k _ ob (fun z=>(hf _ z).2.1 rfl) ho,r⟩
 · by_cases hb:b=T
   · subst hb;rw[zC] at e;cases e;exact new
   · rw[yQ hb] at e
     refine(I.hok b u e).stay (fun c v hc q=>k c v ?_ q) (fun c q=>by rw[yQ (yJ q fr)];exact q) fun c xs q=>by rw[yQ (yJ q fr)];exact q
     rcases hc with z | z
     · rw[z];exact nfp b u e
     · exact nfp c _ z
theorem Inv.turnedL {X:Cx}{pins:List (Addr×Obj)}{σ:St}{H:Hp}{s:Shared}{h':Heap}{t':Nat}{fp:List Addr}(I:Inv X pins σ H s)(k:∀b u,b∉fp->s.heap.get? b=some u->h'.get? b=some u)
   (hf:∀b∈fp,mQ X pins H b):Inv X pins σ H { s with heap:=h',toks:=t' }:=by
 have nfp:∀b u,H b=some u->b∉fp:=fun b u e z=>by have:=(hf b z).1;rw[e] at this;cases this
 refine I.step (g':=s.gens) (d':=s.drawn) (ch:=fp) (fun b hb=>⟨(hf b hb).2.2.2.1,(hf b hb).2.1,(hf b hb).2.2.2.2.1,(hf b hb).2.2.2.2.2⟩) (fun b u _ _ hc e _=>k b u hc e)
   (fun b u _ _ hc e _=>⟨u.slots,k b u hc e⟩) (fun b u _ e n=>n) (fun b u hc e=>⟨u,k b u hc e⟩) (fun b xs e=>e) (fun b u x e=>e) (fun b ps e=>⟨#[],by rw[e];simp⟩) (fun m hm=>?_) (fun b u e=>?_) I.bare
 · obtain⟨ob,es,ep,ho,r⟩:=hm
   exact⟨ob,es,ep,k _ ob (fun z=>(hf _ z).2.1 rfl) ho,r⟩
 · refine(I.hok b u e).stay (fun c v hc q=>k c v ?_ q) (fun c q=>q) fun c xs q=>q
   rcases hc with z | z
   · rw[z];exact nfp b u e
   · exact nfp c _ z
section
variable {X:Cx} {a b c e tg elt iter:Expr} {es ifs:List Expr} {fa fb fc:Ef} {ga gb gi:Lf} {ta tc:Tf} {pos p:Pos} {st:Stmt}
def numbered (ds:List D):List D:=ds.zipIdx.map fun q=>D.tup [.int (q.2:Nat),q.1]
def zNI (K:PySem.W.Frag)(f:Lf):TE:=fun σ H Q=>∃G0 H0 G ρ ds,Good K G0 H0 G H σ ρ/\f ρ=some ds/\∀a vs H' G',Step G H G' H'->SqL K G' a vs->Reps K G' ds vs->Q (.ref a) H'
def zU0 (X:Cx)(e:Expr)(f:Lf):Prop:=PE X e (zNI X.K f)
theorem gI (h:PFr X e ga):zU0 X e ga:=fun pins s σ H Q I q=>h pins s σ H Q I (by
 obtain⟨G0,H0,G,ρ,ds,good,hf,k⟩:=q
 exact⟨G0,H0,G,ρ,ds,good,hf,fun p vs H' G' s hn hp gp rs=>k p vs H' (upd G' p (.lst vs)) (s.frz hn hp gp) (.of zC) (rs.mono (Same.new gp))⟩)
theorem eF (h:PF X e fa):zU0 X e (iL fa):=fun pins s σ H Q I q=>h pins s σ H Q I (by
 obtain⟨G0,H0,G,ρ,ds,good,hf,k⟩:=q
 unfold iL at hf
 obtain⟨d,h1,hf⟩:=Qq.mp hf
 cases d with
 | lst es =>
   cases hf
   refine⟨G0,H0,G,ρ,_,good,h1,fun x H1 G1 s1 r1=>?_⟩
   obtain⟨p,vs,rfl,q,rs⟩:=xH.mp r1
   exact k p vs H1 G1 s1 q rs
 | _=>cases hf)
def fS (f g:Lf):Lf:=fun ρ=>(f ρ).bind fun xs=>(g ρ).bind fun ys=>okL (xs++ys)
theorem zTO (ha:PFr X a ga)(hb:PFr X b gb):PFr X (.BinOp a .Add b pos) (fS ga gb):=by
 refine PE.toR (zWW zLj ha hb) ?_
 rintro σ H Q ⟨G0,H0,G,ρ,d,good,hf,k⟩
 unfold fS at hf
 obtain⟨xs,h1,hf⟩:=Qq.mp hf
 obtain⟨ys,h2,hf⟩:=Qq.mp hf
 obtain⟨rfl,h3⟩:=dO hf
 refine⟨G0,H0,G,ρ,_,good,h1,fun p vs H1 G1 s1 hn hp gp rs=>⟨G0,H0,G1,ρ,_,good.step s1,h2,fun q us H2 G2 s2 hn2 hq gq rs2=>?_⟩⟩
 refine⟨p,q,vs,us,rfl,rfl,s2.hh _ _ hp,hq,?_,fun l hl=>?_⟩
 · rw[←rs.length,←rs2.length,←Wr];exact Wj (wD h3)
 · have s3:=Step.own (o:=.lst (vs++us)) s2.sub hl
   exact k l _ _ G2 ((s1.trans s2).trans s3) ((s1.trans s2).hh.free hl) zC (s2.sub.free hl) ((rs.mono s2.gg).append rs2)
abbrev Of:=List B->Option (Option Int)
def tFO (K:PySem.W.Frag)(f:Of):TO:=fun σ H Q=>∃G0 H0 G ρ o,Good K G0 H0 G H σ ρ/\f ρ=some o/\∀H' G',Step G H G' H'->Q o H'
def PFO (X:Cx)(e:Option Expr)(f:Of):Prop:=PO X e (tFO X.K f)
def oNo:Of:=fun _=>some none
def gQ (f:Ef):Of:=fun ρ=>(f ρ).bind fun d=>match d with | .int i=>some (some i) | _=>none
theorem zMP:PFO X none oNo:=fun pins s σ H Q I h=>zOe pins s σ H Q I (by
 obtain⟨G0,H0,G,ρ,o,good,hf,k⟩:=h
 cases hf
 exact k H G (.refl good.sub))
theorem zRZ (h:PF X e fa):PFO X (some e) (gQ fa):=fun pins s σ H Q I q=>zOz h pins s σ H Q I (by
 obtain⟨G0,H0,G,ρ,o,good,hf,k⟩:=q
 unfold gQ at hf
 obtain⟨d,h1,hf⟩:=Qq.mp hf
 cases d with
 | int i=>cases hf;exact⟨G0,H0,G,ρ,_,good,h1,fun v H' G' s r=>⟨i,zB.mp r,k H' G' s⟩⟩
 | _=>cases hf)
def zNN (xs:List D)(lo hi:Option Int):List D:=(xs.drop (HT.sIx xs.length 0 lo)).take (HT.sIx xs.length xs.length hi - HT.sIx xs.length 0 lo)
def kJ (f:Ef)(lo hi:Of):Lf:=fun ρ=>(f ρ).bind fun d=>(lo ρ).bind fun l=>(hi ρ).bind fun u=>match d with | .lst ds=>some (zNN ds l u) | _=>none
theorem zVe {lo hi:Option Expr}{fl fh:Of}{p2:Pos}(ha:PF X a fa)(hl:PFO X lo fl)(hh:PFO X hi fh):PFr X (.Subscript a (.Slice lo hi none p2) pos) (kJ fa fl fh):=by
 refine PE.toR (zOD zNx ha hl hh) ?_
 rintro σ H Q ⟨G0,H0,G,ρ,d,good,hf,k⟩
 unfold kJ at hf
 obtain⟨x,h1,hf⟩:=Qq.mp hf
 obtain⟨l,h2,hf⟩:=Qq.mp hf
 obtain⟨u,h3,hf⟩:=Qq.mp hf
 cases x with
 | lst ds =>
   cases hf
   refine⟨G0,H0,G,ρ,_,good,h1,fun v H1 G1 s1 r1=>⟨G0,H0,G1,ρ,_,good.step s1,h2,fun H2 G2 s2=>⟨G0,H0,G2,ρ,_,(good.step s1).step s2,h3,fun H3 G3 s3=>?_⟩⟩⟩
   obtain⟨q,vs,rfl,hq,rs⟩:=xH.mp r1
   have s23:=s2.trans s3
   refine⟨q,vs,rfl,s23.hh |> fun z=>(s1.sub.trans z).seq hq,fun p hp=>?_⟩
   have s4:=Step.own (o:=.lst (zRE vs l u)) s23.sub hp
   refine k p _ _ G3 ((s1.trans s23).trans s4) ((s1.trans s23).hh.free hp) zC (s23.sub.free hp) ?_
   unfold zRE zNN
   rw[←rs.length]
   exact((rs.mono s23.gg).drop _).take _
 | _=>cases hf
end
section
variable {prog:Program} {w:World} {A:Around} {E:Value->Shared->Prop} {s:Shared}
theorem gF {it t:Addr}{i:Nat}{items:Array Value}{x:Value}{Q:Value->Shared->Prop}(hit:s.heap.IsTupleIter it t i)(ht:s.heap.IsTuple t items)(hx:items[i]?=some x)
   (hQ:∀h',h'.IsTupleIter it t (i+1)->Heap.SameBut it s.heap h'->Q x { s with heap:=h' }):wpAny (model prog w) A (Builtin.SmallTypes.nextOf (.ref it)) Q E s:=by
 obtain⟨o,h1,h2,h3⟩:=id hit
 obtain⟨ot,t1,_,n,t2⟩:=ht
 unfold Builtin.SmallTypes.nextOf
 refine Qw (Rr (name:=Str.ofString "__next__") hit.typeIs F.slot_tuple_iterator_next (Tg F.slot_tuple_iterator_next hit.typeIs F.entry_tuple_iterator_next ?_ (F.args_tuple_iterator_next_1 _)))
 change wpAny _ _ (field (.ref it) 0 >>= _) _ _ s
 refine Qw (Wn h1 h3 (x:=.ref t) rfl ?_)
 change wpAny _ _ (if (Value.ref t==Value.none)=true then _ else _) _ _ s
 rw[Wd (by exact Qb)]
 change wpAny _ _ (field (.ref it) 1 >>= _) _ _ s
 refine Qw (Wn h1 h3 (x:=.int i 0) rfl ?_)
 change wpAny _ _ (seqItems? (.ref t) >>= _) _ _ s
 refine Qw (Ey t1 t2 ?_)
 simp only[Rt,hx]
 refine Qw (Op h1 h3 (by simp) (Qi ⟨x,rfl,Qi (hQ _ ⟨_,Wk _ h1 (Obj.isFreed_of_fields (Obj.data_mapFields h3 _)),(Obj.cls_mapFields ..).trans h2,?_⟩ (Ya ..))⟩))
 rw[Obj.data_mapFields h3]
 simp[rawInt]
theorem zXA {it t:Addr}{i:Nat}{items:Array Value}{Q:Value->Shared->Prop}(hh:A.handled=none)(hit:s.heap.IsTupleIter it t i)(ht:s.heap.IsTuple t items)(hx:items[i]?=none)
   (hE:∀h' e,Heap.ExtBut it s.heap h'->(∃o,h'.get? e=some o/\o.cls = .type "StopIteration")->E (.ref e) { s with heap:=h' }):wpAny (model prog w) A (Builtin.SmallTypes.nextOf (.ref it)) Q E s:=by
 obtain⟨o,h1,h2,h3⟩:=id hit
 obtain⟨ot,t1,_,n,t2⟩:=ht
 unfold Builtin.SmallTypes.nextOf
 refine Qw (Rr (name:=Str.ofString "__next__") hit.typeIs F.slot_tuple_iterator_next (Tg F.slot_tuple_iterator_next hit.typeIs F.entry_tuple_iterator_next ?_ (F.args_tuple_iterator_next_1 _)))
 change wpAny _ _ (field (.ref it) 0 >>= _) _ _ s
 refine Qw (Wn h1 h3 (x:=.ref t) rfl ?_)
 change wpAny _ _ (if (Value.ref t==Value.none)=true then _ else _) _ _ s
 rw[Wd (by exact Qb)]
 change wpAny _ _ (field (.ref it) 1 >>= _) _ _ s
 refine Qw (Wn h1 h3 (x:=.int i 0) rfl ?_)
 change wpAny _ _ (seqItems? (.ref t) >>= _) _ _ s
 refine Qw (Ey t1 t2 ?_)
 simp only[Rt,hx]
 refine Qw (Ih (Qw (Op h1 h3 (by simp) ?_)))
 change wpAny _ _ (newExc (.type "StopIteration") [] >>= _) _ _ _
 refine Qw ?_
 simp only[newExc,newTuple]
 refine Qw (Ry ?_ (by size_fits))
 refine Qw (m:=firstArgMember _ _) (Ot (a:=Value.none) (by first | rfl | (simp only[firstArgMember];rfl)) ?_)
 refine Ry ?_ (by size_fits)
 simp only[raiseNew]
 refine Qw (wpAny_handled ?_)
 first | rw[show A.in1.handled=none from hh] | rw[hh]
 refine Qw (Qi (wpAny_throw ?_))
 exact hE _ _ (((Ya ..).extBut.push _).push _) ⟨_,Qa _ rfl,rfl⟩
structure ZApart (z TI TO i1 i2 l1 l2:Addr):Prop where
 a1:TI≠z
 a2:TO≠z
 a3:i1≠z
 a4:i2≠z
 a5:TI≠TO
 a6:TI≠i1
 a7:TI≠i2
 a8:TO≠i1
 a9:TO≠i2
 b1:i1≠i2
 b2:l1≠z
 b3:l1≠TO
 b4:l1≠i1
 b5:l1≠i2
 b6:l2≠z
 b7:l2≠TO
 b8:l2≠i1
 b9:l2≠i2
theorem zRt {z TI TO i1 i2 l1 l2:Addr}{k:Nat}{xs ys:Array Value}{x y a b:Value}{Q:Value->Shared->Prop}(D:ZApart z TI TO i1 i2 l1 l2)(hz:IsZip s.heap z TI TO .none)(hTI:IsPair s.heap TI (.ref i1) (.ref i2))(hTO:IsPair s.heap TO a b)
   (h1:s.heap.IsTupleIter i1 l1 k) (h2:s.heap.IsTupleIter i2 l2 k) (hl1:s.heap.IsTuple l1 xs) (hl2:s.heap.IsTuple l2 ys) (hx:xs[k]?=some x) (hy:ys[k]?=some y)
   (hQ:∀h',IsZip h' z TI TO (rawInt s.heap.objs.size)->IsPair h' TO x y->h'.IsTupleIter i1 l1 (k+1)->h'.IsTupleIter i2 l2 (k+1)->IsPair h' s.heap.objs.size x y ->
     (∀c o,c≠z->c≠TO->c≠i1->c≠i2->s.heap.get? c=some o->h'.get? c=some o)->Q (.ref s.heap.objs.size) { s with heap:=h' }) :
   wpAny (model prog w) A (Builtin.«zip.__next__» ⟨[.ref z],[]⟩) (fun fin s'=>∃v,fin = .done (.ret v)/\Q v s') E s:=by
 change wpAny _ _ (field (.ref z) 2 >>= _) _ _ _
 refine Qw (Wn hz rfl (x:=.bool false) rfl ?_)
 change wpAny _ _ (field (.ref z) 3 >>= _) _ _ _
 refine Qw (Wn hz rfl (x:=.ref TI) rfl (Qw (Ey hTI rfl ?_)))
 change wpAny _ _ (Builtin.SmallTypes.ownedTupleIsFree (.ref z) >>= _) _ _ _
 refine Qw ?_
 unfold Builtin.SmallTypes.ownedTupleIsFree
 refine Qw (Wn hz rfl (x:=.none) rfl (Qi ?_))
 simp only[Ri]
 refine Qw (Ih (Qw (Wn hz rfl (x:=.ref TO) rfl (Qw (Rg hz (by simp) fun g1 z1 t1=>?_)))))
 have z1:IsZip g1 z TI TO .ellipsis:=z1
 refine Qw ?_
 simp only[List.zipIdx_cons,List.zipIdx_nil,Yp,Ub]
 refine Qw (Qw (Uw ?_))
 change wpAny _ _ (Builtin.SmallTypes.nextOf (.ref i1) >>= _) _ _ _
 refine Qw (gF (h1.extBut t1.extBut D.a3) (hl1.extBut t1.extBut D.b2) hx fun g2 u1 t2=>Qi ?_)
 have o2:IsPair g2 TO a b:=t2.extBut _ _ D.a8 (t1.extBut _ _ D.a2 hTO)
 refine Qw (Ey o2 rfl (Qw (Uv o2 fun g3 o3 t3=>?_)))
 have o3:IsPair g3 TO x b:=o3
 refine Qw (Yw (Qi (Qw (Qw (Uw ?_)))))
 change wpAny _ _ (Builtin.SmallTypes.nextOf (.ref i2) >>= _) _ _ _
 refine Qw (gF (((h2.extBut t1.extBut D.a4).extBut t2.extBut D.b1.symm).extBut t3.extBut D.a9.symm) (((hl2.extBut t1.extBut D.b6).extBut t2.extBut D.b8).extBut t3.extBut D.b7) hy fun g4 u2 t4=>Qi ?_)
 have o4:IsPair g4 TO x b:=t4.extBut _ _ D.a9 o3
 refine Qw (Ey o4 rfl (Qw (Uv o4 fun g5 o5 t5=>?_)))
 have o5:IsPair g5 TO x y:=o5
 refine Qw (Yw (Qi (Qi (Qw (Ey o5 rfl (Qw (wpAny_newTuple ?_)))))))
 have esz:g5.objs.size=s.heap.objs.size:=by rw[t5.1,t4.1,t3.1,t2.1,t1.1]
 have z5:IsZip g5 z TI TO .ellipsis:=t5.extBut _ _ D.a2.symm (t4.extBut _ _ D.a4.symm (t3.extBut _ _ D.a2.symm (t2.extBut _ _ D.a3.symm z1)))
 have k5:∀c o,c≠z->c≠TO->c≠i1->c≠i2->s.heap.get? c=some o->g5.get? c=some o:=fun c o c1 c2 c3 c4 e=>t5.extBut _ _ c2 (t4.extBut _ _ c4 (t3.extBut _ _ c2 (t2.extBut _ _ c3 (t1.extBut _ _ c1 e))))
 have p1:g5.IsTupleIter i1 l1 (k+1):=((u1.extBut t3.extBut D.a8.symm).extBut t4.extBut D.b1).extBut t5.extBut D.a8.symm
 have p2:g5.IsTupleIter i2 l2 (k+1):=u2.extBut t5.extBut D.a9.symm
 have lz:z < g5.objs.size:=Qy z5
 change wpAny _ _ (Builtin.SmallTypes.ownedTupleHandOut (.ref z) (.ref g5.objs.size) >>= _) _ _ _
 refine Qw ?_
 unfold Builtin.SmallTypes.ownedTupleHandOut
 have z6:IsZip (g5.push { cls:=.type "tuple",data:=.seq #[x,y] }) z TI TO .ellipsis:=Qr _ z5
 refine Qw (Rg z6 (by simp) fun g7 z7 t7=>?_)
 have z7:IsZip g7 z TI TO (rawInt g5.objs.size):=z7
 refine Rg z7 (by simp) fun g8 z8 t8=>?_
 have z8:IsZip g8 z TI TO (rawInt g5.objs.size):=z8
 have up:∀c o,c≠z->g5.get? c=some o->g8.get? c=some o:=fun c o c1 e=>t8.extBut _ _ c1 (t7.extBut _ _ c1 (Qr _ e))
 have n8:IsPair g8 g5.objs.size x y:=t8.extBut _ _ (Nat.ne_of_gt lz) (t7.extBut _ _ (Nat.ne_of_gt lz) (Qa _ rfl))
 rw[esz] at z8 n8
 refine Qi ⟨_,rfl,?_⟩
 change Q (.ref g5.objs.size) _
 rw[esz]
 obtain⟨q1,r1,w1⟩:=p1
 obtain⟨q2,r2,w2⟩:=p2
 exact hQ g8 z8 (up _ _ D.a2 o5) ⟨q1,up _ _ D.a3 r1,w1⟩ ⟨q2,up _ _ D.a4 r2,w2⟩ n8 fun c o c1 c2 c3 c4 e=>up c o c1 (k5 c o c1 c2 c3 c4 e)
theorem zPX {z TI TO i1 i2 l1 l2:Addr}{k:Nat}{xs ys:Array Value}{a b:Value}{Q:Fin->Shared->Prop}(hh:A.handled=none)(D:ZApart z TI TO i1 i2 l1 l2)(hz:IsZip s.heap z TI TO .none)(hTI:IsPair s.heap TI (.ref i1) (.ref i2))(hTO:IsPair s.heap TO a b)
   (h1:s.heap.IsTupleIter i1 l1 k) (h2:s.heap.IsTupleIter i2 l2 k) (hl1:s.heap.IsTuple l1 xs) (hl2:s.heap.IsTuple l2 ys) (hend:xs[k]?=none∨ys[k]?=none)
   (hE:∀h' e,(∀c o,c≠z->c≠TO->c≠i1->c≠i2->s.heap.get? c=some o->h'.get? c=some o)->(∃o,h'.get? e=some o/\o.cls = .type "StopIteration")->E (.ref e) { s with heap:=h' }) :
   wpAny (model prog w) A (Builtin.«zip.__next__» ⟨[.ref z],[]⟩) Q E s:=by
 change wpAny _ _ (field (.ref z) 2 >>= _) _ _ _
 refine Qw (Wn hz rfl (x:=.bool false) rfl ?_)
 change wpAny _ _ (field (.ref z) 3 >>= _) _ _ _
 refine Qw (Wn hz rfl (x:=.ref TI) rfl (Qw (Ey hTI rfl ?_)))
 change wpAny _ _ (Builtin.SmallTypes.ownedTupleIsFree (.ref z) >>= _) _ _ _
 refine Qw ?_
 unfold Builtin.SmallTypes.ownedTupleIsFree
 refine Qw (Wn hz rfl (x:=.none) rfl (Qi ?_))
 simp only[Ri]
 refine Qw (Ih (Qw (Wn hz rfl (x:=.ref TO) rfl (Qw (Rg hz (by simp) fun g1 z1 t1=>?_)))))
 have z1:IsZip g1 z TI TO .ellipsis:=z1
 refine Qw ?_
 simp only[List.zipIdx_cons,List.zipIdx_nil,Yp,Ub]
 refine Qw (Qw (Uw ?_))
 change wpAny _ _ (Builtin.SmallTypes.nextOf (.ref i1) >>= _) _ _ _
 cases hx:xs[k]? with
 | none =>
   refine Qw (zXA hh (h1.extBut t1.extBut D.a3) (hl1.extBut t1.extBut D.b2) hx fun g2 e t2 he=>?_)
   obtain⟨oe,he1,he2⟩:=he
   have z2:IsZip g2 z TI TO .ellipsis:=t2 _ _ D.a3.symm z1
   have ne:e≠z:=fun q=>by subst q;rw[z2] at he1;cases he1;simp at he2
   exact Rg z2 (by simp) fun g3 _ t3=>hE g3 e (fun c o c1 _ c3 _ q=>t3.extBut _ _ c1 (t2 _ _ c3 (t1.extBut _ _ c1 q))) ⟨oe,t3.extBut _ _ ne he1,he2⟩
 | some x =>
   have hy:ys[k]?=none:=by
     rcases hend with q | q
     · rw[hx] at q;cases q
     · exact q
   refine Qw (gF (h1.extBut t1.extBut D.a3) (hl1.extBut t1.extBut D.b2) hx fun g2 u1 t2=>Qi ?_)
   have o2:IsPair g2 TO a b:=t2.extBut _ _ D.a8 (t1.extBut _ _ D.a2 hTO)
   refine Qw (Ey o2 rfl (Qw (Uv o2 fun g3 o3 t3=>?_)))
   refine Qw (Yw (Qi (Qw (Qw (Uw ?_)))))
   change wpAny _ _ (Builtin.SmallTypes.nextOf (.ref i2) >>= _) _ _ _
   refine Qw (zXA hh (((h2.extBut t1.extBut D.a4).extBut t2.extBut D.b1.symm).extBut t3.extBut D.a9.symm) (((hl2.extBut t1.extBut D.b6).extBut t2.extBut D.b8).extBut t3.extBut D.b7) hy fun g4 e t4 he=>?_)
   obtain⟨oe,he1,he2⟩:=he
   have z4:IsZip g4 z TI TO .ellipsis:=t4 _ _ D.a4.symm (t3.extBut _ _ D.a2.symm (t2.extBut _ _ D.a3.symm z1))
   have ne:e≠z:=fun q=>by subst q;rw[z4] at he1;cases he1;simp at he2
   exact Rg z4 (by simp) fun g5 _ t5=>hE g5 e (fun c o c1 c2 c3 c4 q=>t5.extBut _ _ c1 (t4 _ _ c4 (t3.extBut _ _ c2 (t2.extBut _ _ c3 (t1.extBut _ _ c1 q))))) ⟨oe,t5.extBut _ _ ne he1,he2⟩
end
abbrev zT1 (h:Heap)(l1:Addr):Heap:=h.push { cls:=.type "tuple_iterator",data:=.fields #[.ref l1,.int 0 0] }
abbrev zT2 (h:Heap)(l1 l2:Addr):Heap:=(zT1 h l1).push { cls:=.type "tuple_iterator",data:=.fields #[.ref l2,.int 0 0] }
abbrev zT3 (h:Heap)(l1 l2:Addr):Heap:=(zT2 h l1 l2).push { cls:=.type "tuple",data:=.seq #[.ref h.objs.size,.ref (zT1 h l1).objs.size] }
abbrev zT4 (h:Heap)(l1 l2:Addr):Heap:=(zT3 h l1 l2).push { cls:=.type "tuple",data:=.seq #[.none,.none] }
abbrev zT5 (h:Heap)(l1 l2:Addr):Heap:=(zT4 h l1 l2).push { cls:=.type "zip",data:=.fields #[.none,.bool false,.bool false,.ref (zT2 h l1 l2).objs.size,.ref (zT3 h l1 l2).objs.size] }
theorem zPv (l1 l2:Addr)(xs ys:Array Value) :
   Meets (Builtin.«zip.__new__» ⟨[.type "zip",.ref l1,.ref l2],[]⟩) (fun _ R s=>s.heap.IsTuple l1 xs/\s.heap.IsTuple l2 ys/\R (.ok (.ret (.ref (zT4 s.heap l1 l2).objs.size))) { s with heap:=zT5 s.heap l1 l2 }) :=
 .of_wp fun prog w A R s h=>by
   obtain⟨hp,g,d,tk,os⟩:=s;obtain⟨q1,q2,h⟩:=h
   have hsub:=sub_zip
   have L1:Heap.IsTuple (Shared.heap ⟨hp,g,d,tk,os⟩) l1 xs:=q1
   have L2:Heap.IsTuple (Shared.heap ⟨hp.push { cls:=.type "tuple_iterator",data:=.fields #[.ref l1,.int 0 0] },g,d,tk,os⟩) l2 ys:=Heap.IsTuple.push q2 _
   wp_walk using Iw L1,Iw L2
   exact⟨_,rfl,h⟩
section
variable {prog:Program} {w:World} {A:Around} {E:Value->Shared->Prop} {s:Shared}
theorem zRz {l1 l2:Addr}{xs ys:Array Value}{Q:Value->Shared->Prop}(q1:s.heap.IsTuple l1 xs)(q2:s.heap.IsTuple l2 ys)
   (h:∀h',IsZip h' (s.heap.objs.size+4) (s.heap.objs.size+2) (s.heap.objs.size+3) .none->IsPair h' (s.heap.objs.size+2) (.ref s.heap.objs.size) (.ref (s.heap.objs.size+1))->IsPair h' (s.heap.objs.size+3) .none .none ->
     h'.IsTupleIter s.heap.objs.size l1 0->h'.IsTupleIter (s.heap.objs.size+1) l2 0->(∀c o,s.heap.get? c=some o->h'.get? c=some o)->Q (.ref (s.heap.objs.size+4)) { s with heap:=h' }):wpAny (model prog w) A (call (.type "zip") [.ref l1,.ref l2]) Q E s:=by
 refine callType_new F.called_zip (by decide) (F.typeCall_zip_2 _ _) (F.newCall_zip_2 _ _) (fun obj=>F.args_object_init_3 obj _ _) F.entry_zip_new (zPv l1 l2 xs ys) ⟨q1,q2,?_⟩
 have y1:(zT1 s.heap l1).objs.size=s.heap.objs.size+1:=Eg ..
 have y2:(zT2 s.heap l1 l2).objs.size=s.heap.objs.size+2:=by rw[Eg,y1]
 have y3:(zT3 s.heap l1 l2).objs.size=s.heap.objs.size+3:=by rw[Eg,y2]
 have y4:(zT4 s.heap l1 l2).objs.size=s.heap.objs.size+4:=by rw[Eg,y3]
 have f5:(zT5 s.heap l1 l2).get? (zT4 s.heap l1 l2).objs.size=some _:=Qa _ rfl
 have f4:(zT5 s.heap l1 l2).get? (zT3 s.heap l1 l2).objs.size=some _:=Qr _ (Qa _ rfl)
 have f3:(zT5 s.heap l1 l2).get? (zT2 s.heap l1 l2).objs.size=some _:=Qr _ (Qr _ (Qa _ rfl))
 have f2:(zT5 s.heap l1 l2).get? (zT1 s.heap l1).objs.size=some _:=Qr _ (Qr _ (Qr _ (Qa _ rfl)))
 have f1:(zT5 s.heap l1 l2).get? s.heap.objs.size=some _:=Qr _ (Qr _ (Qr _ (Qr _ (Qa _ rfl))))
 change _/\_
 rw[y2,y3,y4] at f5
 rw[y1,y2] at f3
 rw[y3] at f4
 rw[y1] at f2
 rw[y4]
 exact⟨⟨_,f5,rfl⟩,h _ f5 f3 f4 ⟨_,f1,rfl,rfl⟩ ⟨_,f2,rfl,rfl⟩ fun c o x=>Qr _ (Qr _ (Qr _ (Qr _ (Qr _ x))))⟩
end
def Itz (K:PySem.W.Frag)(a b:Addr):It :=
 ⟨fun i H=>∃xs ys x y,SqT K H a xs/\SqT K H b ys/\xs[i]?=some x/\ys[i]?=some y,fun i H x H'=>∃p v u,H p=none/\x = .ref p/\H'=upd H p (.tup [v,u])/\(∀xs,SqT K H a xs->xs[i]?=some v)/\∀ys,SqT K H b ys->ys[i]?=some u,
   fun i H=>∃xs ys,SqT K H a xs/\SqT K H b ys/\(xs.length<=i∨ys.length<=i)⟩
theorem zZo {prog:Program}{w:World}{A:Around}{E:Value->Shared->Prop}{s:Shared}{z TI TO i1 i2 l1 l2:Addr}{k:Nat}{xs ys:Array Value}{x y a b:Value}{Q:Option Value->Shared->Prop}(D:ZApart z TI TO i1 i2 l1 l2)(hz:IsZip s.heap z TI TO .none)(hTI:IsPair s.heap TI (.ref i1) (.ref i2))(hTO:IsPair s.heap TO a b)
   (h1:s.heap.IsTupleIter i1 l1 k) (h2:s.heap.IsTupleIter i2 l2 k) (hl1:s.heap.IsTuple l1 xs) (hl2:s.heap.IsTuple l2 ys) (hx:xs[k]?=some x) (hy:ys[k]?=some y)
   (hQ:∀h',IsZip h' z TI TO (rawInt s.heap.objs.size)->IsPair h' TO x y->h'.IsTupleIter i1 l1 (k+1)->h'.IsTupleIter i2 l2 (k+1)->IsPair h' s.heap.objs.size x y ->
     (∀c o,c≠z->c≠TO->c≠i1->c≠i2->s.heap.get? c=some o->h'.get? c=some o)->Q (some (.ref s.heap.objs.size)) { s with heap:=h' }):wpAny (model prog w) A (pyNext (.ref z)) Q E s:=by
 have hT:s.TypeIs (.ref z) "zip":=⟨_,hz,rfl⟩
 unfold pyNext
 exact Qw (Iu (Rr (name:=Str.ofString "__next__") hT F.slot_zip_next (Tg F.slot_zip_next hT F.entry_zip_next (zRt D hz hTI hTO h1 h2 hl1 hl2 hx hy fun h' a1 a2 a3 a4 a5 a6=>Qi (hQ h' a1 a2 a3 a4 a5 a6)) (F.args_zip_next_1 _))))
theorem zXJ {prog:Program}{w:World}{A:Around}{E:Value->Shared->Prop}{s:Shared}{z TI TO i1 i2 l1 l2:Addr}{k:Nat}{xs ys:Array Value}{a b:Value}{Q:Option Value->Shared->Prop}(hh:A.handled=none)(D:ZApart z TI TO i1 i2 l1 l2)(hz:IsZip s.heap z TI TO .none)(hTI:IsPair s.heap TI (.ref i1) (.ref i2))(hTO:IsPair s.heap TO a b)
   (h1:s.heap.IsTupleIter i1 l1 k) (h2:s.heap.IsTupleIter i2 l2 k) (hl1:s.heap.IsTuple l1 xs) (hl2:s.heap.IsTuple l2 ys) (hend:xs[k]?=none∨ys[k]?=none)
   (hQ:∀h',(∀c o,c≠z->c≠TO->c≠i1->c≠i2->s.heap.get? c=some o->h'.get? c=some o)->Q none { s with heap:=h' }):wpAny (model prog w) A (pyNext (.ref z)) Q E s:=by
 have hT:s.TypeIs (.ref z) "zip":=⟨_,hz,rfl⟩
 unfold pyNext
 refine Qw (Iu (Rr (name:=Str.ofString "__next__") hT F.slot_zip_next (Tg F.slot_zip_next hT F.entry_zip_next (zPX hh D hz hTI hTO h1 h2 hl1 hl2 hend fun h' e hk he=>?_) (F.args_zip_next_1 _))))
 obtain⟨o,q1,q2⟩:=he
 exact Qw (Uy (T:="StopIteration") (b:=true) ⟨o,q1,q2⟩ isSubtype_stop (Qi (hQ _ hk)))
theorem zne {n:Nat}(i j:Nat)(h:i≠j):n+i≠n+j:=fun z=>h (Nat.add_left_cancel z)
theorem zQ5 {P:Program}{w:World}{K:PySem.W.Frag}{elts:List Expr}{k:Nat}{pos:Pos}(a b n:Addr):Turn P w K (.Tuple elts k pos) (Itz K a b) [n+4,n+2,n+3,n,n+1] (n+4)
   (fun i h=>IsZip h (n+4) (n+2) (n+3) .none/\IsPair h (n+2) (.ref n) (.ref (n+1))/\(∃p q,IsPair h (n+3) p q)/\h.IsTupleIter n a i/\h.IsTupleIter (n+1) b i) where
 mem:=by simp
 obj:=fun i h st c hc=>by
   obtain⟨h1,h2,⟨p,q,h3⟩,⟨o1,e1,_,d1⟩,⟨o2,e2,_,d2⟩⟩:=st
   simp only[Qj,Ws,Rj] at hc
   rcases hc with z | z | z | z | z
   · subst z;exact⟨_,h1,fun v q=>nomatch q⟩
   · subst z;exact⟨_,h2,fun v q=>nomatch q⟩
   · subst z;exact⟨_,h3,fun v q=>nomatch q⟩
   · subst z;exact⟨o1,e1,fun v q=>by rw[d1] at q;cases q⟩
   · subst z;exact⟨o2,e2,fun v q=>by rw[d2] at q;cases q⟩
 keep:=fun i h h' st kk=>by
   obtain⟨h1,h2,⟨p,q,h3⟩,⟨o1,e1,r1⟩,⟨o2,e2,r2⟩⟩:=st
   exact⟨kk _ (by simp) _ h1,kk _ (by simp) _ h2,⟨p,q,kk _ (by simp) _ h3⟩,⟨o1,kk _ (by simp) _ e1,r1⟩,⟨o2,kk _ (by simp) _ e2,r2⟩⟩
 item:=by
   intro X hP hw hK hc i pins s σ H E I hf st hg
   subst hP hw hK
   obtain⟨xs,ys,x,y,hq,hq',hx,hy⟩:=hg
   obtain⟨its,rv,p1,hz⟩:=I.tuple hq
   obtain⟨jts,rv',p2,hz'⟩:=I.tuple hq'
   obtain⟨u,hu,ru⟩:=rv.get hx
   obtain⟨u',hu',ru'⟩:=rv'.get hy
   obtain⟨h1,h2,⟨p,q,h3⟩,h4,h5⟩:=st
   have apart:∀c∈[n+4,n+2,n+3,n,n+1],∀v:List V,∀d:Addr,SqT X.K H d v->d≠c:=fun c hc v d hd z=>by
     have e:=(hf c hc).1
     obtain⟨its,_,⟨o,e1,e2,_⟩,_⟩:=I.tuple hd
     rcases hd with(hd | ⟨ob,hd⟩) | hd
     · rw[z,e] at hd;cases hd
     · rw[z,e] at hd;cases hd
     · obtain⟨ob,_,_,hk,_⟩:=hd
       have e3:=I.ok.mod.kin d ob hk
       obtain⟨_,q1,_,q3,_⟩:=hf c hc
       rcases q3 with q3 | q3
       · exact I.ok.noex d ob e3 (z ▸ q3)
       · exact absurd (We (Qy (I.ok.bs d ob e3).1) (z ▸ q3)) (Wt _)
   have D:ZApart (n+4) (n+2) (n+3) n (n+1) a b:=⟨zne 2 4 (by decide),zne 3 4 (by decide),zne 0 4 (by decide),zne 1 4 (by decide),zne 2 3 (by decide),zne 2 0 (by decide),zne 2 1 (by decide),zne 3 0 (by decide),zne 3 1 (by decide),zne 0 1 (by decide),apart _ (by simp) xs a hq,apart _ (by simp) xs a hq,apart _ (by simp) xs a hq,apart _ (by simp) xs a hq,apart _ (by simp) ys b hq',apart _ (by simp) ys b hq',apart _ (by simp) ys b hq',apart _ (by simp) ys b hq'⟩
   refine zZo D h1 h2 h3 h4 h5 (show s.heap.IsTuple a its.toArray from p1) (show s.heap.IsTuple b jts.toArray from p2) (x:=u) (y:=u') (by simpa using hu) (by simpa using hu') fun g g1 g2 g3 g4 g5 hk=>?_
   have hk':∀c o,c∉[n+4,n+2,n+3,n,n+1]->s.heap.get? c=some o->g.get? c=some o:=fun c o hc e=>hk c o (fun z=>hc (by simp[z])) (fun z=>hc (by simp[z])) (fun z=>hc (by simp[z])) (fun z=>hc (by simp[z])) e
   have I1:Inv X pins σ (upd H s.heap.objs.size (.tup [x,y])) { s with heap:=g }:=I.turnedNew (t':=s.toks) hk' hf (Ql _) ⟨by show 2<=sizeLine;exact Wj (wD (by decide)),[u,u'],.cons ru (.cons ru' .nil),⟨_,g5,rfl,_,rfl⟩⟩
   refine⟨_,rfl,wpAny_letOwnedTupleGo_zip g1 fun g' z' t'=>?_⟩
   have t':Heap.SameBut (n+4) g g':=t'
   have neT:∀c∈[n+4,n+2,n+3,n,n+1],c≠s.heap.objs.size:=fun c hc z=>by
     have lt:c < s.heap.objs.size:=by
       obtain⟨o1,e1,_⟩:=h4
       obtain⟨o2,e2,_⟩:=h5
       simp only[Qj,Ws,Rj] at hc
       rcases hc with q | q | q | q | q
       · rw[q];exact Qy h1
       · rw[q];exact Qy h2
       · rw[q];exact Qy h3
       · rw[q];exact Qy e1
       · rw[q];exact Qy e2
     rw[z] at lt
     exact Wt _ lt
   have hf1:∀c∈[n+4,n+2,n+3,n,n+1],mQ X pins (upd H s.heap.objs.size (.tup [x,y])) c:=fun c hc=>⟨by rw[yQ (neT c hc)];exact(hf c hc).1,(hf c hc).2⟩
   have I2:=I1.turnedL (h':=g') (t':=s.toks) (fp:=[n+4,n+2,n+3,n,n+1]) (fun c o hc e=>(t'.2 c (fun z=>hc (by simp[z]))).trans e) hf1
   have g2':IsPair g (n+2) (.ref n) (.ref (n+1)):=hk _ _ D.a1 D.a5 D.a6 D.a7 h2
   obtain⟨o3,e3,r3⟩:=g3
   obtain⟨o4,e4,r4⟩:=g4
   exact⟨.ref s.heap.objs.size,_,I2,rfl,⟨s.heap.objs.size,x,y,I.fresh,rfl,rfl,fun zs hs=>by rw[I.tuple_inj hs hq];exact hx,fun zs hs=>by rw[I.tuple_inj hs hq'];exact hy⟩,
     ⟨z',(t'.2 _ D.a1).trans g2',⟨_,_,(t'.2 _ D.a2).trans g2⟩,⟨o3,(t'.2 _ D.a3).trans e3,r3⟩,⟨o4,(t'.2 _ D.a4).trans e4,r4⟩⟩,fun c hc=>(hf1 c hc).1⟩
 done:=by
   intro X hP hw hK hc i pins s σ H E I hf st hg
   subst hP hw hK
   obtain⟨xs,ys,hq,hq',hx⟩:=hg
   obtain⟨its,rv,p1,hz⟩:=I.tuple hq
   obtain⟨jts,rv',p2,hz'⟩:=I.tuple hq'
   obtain⟨h1,h2,⟨p,q,h3⟩,h4,h5⟩:=st
   have apart:∀c∈[n+4,n+2,n+3,n,n+1],∀v:List V,∀d:Addr,SqT X.K H d v->d≠c:=fun c hc v d hd z=>by
     have e:=(hf c hc).1
     rcases hd with(hd | ⟨ob,hd⟩) | hd
     · rw[z,e] at hd;cases hd
     · rw[z,e] at hd;cases hd
     · obtain⟨ob,_,_,hk,_⟩:=hd
       have e3:=I.ok.mod.kin d ob hk
       obtain⟨_,q1,_,q3,_⟩:=hf c hc
       rcases q3 with q3 | q3
       · exact I.ok.noex d ob e3 (z ▸ q3)
       · exact absurd (We (Qy (I.ok.bs d ob e3).1) (z ▸ q3)) (Wt _)
   have D:ZApart (n+4) (n+2) (n+3) n (n+1) a b:=⟨zne 2 4 (by decide),zne 3 4 (by decide),zne 0 4 (by decide),zne 1 4 (by decide),zne 2 3 (by decide),zne 2 0 (by decide),zne 2 1 (by decide),zne 3 0 (by decide),zne 3 1 (by decide),zne 0 1 (by decide),apart _ (by simp) xs a hq,apart _ (by simp) xs a hq,apart _ (by simp) xs a hq,apart _ (by simp) xs a hq,apart _ (by simp) ys b hq',apart _ (by simp) ys b hq',apart _ (by simp) ys b hq',apart _ (by simp) ys b hq'⟩
   have l1:=rv.length
   have l2:=rv'.length
   refine zXJ (I.ok.hd hc) D h1 h2 h3 h4 h5 (show s.heap.IsTuple a its.toArray from p1) (show s.heap.IsTuple b jts.toArray from p2) ?_ fun g hk=>⟨rfl,I.turnedL (t':=s.toks) (fp:=[n+4,n+2,n+3,n,n+1]) (fun c o hc e=>hk c o (fun z=>hc (by simp[z])) (fun z=>hc (by simp[z])) (fun z=>hc (by simp[z])) (fun z=>hc (by simp[z])) e) hf⟩
   rcases hx with q | q
   · exact .inl (by simp;omega)
   · exact .inr (by simp;omega)
 self:=fun _ _ _ _ _ st h=>Im st.1 h
def sE:List D->List D->List D
 | x::xs,y::ys=>.tup [x,y]::sE xs ys
 | _,_=>[]
theorem zYE:∀ {xs ys:List D} {i:Nat} {d:D},(sE xs ys)[i]?=some d->∃x y,xs[i]?=some x/\ys[i]?=some y/\d = .tup [x,y]
 | [],_,_,_,h=>by simp[sE] at h
 | _::_,[],_,_,h=>by simp[sE] at h
 | x::xs,y::ys,0,d,h=>by simp[sE] at h;exact⟨x,y,rfl,rfl,h.symm⟩
 | x::xs,y::ys,i+1,d,h=>by
   simp only[sE,Qz] at h
   obtain⟨a,b,h1,h2,h3⟩:=zYE h
   exact⟨a,b,by simpa using h1,by simpa using h2,h3⟩
theorem zYX:∀(xs ys:List D),(sE xs ys).length=min xs.length ys.length
 | [],_=>by simp[sE]
 | _::_,[]=>by simp[sE]
 | x::xs,y::ys=>by rw[sE,Qp,zYX xs ys,Qp,Qp];omega
theorem zTU {K:PySem.W.Frag}{G:Hp}{a b:Addr}{vs us:List V}{ds es:List D}(h:SqT K G a vs)(r:Reps K G ds vs)(h':SqT K G b us)(r':Reps K G es us):bM K (Itz K a b) G (sE ds es):=by
 intro i G2 H2 s1 s2
 have q:SqT K H2 a vs:=(s1.trans s2).tup h
 have q':SqT K H2 b us:=(s1.trans s2).tup h'
 refine⟨fun d hd=>?_,fun hi=>⟨vs,us,q,q',?_⟩⟩
 · obtain⟨x,y,h1,h2,rfl⟩:=zYE hd
   obtain⟨v,e1,rv⟩:=r.get h1
   obtain⟨u,e2,ru⟩:=r'.get h2
   refine⟨⟨vs,us,v,u,q,q',e1,e2⟩,fun x' H3 yy=>?_⟩
   obtain⟨p,v',u',hp,rfl,rfl,y1,y2⟩:=yy
   have f1:=y1 vs q
   rw[e1] at f1;cases f1
   have f2:=y2 us q'
   rw[e2] at f2;cases f2
   have s3:=Step.laid (o:=.tup [v,u]) s2 hp
   exact⟨_,s3,xI.mpr ⟨p,_,rfl,.of zC,z9.mpr ⟨_,_,rfl,(rv.mono s1).mono s3.gg,z9.mpr ⟨_,_,rfl,(ru.mono s1).mono s3.gg,yR.mpr rfl⟩⟩⟩⟩
 · rw[zYX] at hi
   rw[←r.length,←r'.length]
   omega
section
variable {X:Cx} {a b c e tg elt iter:Expr} {fa fb:Ef} {pos p:Pos}
def zNi (f g:Ef):Lf:=fun ρ=>(f ρ).bind fun x=>(g ρ).bind fun y=>match x,y with | .tup xs,.tup ys=>some (sE xs ys) | _,_=>none
theorem zPt {elts:List Expr}{k:Nat}{pos':Pos}(hg:Gl X "zip")(hm:X.mg "zip"=none)(ha:PF X a fa)(hb:PF X b fb)(hs:starEach [a,b] X.env=[(false,eval a X.env),(false,eval b X.env)]:=by rfl)(hs2:starEach [b] X.env=[(false,eval b X.env)]:=by rfl) :
   PFI X (.Tuple elts k pos') (.Call (.Name "zip" p) [a,b] [] pos) (zNi fa fb):=by
 intro pins s σ H R I q
 obtain⟨G0,H0,G,ρ,ds,good,hf,kk⟩:=q
 unfold zNi at hf
 obtain⟨x,h1,hf⟩:=Qq.mp hf
 obtain⟨y,h2,hf⟩:=Qq.mp hf
 cases x with
 | tup xs =>
   cases y with
   | tup ys =>
     cases hf
     have hA:=yV ha (yV hb yE (by rw[hs2];rfl)) (by rw[hs,hs2]) pos pins s σ H (fun vs H'=>∃a b us ws G',vs=[.ref a,.ref b]/\Step G H G' H'/\SqT X.K G' a us/\Reps X.K G' xs us/\SqT X.K G' b ws/\Reps X.K G' ys ws) I
       ⟨G0,H0,G,ρ,_,good,h1,fun v H1 G1 s1 r1=>⟨G0,H0,G1,ρ,_,good.step s1,h2,fun u H2 G2 s2 r2=>by
         obtain⟨a,us,rfl,q1,q2⟩:=xI.mp (r1.mono s2.gg)
         obtain⟨b,ws,rfl,q3,q4⟩:=xI.mp r2
         exact⟨a,b,us,ws,G2,rfl,s1.trans s2,q1,q2,q3,q4⟩⟩⟩
     refine Call_ (oO I hg hm (by rfl) (Et (thn hA fun us s1 ⟨vs,H1,I1,r1,l1,l2,ws,zs,G1,e1,st1,q1,q2,q3,q4⟩=>?_) (by rw[hs,hs2]) (by rw[hs2];rfl)))
     subst e1
     obtain⟨u,u',rfl,ru,ru'⟩:=zSJ r1
     cases ru
     cases ru'
     obtain⟨its,rv,p1,_⟩:=I1.tuple (st1.sub.tup q1)
     obtain⟨jts,rv',p2,_⟩:=I1.tuple (st1.sub.tup q3)
     refine zRz (show s1.heap.IsTuple l1 its.toArray from p1) (show s1.heap.IsTuple l2 jts.toArray from p2) fun h' z1 z2 z3 z4 z5 hk=>?_
     have I2:Inv X pins σ H1 { s1 with heap:=h' }:=I1.kept (t':=s1.toks) hk
     refine Im z1 ?_
     refine⟨_,[s1.heap.objs.size+4,s1.heap.objs.size+2,s1.heap.objs.size+3,s1.heap.objs.size,s1.heap.objs.size+1],_,_,H1,rfl,I2,zQ5 l1 l2 s1.heap.objs.size,⟨z1,z2,⟨_,_,z3⟩,z4,z5⟩,fun b hb=>?_,kk _ H1 G1 st1 (zTU q1 q2 q3 q4)⟩
     have hb':s1.heap.objs.size<=b:=by
       simp only[Qj,Ws,Rj] at hb
       rcases hb with z | z | z | z | z<;>(rw[z];first | exact Ql _ | exact Nat.le_add_right _ _)
     exact I1.fpOk hb' (I1.hok.fresh hb')
   | _=>cases hf
 | _=>cases hf
end
end L2
set_option maxHeartbeats 4000000
namespace L2
open PySem PySem.Spec PyProof.Rows
def zSY (f:D->D->Option Bool):List D->List D->Option Bool
 | x::xs,y::ys=>(f x y).bind fun a=>(zSY f xs ys).map fun b=>a&&b
 | _,_=>some true
def eqD:Nat->D->D->Option Bool
 | _+1,.int i,.int j=>some (i==j)
 | _+1,.bl i,.bl j=>some (i==j)
 | _+1,.str i,.str j=>some (i==j)
 | _+1,.non,.non=>some true
 | n+1,.tup xs,.tup ys=>(zSY (eqD n) xs ys).map fun b=>b&&xs.length==ys.length
 | n+1,.lst xs,.lst ys=>if xs.length=ys.length then zSY (eqD n) xs ys else some false
 | _,_,_=>none
def mB (f:D->D->Option Bool)(xs ys:List D)(j:Nat):Bool:=match xs[j]?,ys[j]? with | some a,some c=>(f a c).getD true | _,_=>true
theorem zY1 {f:D->D->Option Bool}:∀ {xs ys:List D} {b:Bool},zSY f xs ys=some b->b=(List.range (min xs.length ys.length)).all (mB f xs ys)/\∀(j:Nat) (a c:D),xs[j]?=some a->ys[j]?=some c->f a c=some (mB f xs ys j)
 | [],_,_,h=>by cases h;exact⟨by simp,fun j a c e=>by simp at e⟩
 | _::_,[],_,h=>by cases h;exact⟨by simp,fun j a c _ e=>by simp at e⟩
 | x::xs,y::ys,b,h=>by
   unfold zSY at h
   obtain⟨a,h1,h⟩:=Qq.mp h
   obtain⟨b',h2,rfl⟩:=Qt.mp h
   obtain⟨e1,e2⟩:=zY1 h2
   constructor
   · rw[Qp,Qp,Nat.succ_min_succ,Ui,Uq,List.all_map,e1]
     congr 1
     simp[mB,h1]
   · intro j p q hp hq
     cases j with
     | zero =>
       simp at hp hq
       subst hp;subst hq
       simp[mB,h1]
     | succ j =>
       have:=e2 j p q (by simpa using hp) (by simpa using hq)
       simpa [mB] using this
section
variable {X:Cx} {pins:List (Addr×Obj)} {σ:St} {H G:Hp} {s:Shared}
theorem zV0 (I:Inv X pins σ H s)(sub:Same G H):∀(n:Nat) (d d':D) (x:V) (k:Bool),eqD n d d'=some k->Rep X.K G d x->Rep X.K G d' x->k=true:=by
 intro n
 induction n with
 | zero=>intro d d' x k h;cases d<;>cases d'<;>cases h
 | succ n ih =>
   have many:∀(ds es:List D) (vs:List V) (b:Bool),zSY (eqD n) ds es=some b->Reps X.K G ds vs->Reps X.K G es vs->b=true:=by
     intro ds
     induction ds with
     | nil=>intro es vs b h _ _;cases h;rfl
     | cons d r ihr =>
       intro es vs b h r1 r2
       cases es with
       | nil=>cases h;rfl
       | cons e t =>
         unfold zSY at h
         obtain⟨a,h1,h⟩:=Qq.mp h
         obtain⟨b',h2,rfl⟩:=Qt.mp h
         obtain⟨v,vr,rfl,q1,q2⟩:=z9.mp r1
         obtain⟨v',vr',e',q3,q4⟩:=z9.mp r2
         cases e'
         rw[ih d e v a h1 q1 q3,ihr t vr b' h2 q2 q4];rfl
   intro d d' x k h r1 r2
   cases d with
   | int i =>
     cases d' with
     | int j=>cases h;rw[zB] at r1 r2;rw[r1] at r2;cases r2;simp
     | _=>cases h
   | bl i =>
     cases d' with
     | bl j=>cases h;rw[wX] at r1 r2;rw[r1] at r2;cases r2;simp
     | _=>cases h
   | str i =>
     cases d' with
     | str j=>cases h;rw[yI] at r1 r2;rw[r1] at r2;cases r2;simp
     | _=>cases h
   | non =>
     cases d' with
     | non=>cases h;rfl
     | _=>cases h
   | tup ds =>
     cases d' with
     | tup es =>
       unfold eqD at h
       obtain⟨b,h1,rfl⟩:=Qt.mp h
       obtain⟨p,vs,e1,q1,q2⟩:=xI.mp r1
       obtain⟨p',vs',e2,q3,q4⟩:=xI.mp r2
       rw[e1] at e2;cases e2
       have ev:=I.tuple_inj (sub.tup q1) (sub.tup q3)
       subst ev
       rw[many ds es vs b h1 q2 q4,q2.length,q4.length];simp
     | _=>cases h
   | lst ds =>
     cases d' with
     | lst es =>
       unfold eqD at h
       obtain⟨p,vs,e1,q1,q2⟩:=xH.mp r1
       obtain⟨p',vs',e2,q3,q4⟩:=xH.mp r2
       rw[e1] at e2;cases e2
       have ev:=I.list_inj (sub.seq q1) (sub.seq q3)
       subst ev
       rw[Qn (by rw[q2.length,q4.length])] at h
       exact many ds es vs k h q2 q4
     | _=>cases h
   | obj C ns ds=>cases d'<;>cases h
   | exc C ns ds=>cases d'<;>cases h
theorem zLM (I:Inv X pins σ H s)(sub:Same G H):∀(n:Nat) (A:Around) (d d':D) (x y:V) (u v:Value) (k:Bool),A.units+n < cLine->eqD n d d'=some k->Rep X.K G d x->Rep X.K G d' y->RelV x u->RelV y v ->
   SeqAt.RcAt A s u v k/\SeqAt.RcNeAt A s u v (!k)/\SeqAt.EqAt A s u v k:=by
 intro n
 induction n with
 | zero=>intro A d d' x y u v k _ h;cases d<;>cases d'<;>cases h
 | succ n ih =>
   intro A d d' x y u v k hu h r1 r2 ru rv
   have hu1:A.units < cLine:=by omega
   have hin:A.in1.units+n < cLine:=by show A.units+1+n < cLine;omega
   cases d with
   | int i =>
     cases d' with
     | int j=>cases h;rw[zB] at r1 r2;subst r1;subst r2;obtain⟨t,rfl⟩:=ru;obtain⟨t',rfl⟩:=rv;exact⟨SeqAt.RcAt.int_int _ _ _ _,SeqAt.RcNeAt.int_int _ _ _ _,Iy _ _ _ _⟩
     | _=>cases h
   | bl i =>
     cases d' with
     | bl j=>cases h;rw[wX] at r1 r2;subst r1;subst r2;cases ru;cases rv;exact⟨SeqAt.RcAt.bool_bool _ _,SeqAt.RcNeAt.bool_bool _ _,Uc _ _⟩
     | _=>cases h
   | str i =>
     cases d' with
     | str j=>cases h;rw[yI] at r1 r2;subst r1;subst r2;obtain⟨t,rfl⟩:=ru;obtain⟨t',rfl⟩:=rv;exact⟨SeqAt.RcAt.str_str _ _ _ _,SeqAt.RcNeAt.str_str _ _ _ _,SeqAt.EqAt.str_str _ _ _ _⟩
     | _=>cases h
   | non =>
     cases d' with
     | non=>cases h;rw[vD] at r1 r2;subst r1;subst r2;cases ru;cases rv;exact⟨SeqAt.RcAt.none_none,SeqAt.RcNeAt.none_none,Yo _⟩
     | _=>cases h
   | tup ds =>
     cases d' with
     | tup es =>
       have h0:=h
       unfold eqD at h
       obtain⟨b,h1,rfl⟩:=Qt.mp h
       obtain⟨p,vs,rfl,q1,q2⟩:=xI.mp r1
       obtain⟨p',vs',rfl,q3,q4⟩:=xI.mp r2
       cases ru;cases rv
       obtain⟨its,w1,t1,_⟩:=I.tuple (sub.tup q1)
       obtain⟨jts,w2,t2,_⟩:=I.tuple (sub.tup q3)
       obtain⟨e1,e2⟩:=zY1 h1
       have l1:ds.length=its.length:=q2.length.trans w1.length
       have l2:es.length=jts.length:=q4.length.trans w2.length
       have he:∀j (a1:j < its.toArray.size) (a2:j < jts.toArray.size),SeqAt.EqAt A.in1 s its.toArray[j] jts.toArray[j] (mB (eqD n) ds es j):=fun j a1 a2=>by
         have b1:j < ds.length:=by rw[l1];simpa using a1
         have b2:j < es.length:=by rw[l2];simpa using a2
         obtain⟨v1,f1,g1⟩:=q2.get (Qu b1)
         obtain⟨v2,f2,g2⟩:=q4.get (Qu b2)
         obtain⟨u1,f3,g3⟩:=w1.get f1
         obtain⟨u2,f4,g4⟩:=w2.get f2
         have x1:its.toArray[j]=u1:=by
           have:=(Qk.mp f3).2
           simpa using this
         have x2:jts.toArray[j]=u2:=by
           have:=(Qk.mp f4).2
           simpa using this
         rw[x1,x2]
         exact(ih A.in1 _ _ v1 v2 u1 u2 _ hin (e2 j _ _ (Qu b1) (Qu b2)) g1 g2 g3 g4).2.2
       have ek:((List.range (min its.toArray.size jts.toArray.size)).all (mB (eqD n) ds es)&&its.toArray.size==jts.toArray.size)=(b&&ds.length==es.length):=by
         rw[Qs,Qs,←l1,←l2,e1]
       have R1:=SeqAt.RcAt.tuples t1 t2 hu1 he
       have R2:=SeqAt.RcNeAt.tuples t1 t2 hu1 he
       rw[ek] at R1 R2
       refine⟨R1,R2,?_⟩
       by_cases hp:p=p'
       · subst hp
         have hk:=zV0 I sub (n+1) (.tup ds) (.tup es) (.ref p) _ h0 r1 r2
         rw[hk]
         exact Yo _
       · exact .of_refs hp R1
     | _=>cases h
   | lst ds =>
     cases d' with
     | lst es =>
       have h0:=h
       unfold eqD at h
       obtain⟨p,vs,rfl,q1,q2⟩:=xH.mp r1
       obtain⟨p',vs',rfl,q3,q4⟩:=xH.mp r2
       cases ru;cases rv
       obtain⟨its,w1,t1,_⟩:=I.list (sub.seq q1)
       obtain⟨jts,w2,t2,_⟩:=I.list (sub.seq q3)
       have l1:ds.length=its.length:=q2.length.trans w1.length
       have l2:es.length=jts.length:=q4.length.trans w2.length
       have fin:SeqAt.RcAt A s (.ref p) (.ref p') k/\SeqAt.RcNeAt A s (.ref p) (.ref p') (!k):=by
         split at h
         · rename_i hl
           obtain⟨e1,e2⟩:=zY1 h
           have he:∀j (a1:j < its.toArray.size) (a2:j < jts.toArray.size),SeqAt.EqAt A.in1 s its.toArray[j] jts.toArray[j] (mB (eqD n) ds es j):=fun j a1 a2=>by
             have b1:j < ds.length:=by rw[l1];simpa using a1
             have b2:j < es.length:=by rw[l2];simpa using a2
             obtain⟨v1,f1,g1⟩:=q2.get (Qu b1)
             obtain⟨v2,f2,g2⟩:=q4.get (Qu b2)
             obtain⟨u1,f3,g3⟩:=w1.get f1
             obtain⟨u2,f4,g4⟩:=w2.get f2
             have x1:its.toArray[j]=u1:=by
               have:=(Qk.mp f3).2
               simpa using this
             have x2:jts.toArray[j]=u2:=by
               have:=(Qk.mp f4).2
               simpa using this
             rw[x1,x2]
             exact(ih A.in1 _ _ v1 v2 u1 u2 _ hin (e2 j _ _ (Qu b1) (Qu b2)) g1 g2 g3 g4).2.2
           have hsz:its.toArray.size=jts.toArray.size:=by rw[Qs,Qs,←l1,←l2,hl]
           have ek:(List.range its.toArray.size).all (mB (eqD n) ds es)=k:=by
             rw[e1,Qs,←l1,←hl,Nat.min_self]
           have R1:=SeqAt.RcAt.lists t1.isList t2.isList hsz hu1 he
           have R2:=SeqAt.RcNeAt.lists t1.isList t2.isList hsz hu1 he
           rw[ek] at R1 R2
           exact⟨R1,R2⟩
         · rename_i hl
           cases h
           have hsz:(its.toArray.size != jts.toArray.size)=true:=by
             rw[Qs,Qs,←l1,←l2]
             simpa using hl
           exact⟨SeqAt.RcAt.lists_lengths t1.isList t2.isList hsz hu1,Ou t1.isList t2.isList hsz hu1⟩
       refine⟨fin.1,fin.2,?_⟩
       by_cases hp:p=p'
       · subst hp
         have hk:=zV0 I sub (n+1) (.lst ds) (.lst es) (.ref p) _ h0 r1 r2
         rw[hk]
         exact Yo _
       · exact .of_refs hp fin.1
     | _=>cases h
   | obj C ns ds=>cases d'<;>cases h
   | exc C ns ds=>cases d'<;>cases h
end
section
variable {X:Cx} {a b c e:Expr} {fa fb:Ef} {ga gb:Lf} {pos p:Pos} {k:Nat}
def zKq:D->D->Option Bool:=eqD 8
def zQS (x y:D):Option Bool:=(eqD 8 x y).map (!·)
theorem zLw (hr:Room k X.A):CmR X .Eq zKq:=by
 refine⟨fun x y H Q=>∃G d d' b,Same G H/\Rep X.K G d x/\Rep X.K G d' y/\eqD 8 d d'=some b/\Q (.bl b) H,?_,fun d d' k G H x y Q h s rx ry q=>⟨G,d,d',k,s,rx,ry,h,q H G (.refl s)⟩⟩
 intro pins s σ H x y v u Q I rx ry ⟨G,d,d',b,sub,r1,r2,h,q⟩
 have hu:=hr.units
 exact(zLM I sub 8 X.A d d' x y v u b (by omega) h r1 r2 rx ry).1 X.prog X.w X.xe _ ⟨.bl b,H,I,rfl,q⟩
theorem zWi (hr:Room k X.A):CmR X .NotEq zQS:=by
 refine⟨fun x y H Q=>∃G d d' b,Same G H/\Rep X.K G d x/\Rep X.K G d' y/\eqD 8 d d'=some b/\Q (.bl (!b)) H,?_,fun d d' k G H x y Q h s rx ry q=>?_⟩
 · intro pins s σ H x y v u Q I rx ry ⟨G,d,d',b,sub,r1,r2,h,q⟩
   have hu:=hr.units
   exact(zLM I sub 8 X.A d d' x y v u b (by omega) h r1 r2 rx ry).2.1 X.prog X.w X.xe _ ⟨.bl (!b),H,I,rfl,q⟩
 · unfold zQS at h
   obtain⟨b,h1,rfl⟩:=Qt.mp h
   exact⟨G,d,d',b,s,rx,ry,h1,q H G (.refl s)⟩
def zPi:D->Option V
 | .non=>some .non
 | .bl b=>some (.bl b)
 | .int i=>some (.int i)
 | .str x=>some (.str x)
 | _=>none
def zY3:List D->Option (List V)
 | []=>some []
 | d::r=>(zPi d).bind fun v=>(zY3 r).map fun vs=>v::vs
theorem zXh {K:PySem.W.Frag}{G:Hp}{d:D}{v x:V}(h:zPi d=some v)(r:Rep K G d x):x=v/\kT v=true:=by
 cases d with
 | non=>cases h;exact⟨vD.mp r,rfl⟩
 | bl b=>cases h;exact⟨wX.mp r,rfl⟩
 | int i=>cases h;exact⟨zB.mp r,rfl⟩
 | str i=>cases h;exact⟨yI.mp r,rfl⟩
 | _=>cases h
theorem fJ {K:PySem.W.Frag}{G:Hp}:∀ {ds:List D} {vs xs:List V},zY3 ds=some vs->Reps K G ds xs->xs=vs/\vs.all kT=true
 | [],_,_,h,r=>by cases h;rw[yR] at r;exact⟨r,rfl⟩
 | d::t,_,_,h,r=>by
   unfold zY3 at h
   obtain⟨v,h1,h⟩:=Qq.mp h
   obtain⟨vs,h2,rfl⟩:=Qt.mp h
   obtain⟨x,xr,rfl,r1,r2⟩:=z9.mp r
   obtain⟨rfl,f1⟩:=zXh h1 r1
   obtain⟨rfl,f2⟩:=fJ h2 r2
   exact⟨rfl,by rw[Uq,f1,f2];rfl⟩
def zPk (x y:D):Option Bool:=(zPi x).bind fun v=>match y with
 | .lst ds=>(zY3 ds).map fun vs=>inV v vs
 | .tup ds=>(zY3 ds).map fun vs=>inV v vs
 | _=>none
theorem zOs {K:PySem.W.Frag}{G H:Hp}{d d':D}{x y:V}{k:Bool}(h:zPk d d'=some k)(s:Same G H)(rx:Rep K G d x)(ry:Rep K G d' y):∃p xs,y = .ref p/\(SqL K H p xs∨SqT K H p xs)/\kT x=true/\xs.all kT=true/\k=inV x xs:=by
 unfold zPk at h
 obtain⟨v,h1,h⟩:=Qq.mp h
 obtain⟨rfl,f1⟩:=zXh h1 rx
 cases d' with
 | lst ds =>
   obtain⟨vs,h2,rfl⟩:=Qt.mp h
   obtain⟨p,xs,rfl,q1,q2⟩:=xH.mp ry
   obtain⟨rfl,f2⟩:=fJ h2 q2
   exact⟨p,_,rfl,.inl (s.seq q1),f1,f2,rfl⟩
 | tup ds =>
   obtain⟨vs,h2,rfl⟩:=Qt.mp h
   obtain⟨p,xs,rfl,q1,q2⟩:=xI.mp ry
   obtain⟨rfl,f2⟩:=fJ h2 q2
   exact⟨p,_,rfl,.inr (s.tup q1),f1,f2,rfl⟩
 | _=>cases h
theorem zPM:CmR X .In zPk:=⟨_,zR4,fun d d' k G H x y Q h s rx ry q=>by
 obtain⟨p,xs,e1,e2,e3,e4,rfl⟩:=zOs h s rx ry
 exact⟨p,xs,e1,e2,e3,e4,q H G (.refl s)⟩⟩
def zTI (x:Int):List Int->List Int
 | []=>[x]
 | y::r=>if x<=y then x::y::r else y::zTI x r
def aJ:List Int->List Int
 | []=>[]
 | x::r=>zTI x (aJ r)
theorem cO (x:Int):∀l:List Int,(zTI x l).Perm (x::l)
 | []=>.refl _
 | y::r=>by
   unfold zTI
   split
   · exact .refl _
   · exact(List.Perm.cons y (cO x r)).trans (List.Perm.swap x y r)
theorem fU:∀l:List Int,(aJ l).Perm l
 | []=>.refl _
 | x::r=>(cO x (aJ r)).trans (.cons x (fU r))
theorem aR (x:Int):∀l:List Int,l.Pairwise (· <= ·)->(zTI x l).Pairwise (· <= ·)
 | [],_=>by unfold zTI;simp
 | y::r,h=>by
   unfold zTI
   split
   · rename_i hxy
     refine Tc.mpr ⟨fun z hz=>?_,h⟩
     rcases Qj.mp hz with q | q
     · rw[q];exact hxy
     · exact Int.le_trans hxy ((Tc.mp h).1 z q)
   · rename_i hxy
     refine Tc.mpr ⟨fun z hz=>?_,aR x r (Tc.mp h).2⟩
     rcases Qj.mp ((cO x r).mem_iff.mp hz) with q | q
     · rw[q];omega
     · exact(Tc.mp h).1 z q
theorem cV:∀l:List Int,(aJ l).Pairwise (· <= ·)
 | []=>.nil
 | x::r=>aR x _ (cV r)
theorem zTE {l m:List Int}(hp:l.Perm m)(hl:l.Pairwise (· <= ·))(hm:m.Pairwise (· <= ·)):l=m:=hp.eq_of_pairwise (fun a b _ _ h1 h2=>Int.le_antisymm h1 h2) hl hm
def jY:List D->Option (List Int)
 | []=>some []
 | .int i::r=>(jY r).map fun is=>i::is
 | _=>none
theorem iW {K:PySem.W.Frag}{G:Hp}:∀ {ds:List D} {is:List Int} {vs:List V},jY ds=some is->Reps K G ds vs->vs=is.map V.int
 | [],_,_,h,r=>by cases h;rw[yR] at r;rw[r];rfl
 | d::t,_,_,h,r=>by
   unfold jY at h
   split at h
   · rename_i h';cases h'
   · rename_i k t' h'
     cases h'
     obtain⟨v,vr,rfl,r1,r2⟩:=z9.mp r
     obtain⟨ks,h1,rfl⟩:=Qt.mp h
     rw[iW h1 r2,zB.mp r1];rfl
   · cases h
theorem zVO:CallR X (.builtin "sorted") (fun xs H Q=>∃(q:Addr) (ns:List Int),xs=[V.ref q]/\SqL X.K H q (ns.map V.int)/\ns.length < 64/\∀l,H l=none->Q (.ref l) (upd H l (.lst ((aJ ns).map V.int)))):=by
 intro pins s σ H xs us Q I r h
 obtain⟨q,ns,rfl,hq,hl,k⟩:=h
 obtain⟨u,rfl,ru⟩:=pI r
 cases ru
 obtain⟨its,rv,pl,hz⟩:=I.list hq
 have hi:=zSQ rv
 have hlen:its.length < 64:=by rw[←rv.length,Qo];exact hl
 refine sorted_ints pl.isList hi hlen fun out ns' a1 a2 a3=>?_
 obtain⟨e,he⟩:=sortedAll_at s.heap its out
 have en:ns'=aJ ns:=zTE (a2.trans (fU ns).symm) a3 (cV ns)
 subst en
 have hsz:s.heap.objs.size<=s.heap.objs.size+1:=Rm _
 refine⟨.ref (s.heap.objs.size+1),_,I.laid (t':=s.toks) (o:=.lst ((aJ ns).map V.int)) (fun b o e=>sortedAll_old e) hsz ?_,rfl,k _ (I.hok.fresh hsz)⟩
 refine⟨?_,out.toList,e,cK a1,by simpa [seqObj] using he⟩
 rw[Qo,(fU ns).length_eq]
 exact Wj (wD (by show ns.length<=100000;omega))
theorem zXr {K:PySem.W.Frag}{G:Hp}:∀ns:List Int,Reps K G (ns.map .int) (ns.map V.int)
 | []=>yR.mpr rfl
 | n::r=>z9.mpr ⟨_,_,rfl,zB.mpr rfl,zXr r⟩
def zWk (g:Lf):Lf:=fun ρ=>(g ρ).bind fun ds=>(jY ds).bind fun ns=>if ns.length < 64 then some ((aJ ns).map .int) else none
theorem zRo (hg:Gl X "sorted")(hm:X.mg "sorted"=none)(h:zU0 X a ga)(hs:starEach [a] X.env=[(false,eval a X.env)]:=by rfl):PFr X (.Call (.Name "sorted" p) [a] [] pos) (zWk ga):=by
 refine PE.toR (sV zVO hg hm (by rfl) (yV h yE (by rw[hs];rfl)) (by decide) (by decide) (by rw[hs];rfl) (by rfl)) ?_
 rintro σ H Q ⟨G0,H0,G,ρ,d,good,hf,k⟩
 unfold zWk at hf
 obtain⟨ds,h1,hf⟩:=Qq.mp hf
 obtain⟨ns,h2,hf⟩:=Qq.mp hf
 split at hf
 · rename_i hl
   cases hf
   refine⟨G0,H0,G,ρ,_,good,h1,fun q vs H1 G1 s1 hq rs=>?_⟩
   have e:=iW h2 rs
   subst e
   refine⟨q,ns,rfl,s1.sub.seq hq,hl,fun l hl'=>?_⟩
   exact k l _ _ G1 (s1.trans (Step.own s1.sub hl')) (s1.hh.free hl') zC (s1.sub.free hl') (zXr _)
 · cases hf
end
def Its (x:Str):It:=⟨fun i _=>i < x.cps.size,fun i H y H'=>H'=H/\∃c,x.cps[i]?=some c/\y = .str ⟨#[c]⟩,fun i _=>x.cps.size<=i⟩
theorem zOX {P:Program}{w:World}{K:PySem.W.Frag}{tg:Expr}(it:Addr)(ty:String)(hty:ty="str_ascii_iterator"∨ty="str_iterator")(x:Str)(t:Tok):Turn P w K tg (Its x) [it] it (fun i h=>h.IsStrIter it ty x t i) where
 mem:=by simp
 obj:=fun i h st b hb=>by
   have e:b=it:=by simpa using hb
   subst e
   obtain⟨o,e,c,d⟩:=st
   exact⟨o,e,fun v z=>by rw[d] at z;cases z⟩
 keep:=fun i h h' st k=>by
   obtain⟨o,e,r⟩:=st
   exact⟨o,k it (by simp) o e,r⟩
 item:=by
   intro X hP hw hK hc i pins s σ H E I hf st hg
   subst hP hw hK
   obtain⟨f0,f1,f2,f3,f4,f5⟩:=hf it (by simp)
   have hg:i < x.cps.size:=hg
   have hx:x.cps[i]?=some x.cps[i]:=by simp[hg]
   rcases hty with rfl | rfl
   · refine wpAny_pyNext_ascii_item st hx fun h' st' sb=>?_
     have I1:Inv X pins σ H { s with heap:=h',toks:=s.toks+1 }:=I.turned (t':=s.toks+1) (fun b o hb e=>(sb.2 b hb).trans e) f0 f1 f3 f4 f5
     obtain⟨o,e,c,d⟩:=id st'
     exact⟨_,rfl,zUO (s:={ s with heap:=h',toks:=s.toks+1 }) e c d (by decide) ⟨.str ⟨#[x.cps[i]]⟩,H,I1,⟨_,rfl⟩,⟨rfl,_,hx,rfl⟩,st',fun b hb=>(hf b hb).1⟩⟩
   · refine wpAny_pyNext_wide_item st hx fun h' st' sb=>?_
     have I1:Inv X pins σ H { s with heap:=h',toks:=s.toks+1 }:=I.turned (t':=s.toks+1) (fun b o hb e=>(sb.2 b hb).trans e) f0 f1 f3 f4 f5
     obtain⟨o,e,c,d⟩:=id st'
     exact⟨_,rfl,zUO (s:={ s with heap:=h',toks:=s.toks+1 }) e c d (by decide) ⟨.str ⟨#[x.cps[i]]⟩,H,I1,⟨_,rfl⟩,⟨rfl,_,hx,rfl⟩,st',fun b hb=>(hf b hb).1⟩⟩
 done:=by
   intro X hP hw hK hc i pins s σ H E I hf st hg
   subst hP hw hK
   obtain⟨f0,f1,f2,f3,f4,f5⟩:=hf it (by simp)
   have hg:x.cps.size<=i:=hg
   have hx:x.cps[i]?=none:=by simp[hg]
   rcases hty with rfl | rfl
   · exact wpAny_pyNext_ascii_end (I.ok.hd hc) st hx fun h' eb=>⟨rfl,I.turned (t':=s.toks) (fun b o hb e=>eb b o hb e) f0 f1 f3 f4 f5⟩
   · exact wpAny_pyNext_wide_end (I.ok.hd hc) st hx fun h' eb=>⟨rfl,I.turned (t':=s.toks) (fun b o hb e=>eb b o hb e) f0 f1 f3 f4 f5⟩
 self:=fun _ _ _ _ _ st h=>by
   rcases hty with rfl | rfl
   · exact wpAny_pyIter_striter_ascii st h
   · exact wpAny_pyIter_striter_wide st h
def zYQ (x:Str):List D:=x.cps.toList.map fun c=>.str ⟨#[c]⟩
theorem zSO {K:PySem.W.Frag}{G:Hp}{x:Str}:bM K (Its x) G (zYQ x):=by
 intro i G2 H2 s1 s2
 have hl:(zYQ x).length=x.cps.size:=by simp[zYQ]
 refine⟨fun d hd=>?_,fun hi=>by rw[hl] at hi;exact hi⟩
 have hi:i < x.cps.size:=by rw[←hl];exact(Qk.mp hd).1
 refine⟨hi,fun y H3 q=>?_⟩
 obtain⟨rfl,c,hc,rfl⟩:=q
 unfold zYQ at hd
 rw[Wq,Array.getElem?_toList,hc] at hd
 cases hd
 exact⟨G2,.refl s2,yI.mpr rfl⟩
section
variable {X:Cx} {a b c e tg elt iter:Expr} {es ifs:List Expr} {fa fb fc:Ef} {ga gb gi:Lf} {ta tc:Tf} {pos p:Pos} {st:Stmt}
def zJK (tl:TE):TI:=fun σ H R=>tl σ H fun x H1=>∃z,x = .str z/\R (Its z) H1
theorem zN2 {l:Expr}{tl:TE}(hl:PE X l tl):PI X tg l (zJK tl):=by
 intro pins s σ H R I h
 refine thn (hl pins s σ H _ I h) fun v s1 ⟨x,H1,I1,r1,q1⟩=>?_
 obtain⟨z,e,q⟩:=q1
 subst e
 obtain⟨t,rfl⟩:=r1
 have fin:∀(o:Obj) (ty:String),(ty="str_ascii_iterator"∨ty="str_iterator")->(s1.heap.push o).IsStrIter s1.heap.objs.size ty z t 0->PIE X pins σ tg R (.ref s1.heap.objs.size) { s1 with heap:=s1.heap.push o }:=fun o ty hty st=>by
   refine⟨s1.heap.objs.size,[s1.heap.objs.size],_,_,H1,rfl,I1.kept (t':=s1.toks) fun b o e=>Qr _ e,zOX _ ty hty z t,st,fun b hb=>?_,q⟩
   have e:b=s1.heap.objs.size:=by simpa using hb
   subst e
   exact I1.fpOk (Ql _) (I1.hok.fresh (Ql _))
 cases ha:z.cps.all (· < 128)
 · exact wpAny_pyIter_wide ha (fin _ _ (.inr rfl) ⟨_,Qa _ rfl,rfl,rfl⟩)
 · exact wpAny_pyIter_ascii ha (fin _ _ (.inl rfl) ⟨_,Qa _ rfl,rfl,rfl⟩)
def iS (f:Ef):Lf:=fun ρ=>(f ρ).bind fun d=>match d with | .str x=>some (zYQ x) | _=>none
theorem zOh (h:PF X e fa):PFI X tg e (iS fa):=by
 refine PI.to (zN2 h) ?_
 rintro σ H R ⟨G0,H0,G,ρ,ds,good,hf,k⟩
 unfold iS at hf
 obtain⟨d,h1,hf⟩:=Qq.mp hf
 cases d with
 | str x =>
   cases hf
   refine⟨G0,H0,G,ρ,_,good,h1,fun v H1 G1 s1 r1=>?_⟩
   exact⟨x,yI.mp r1,k _ H1 G1 s1 zSO⟩
 | _=>cases hf
def gIn:D->D->Option Bool | .str i,.str j=>some (!(Builtin.Str.occurrences j i 0 j.length 1).isEmpty) | _,_=>none
theorem zKG:CmR X .In gIn:=⟨_,zRL,fun d d' k G H x y Q h s rx ry q=>by
 unfold gIn at h
 split at h
 · cases h;exact⟨_,_,yI.mp rx,yI.mp ry,q H G (.refl s)⟩
 · cases h⟩
def eB3 (g g':D->D->Option Bool)(fa fb fc:Ef):Tf:=fun ρ=>(fa ρ).bind fun x=>(fb ρ).bind fun y=>(g x y).bind fun k=>if k=true then(fc ρ).bind fun z=>g' y z else some false
theorem zQy {op op':CmpOp}{g g':D->D->Option Bool}(hc1:CmR X op g)(hc2:CmR X op' g')(ha:PF X a fa)(hb:PF X b fb)(hc:PF X c fc)(hm:lastMarks [op,op'] [b,c]=false:=by with_unfolding_all rfl):PF X (.Compare a [op,op'] [b,c] pos) (uL (eB3 g g' fa fb fc)):=by
 obtain⟨r,ho,hr⟩:=hc1
 obtain⟨r',ho',hr'⟩:=hc2
 refine PE.to (zPT ho ho' ha hb hc hm) ?_
 rintro σ H Q ⟨G0,H0,G,ρ,d,good,hf,k⟩
 obtain⟨b',hf2,rfl⟩:=zYU hf
 unfold eB3 at hf2
 obtain⟨x,h1,hf2⟩:=Qq.mp hf2
 obtain⟨y,h2,hf2⟩:=Qq.mp hf2
 obtain⟨kk,h3,hf2⟩:=Qq.mp hf2
 refine⟨G0,H0,G,ρ,_,good,h1,fun u H1 G1 s1 r1=>⟨G0,H0,G1,ρ,_,good.step s1,h2,fun v H2 G2 s2 r2=>?_⟩⟩
 refine hr x y kk G2 H2 u v _ h3 s2.sub (r1.mono s2.gg) r2 fun H3 G3 s3=>⟨kk,rfl,?_⟩
 split at hf2
 · rename_i hk
   rw[Qn hk]
   obtain⟨z,h4,hf3⟩:=Qq.mp hf2
   refine⟨G0,H0,G3,ρ,_,((good.step s1).step s2).step s3,h4,fun w' H4 G4 s4 r4=>?_⟩
   exact hr' y z b' G4 H4 v w' Q hf3 s4.sub ((r2.mono s3.gg).mono s4.gg) r4 fun H5 G5 s5=>k _ _ G5 ((((s1.trans s2).trans s3).trans s4).trans s5) (wX.mpr rfl)
 · rename_i hk
   rw[Wd hk];cases hf2
   exact k _ _ G3 ((s1.trans s2).trans s3) (wX.mpr rfl)
def zKD:D->D->Option D
 | .int i,.int j=>some (.int (i+j))
 | .str i,.str j=>if i.length+j.length<=lim then some (.str (i++j)) else none
 | _,_=>none
def zPh (fa fb:Ef):Ef:=fun ρ=>(fa ρ).bind fun x=>(fb ρ).bind fun y=>zKD x y
theorem zNh (ha:PF X a fa)(hb:PF X b fb):PF X (.BinOp a .Add b pos) (zPh fa fb):=by
 refine PE.to (zWW (zO1.or zTy) ha hb) ?_
 rintro σ H Q ⟨G0,H0,G,ρ,d,good,hf,k⟩
 unfold zPh at hf
 obtain⟨x,h1,hf⟩:=Qq.mp hf
 obtain⟨y,h2,hf⟩:=Qq.mp hf
 refine⟨G0,H0,G,ρ,_,good,h1,fun u H1 G1 s1 r1=>⟨G0,H0,G1,ρ,_,good.step s1,h2,fun v H2 G2 s2 r2=>?_⟩⟩
 have r1:=r1.mono s2.gg
 unfold zKD at hf
 split at hf
 · cases hf;exact .inl ⟨_,_,zB.mp r1,zB.mp r2,k _ _ G2 (s1.trans s2) (zB.mpr rfl)⟩
 · split at hf
   · rename_i hz;cases hf;exact .inr ⟨_,_,yI.mp r1,yI.mp r2,Wj (wD hz),k _ _ G2 (s1.trans s2) (yI.mpr rfl)⟩
   · cases hf
 · cases hf
def zMG:V->List V->Hp->VK->Prop:=fun x vs H Q=>∃a b,x = .str a/\vs=[.str b]/\Q (.int (Txt.find a b)) H
theorem zVY:MtR X "str.find" zMG:=by
 intro pins s σ H x xs v us Q I rx rv h
 obtain⟨a,b,rfl,rfl,q⟩:=h
 obtain⟨t,rfl⟩:=rx
 obtain⟨u,rfl,t',rfl⟩:=rv.one
 exact SC.find ⟨.int _,H,I.tok _,⟨_,rfl⟩,q⟩
def zU6 (fa fb:Ef):Ef:=fun ρ=>(fa ρ).bind fun x=>(fb ρ).bind fun y=>match x,y with | .str a,.str b=>some (.int (Txt.find a b)) | _,_=>none
theorem zVW (ht:PE X c (tBM X.K "str" zMG (tF X.K fa) (fG (tF X.K fb) zVx))):PF X c (zU6 fa fb):=by
 refine PE.to ht ?_
 rintro σ H Q ⟨G0,H0,G,ρ,d,good,hf,k⟩
 unfold zU6 at hf
 obtain⟨x,h1,hf⟩:=Qq.mp hf
 obtain⟨y,h2,hf⟩:=Qq.mp hf
 split at hf
 · cases hf
   refine⟨G0,H0,G,ρ,_,good,h1,fun u H1 G1 s1 r1=>?_⟩
   have r1:=yI.mp r1
   subst r1
   refine⟨rfl,G0,H0,G1,ρ,_,good.step s1,h2,fun v H2 G2 s2 r2=>?_⟩
   have r2:=yI.mp r2
   subst r2
   exact⟨_,_,rfl,rfl,k _ _ G2 (s1.trans s2) (zB.mpr rfl)⟩
 · cases hf
def bX (f:Ef):Ef:=fun ρ=>(f ρ).bind fun d=>match d with | .int i=>if i.natAbs.log2 < 1920 then some (.str (Str.ofString (toString i))) else none | _=>none
theorem zOS (hg:Gl X "str")(hm:X.mg "str"=none)(h:PF X a fa)(hs:starEach [a] X.env=[(false,eval a X.env)]:=by rfl):PF X (.Call (.Name "str" p) [a] [] pos) (bX fa):=by
 refine PE.to (qA zWx hg hm (by rfl) (yV h yE (by rw[hs];rfl)) (by decide) (by decide) (by rw[hs];rfl) (by rfl)) ?_
 rintro σ H Q ⟨G0,H0,G,ρ,d,good,hf,k⟩
 unfold bX at hf
 obtain⟨x,h1,hf⟩:=Qq.mp hf
 refine⟨G0,H0,G,ρ,_,good,h1,fun v H1 G1 s1 r1=>?_⟩
 cases x with
 | int i =>
   dsimp only at hf
   split at hf
   · rename_i hz
     cases hf
     exact⟨i,by rw[zB.mp r1],hz,k _ _ G1 s1 (yI.mpr rfl)⟩
   · cases hf
 | _=>cases hf
theorem zRA:CallR X (.type "int") (fun xs H Q=>∃x n,xs=[.str x]/\x.length<=640/\PySem.intText? x=some n/\Q (.int n) H):=by
 intro pins s σ H xs us Q I r h
 obtain⟨x,n,rfl,hl,hn,q⟩:=h
 obtain⟨u,rfl,t,rfl⟩:=pI r
 exact PySem.W.KIN.call_text hn hl ⟨.int n,H,I.tok _,⟨_,rfl⟩,q⟩
def zKu:D->Option D
 | .int i=>some (.int i)
 | .bl k=>some (.int (if k then 1 else 0))
 | .str x=>if x.length<=640 then(PySem.intText? x).map .int else none
 | _=>none
def zVG (f:Ef):Ef:=fun ρ=>(f ρ).bind zKu
theorem zOK (hg:Gl X "int")(hm:X.mg "int"=none)(h:PF X a fa)(hs:starEach [a] X.env=[(false,eval a X.env)]:=by rfl):PF X (.Call (.Name "int" p) [a] [] pos) (zVG fa):=by
 refine PE.to (qA (zRR.or zRA) hg hm (by rfl) (yV h yE (by rw[hs];rfl)) (by decide) (by decide) (by rw[hs];rfl) (by rfl)) ?_
 rintro σ H Q ⟨G0,H0,G,ρ,d,good,hf,k⟩
 unfold zVG at hf
 obtain⟨x,h1,hf⟩:=Qq.mp hf
 refine⟨G0,H0,G,ρ,_,good,h1,fun v H1 G1 s1 r1=>?_⟩
 unfold zKu at hf
 split at hf
 · cases hf;exact .inl (.inl ⟨_,by rw[zB.mp r1],k _ _ G1 s1 (zB.mpr rfl)⟩)
 · cases hf;exact .inl (.inr ⟨_,by rw[wX.mp r1],k _ _ G1 s1 (zB.mpr rfl)⟩)
 · split at hf
   · rename_i hz
     obtain⟨n,h2,rfl⟩:=Qt.mp hf
     exact .inr ⟨_,n,by rw[yI.mp r1],hz,h2,k _ _ G1 s1 (zB.mpr rfl)⟩
   · cases hf
 · cases hf
theorem zN9:OpR X (binaryOp .Add) (fun x y H Q=>∃l b xs zs,x = .ref l/\y = .ref b/\SqL X.K H l xs/\SqL X.K H b zs/\xs.length+zs.length<=sizeLine/\∀p,H p=none->Q (.ref p) (upd H p (.lst (xs++zs)))):=by
 intro pins s σ H x y v u Q I rx ry h
 obtain⟨l,b,xs,zs,rfl,rfl,hH,hB,hz,q⟩:=h
 cases rx
 cases ry
 obtain⟨its,r,pl,_⟩:=I.list hH
 obtain⟨its2,r2,pl2,_⟩:=I.list hB
 obtain⟨⟨cls,dd,data,sl⟩,ho,hc,n,hd⟩:=pl.isList
 obtain⟨⟨cls2,dd2,data2,sl2⟩,ho2,hc2,n2,hd2⟩:=pl2.isList
 simp only at hc hd hc2 hd2
 subst hc hd hc2 hd2
 have hl:=r.length
 have hl2:=r2.length
 have e:its.toArray++its2.toArray=(its++its2).toArray:=by simp
 refine concat_meets ⟨_,ho,rfl⟩ ⟨_,ho2,rfl⟩ noFill_list_add seq_list_add PySem.F.slot_list_add PySem.F.entry_list_add (PySem.F.args_list_add_2 _ _) (list_addW l b its.toArray its2.toArray n n2 dd dd2 sl sl2 (by rw[Qs,Qs];omega)) ⟨ho,ho2,?_⟩
 rw[e]
 exact⟨.ref _,_,I.lnew (t':=s.toks) (r.append r2) (by rw[Wr];omega),rfl,q _ I.fresh⟩
theorem zZV (ha:zU0 X a ga)(hb:zU0 X b gb):PFr X (.BinOp a .Add b pos) (fS ga gb):=by
 refine PE.toR (zWW zN9 ha hb) ?_
 rintro σ H Q ⟨G0,H0,G,ρ,d,good,hf,k⟩
 unfold fS at hf
 obtain⟨xs,h1,hf⟩:=Qq.mp hf
 obtain⟨ys,h2,hf⟩:=Qq.mp hf
 obtain⟨rfl,h3⟩:=dO hf
 refine⟨G0,H0,G,ρ,_,good,h1,fun p vs H1 G1 s1 hq rs=>⟨G0,H0,G1,ρ,_,good.step s1,h2,fun q us H2 G2 s2 hq2 rs2=>?_⟩⟩
 refine⟨p,q,vs,us,rfl,rfl,(s1.sub.trans s2.hh).seq hq,s2.sub.seq hq2,?_,fun l hl=>?_⟩
 · rw[←rs.length,←rs2.length,←Wr];exact Wj (wD h3)
 · have s3:=Step.own (o:=.lst (vs++us)) s2.sub hl
   exact k l _ _ G2 ((s1.trans s2).trans s3) ((s1.trans s2).hh.free hl) zC (s2.sub.free hl) ((rs.mono s2.gg).append rs2)
def zXD:List D->Option (List Str)
 | []=>some []
 | .str x::r=>(zXD r).map fun xs=>x::xs
 | _=>none
theorem zX5 {K:PySem.W.Frag}{G:Hp}:∀ {ds:List D} {ys:List Str} {vs:List V},zXD ds=some ys->Reps K G ds vs->vs=ys.map V.str
 | [],_,_,h,r=>by cases h;rw[yR] at r;rw[r];rfl
 | d::t,_,_,h,r=>by
   unfold zXD at h
   split at h
   · rename_i h';cases h'
   · rename_i k t' h'
     cases h'
     obtain⟨v,vr,rfl,r1,r2⟩:=z9.mp r
     obtain⟨ks,h1,rfl⟩:=Qt.mp h
     rw[zX5 h1 r2,yI.mp r1];rfl
   · cases h
theorem zUd {ns:List Str}:∀ {us:List Value},Vals (ns.map V.str) us->StrsAre us ns:=by
 induction ns with
 | nil=>intro us r;rw[Rs] at r;cases r;exact .nil
 | cons n ns ih =>
   intro us r
   rw[Qg] at r
   cases r with
   | cons r1 r2 =>
     obtain⟨t,e⟩:=r1
     subst e
     exact .cons n t (ih r2)
def zMR (K:PySem.W.Frag):V->List V->Hp->VK->Prop:=fun x vs H Q=>∃z p ys,x = .str z/\vs=[.ref p]/\SqL K H p (ys.map V.str)/\(ys.map (·.length)).sum+ys.length*z.length<=16777216/\Q (.str (Txt.join z ys)) H
theorem cX:MtR X "str.join" (zMR X.K):=by
 intro pins s σ H x xs v us Q I rx rv h
 obtain⟨z,p,ys,rfl,rfl,hq,hz,q⟩:=h
 obtain⟨t,rfl⟩:=rx
 obtain⟨u,rfl,ru⟩:=rv.one
 cases ru
 obtain⟨its,r,pl,_⟩:=I.list hq
 exact join_list pl.isList (by simpa using zUd r) hz fun t' k=>⟨.str _,H,I.tok k,⟨t',rfl⟩,q⟩
def gR (fa:Ef)(ga:Lf):Ef:=fun ρ=>(fa ρ).bind fun x=>(ga ρ).bind fun ds=>match x with | .str z=>(zXD ds).bind fun ys=>if (ys.map (·.length)).sum+ys.length*z.length<=100000 then some (.str (Txt.join z ys)) else none | _=>none
theorem eY (ht:PE X c (tBM X.K "str" (zMR X.K) (tF X.K fa) (fG (zNI X.K ga) zVx))):PF X c (gR fa ga):=by
 refine PE.to ht ?_
 rintro σ H Q ⟨G0,H0,G,ρ,d,good,hf,k⟩
 unfold gR at hf
 obtain⟨x,h1,hf⟩:=Qq.mp hf
 obtain⟨ds,h2,hf⟩:=Qq.mp hf
 cases x with
 | str z =>
   dsimp only at hf
   obtain⟨ys,h3,hf⟩:=Qq.mp hf
   split at hf
   · rename_i hz
     cases hf
     refine⟨G0,H0,G,ρ,_,good,h1,fun u H1 G1 s1 r1=>?_⟩
     have r1:=yI.mp r1
     subst r1
     refine⟨rfl,G0,H0,G1,ρ,_,good.step s1,h2,fun q vs H2 G2 s2 hq rs=>?_⟩
     have e:=zX5 h3 rs
     subst e
     exact⟨z,q,ys,rfl,rfl,s2.sub.seq hq,Eu hz (by decide),k _ _ G2 (s1.trans s2) (yI.mpr rfl)⟩
   · cases hf
 | _=>cases hf
end
structure FunD (K:PySem.W.Frag)(x qual:Str)(st:Stmt)(f:Addr)(fd:FuncData):Prop where
 ex:∃(oc:Value) (od:Option Addr) (dV kV doc pm:Value) (an:Option Addr) (cdv ct:Value) (osl:Array (Option Value)),
   fd=PySem.W.fnOf x qual (zF st) (zK st) (zV st) dV kV doc pm an cdv ct/\K.lookup f=some ⟨oc,od,.func fd,osl⟩/\PySem.W.codeIn K cdv qual=true
 kp:PySem.W.keepIn K (.ref f)=true
section
variable {P:Program} {w:World} {K:PySem.W.Frag} {mg:Str->Option Value} {base:Heap} {x qual:Str} {st:Stmt} {f:Addr} {fd:FuncData} {N ps:List Str} {k:Nat}
end
section
variable {X:Cx} {e:Expr} {es:List Expr} {ga:Lf} {pos p:Pos}
end
theorem fN {K:PySem.W.Frag}{G:Hp}{f:Str}{d:D}:∀ {ns:List Str} {ds:List D} {vs:List V},ns.length=ds.length->Reps K G ds vs->(ns.zip ds).lookup f=some d->∃u,(ns.zip vs).lookup f=some u/\Rep K G d u
 | [],_,_,_,_,h=>by simp at h
 | n::ns,[],_,hl,_,_=>by simp at hl
 | n::ns,e::ds,_,hl,r,h=>by
   obtain⟨v,vr,rfl,r1,r2⟩:=z9.mp r
   rw[List.zip_cons_cons,Er] at h ⊢
   cases hq:f==n with
   | true=>rw[hq] at h;cases h;exact⟨v,rfl,r1⟩
   | false=>rw[hq] at h;exact fN (by simpa using hl) r2 h
section
variable {X:Cx} {a b c e tg elt iter:Expr} {es ifs:List Expr} {fa fb fc:Ef} {ga gb gi:Lf} {ta tc:Tf} {pos p:Pos} {st:Stmt}
def xE (c f:Str)(fa:Ef):Ef:=fun ρ=>(fa ρ).bind fun d=>match d with | .obj c' ns ds=>if c'=c then(ns.zip ds).lookup f else none | _=>none
theorem wC {C:Addr}{c f:Str}(hC:ClsAt X.K c C)(hcl:Cls X.K C)(hn:NoAttr X.K C f)(ha:PF X a fa)(hb:attributeBase a f X.env (eval a X.env)=eval a X.env:=by rfl):PF X (.Attribute a f pos) (xE c f fa):=by
 refine PE.to (zL5 ha hb) ?_
 rintro σ H Q ⟨G0,H0,G,ρ,d,good,hf,k⟩
 unfold xE at hf
 obtain⟨x,h1,hf2⟩:=Qq.mp hf
 cases x with
 | obj c' ns ds =>
   dsimp only at hf2
   by_cases hc:c'=c
   · rw[Qn hc] at hf2
     subst hc
     refine⟨G0,H0,G,ρ,_,good,h1,fun v H1 G1 s1 r1=>?_⟩
     obtain⟨C',q,dx,vs,e0,rfl,e1,e2,e3⟩:=zZM.mp r1
     have ec:=hC.one e0
     subst ec
     obtain⟨u,e4,e5⟩:=fN e2 e3 hf2
     exact⟨q,_,dx,ns.zip vs,u,rfl,s1.sub _ _ e1,hcl,hn,e4,k _ _ G1 s1 e5⟩
   · rw[Wd hc] at hf2;cases hf2
 | _=>cases hf2
theorem zZx {f:Str}{y:V}:∀ {ns:List Str} {vs:List V},ns.length=vs.length->f∉ns->mP f y (ns.zip vs)=(ns++[f]).zip (vs++[y])
 | [],[],_,_=>rfl
 | [],_::_,h,_=>by simp at h
 | _::_,[],h,_=>by simp at h
 | n::ns,v::vs,h,hf=>by
   show(if n=f then _ else(n,v)::mP f y (ns.zip vs))=_
   rw[Wd (fun z=>hf (by rw[z];exact Qf)),zZx (by simpa using h) (fun z=>hf (Qd _ z))]
   rfl
def zN0 (K:PySem.W.Frag)(C:Addr)(ns:List Str)(g:Lf):TS:=fun DD σ H=>∃(G0 H0 G:Hp) (ρ:List B) (p dx:Addr) (pre:List Str) (us:List V) (xs ds:List D),
 Good K G0 H0 G H σ ρ/\zY5 ρ/\σ[0]?=some (some (.ref p))/\H p=some (.ins C dx (pre.zip us))/\G p=none/\H0 p=none/\pre.length=us.length/\(pre++ns).Nodup/\(pre++ns).length<=900/\Reps K G xs us/\g ρ=some ds /\
 ∀H' G' vs,Step G0 H0 G' H'->H' p=some (.ins C dx ((pre++ns).zip vs))->G' p=none->Reps K G' (xs++ds) vs->DD.nx σ H'
theorem zSb {C:Addr}:PSs X [] (zN0 X.K C [] zR):=by
 intro pins s σ H D I h
 refine zVH pins s σ H D I ?_
 obtain⟨G0,H0,G,ρ,p,dx,pre,us,xs,ds,good,now,hs,hp,gp,h0,hl,nd,hz,rs,hg,k⟩:=h
 cases hg
 rw[Wh] at k
 exact k H G us good.st (by rw[Wh] at *;exact hp) gp (by rw[Wh];exact rs)
theorem pH {C:Addr}{f x:Str}{ns:List Str}{g:Lf}{rest:List Stmt}{pos' p1:Pos}(hcl:Cls X.K C)(hn:NoAttr X.K C f)(hself:X.N[0]?=some x)(hvis:Vis X.env.scope x)(he:PF X e fa)(hr:PSs X rest (zN0 X.K C ns g))(hd:(x==("__debug__":Str))=false:=by decide)(hcd:(x==("__classdict__":Str))=false:=by decide)
   (hs:swapsWith e (some (.Attribute (.Name x p1) f pos')) pos.line X.env=pure false:=by rfl):PSs X (.Assign [.Attribute (.Name x p1) f pos'] e pos::rest) (zN0 X.K C (f::ns) (zY fa g)):=by
 intro pins s σ H D I h
 refine jB (zMq (pK hself hvis hd hcd) he hs) hr pins s σ H D I ?_
 obtain⟨G0,H0,G,ρ,p,dx,pre,us,xs,ds,good,now,hself,hp,gp,h0,hl,nd,hz,rs,hg,k⟩:=h
 obtain⟨d,dr,h1,h2,rfl⟩:=bN hg
 have hlp:pre.length < 1000:=by rw[Wr] at hz;omega
 have hnp:f∉pre:=fun z=>(Ye.mp nd).2.2 f z f Qf rfl
 have e1:pre++f::ns=(pre++[f])++ns:=by simp
 refine⟨G0,H0,G,ρ,d,good,h1,fun v H1 G1 s1 r1=>⟨.ref p,hself,p,C,dx,pre.zip us,rfl,s1.hh _ _ hp,hcl,hn,?_,?_⟩⟩
 · rw[List.length_zip];omega
 · have hne:H p≠none:=by rw[hp];exact fun z=>nomatch z
   have gp1:G1 p=none:=(s1.new p hne).trans gp
   refine⟨G0,H0,G1,ρ,p,dx,pre++[f],us++[v],xs++[d],dr,(good.step s1).wrX now gp1 h0,now,hself,?_,gp1,h0,by rw[Wr,Wr,hl];rfl,by rw[←e1];exact nd,by rw[←e1];exact hz,(rs.mono s1.gg).snoc r1,h2,fun H' G' vs st q1 q2 q3=>?_⟩
   · rw[zC,zZx hl hnp]
   · refine k H' G' vs st (by rw[e1];exact q1) q2 ?_
     rw[show xs++d::dr=(xs++[d])++dr by simp]
     exact q3
end
def spI (K:PySem.W.Frag)(C:Addr)(ns:List Str)(n:Nat)(f:List D->Option (List D)):Sp:=fun vs H Q _=>∃(p dx:Addr) (rest:List V) (G H0:Hp) (ds xs:List D),vs = .ref p::rest/\H=upd (upd H0 dx (.own p)) p (.ins C dx [])/\H0 p=none/\H0 dx=none/\dx≠p/\Same G H0/\Reps K G ds rest/\ds.length=n/\f ds=some xs /\
 ∀H' G' us,Step G H0 G' H'->H' p=some (.ins C dx (ns.zip us))->G' p=none->Reps K G' xs us->Q .non H'
theorem bV {K:PySem.W.Frag}{G H0 H:Hp}(m:Nat):∀ {ds:List D} {vs:List V},Reps K G ds vs->Paired (RB K H0 G H) (vs.map some++List.replicate m none) (ds.map .fz++List.replicate m .no)
 | [],_,h=>by
   rw[yR] at h;subst h
   show Paired _ (List.replicate m none) (List.replicate m B.no)
   induction m with
   | zero=>exact .nil
   | succ n ih=>rw[Wl,Wl];exact .cons .no ih
 | d::r,_,h=>by
   obtain⟨v,vr,rfl,h1,h2⟩:=z9.mp h
   exact .cons (.fz h1) (bV m h2)
theorem zZJ (m:Nat)(ds:List D):zY5 (.no::(ds.map B.fz++List.replicate m B.no)):=by
 constructor
 all_goals
   intro j es h
   cases j with
   | zero=>cases h
   | succ j =>
     rw[Qz] at h
     by_cases hi:j < ds.length
     · rw[Ec (by simpa using hi),Wq] at h
       obtain⟨k,_,h⟩:=Qt.mp h
       cases h
     · rw[Ep (by simpa using hi),Re] at h
       split at h<;>cases h
def lR (N:Nat)(ds:List D):List B:=.no::(ds.map .fz++List.replicate (N - (ds.length+1)) .no)
section
variable {P:Program} {w:World} {K:PySem.W.Frag} {mg:Str->Option Value} {base:Heap} {x qual:Str} {st:Stmt} {f C:Addr} {fd:FuncData} {N ps ns:List Str} {k:Nat} {sf:Str}
theorem zSc {g:Lf}(F:Fun K x qual st f fd)(S:FnScope N (sf::ps) (zV st))(hnd:ns.Nodup)(hlen:ns.length<=900)
   (hb:∀(cdv:Value) (A:Around) (outer:List Env) (s:Shared) (H:Hp) (E:XK),Room k (A.deeper (envOfC qual (zV st) s.heap.objs.size f cdv))->PSs (kO CX0 P w K mg base N qual (zV st) f cdv A outer s H E).nox (zK st) (zN0 K C ns g)) :
   FnOk P w K mg base CX0 (k+1) f fd (sf::ps) (spI K C ns ps.length fun ds=>g (lR N.length ds)):=by
 refine F.ok S (fun vs H Q E h=>?_) (fun cdv A outer s H vs Q E hr h=>⟨_,hb cdv A outer s H E hr,?_⟩)
 · obtain⟨p,dx,rest,G,H0,ds,xs,rfl,_,_,_,_,_,rs,hl,_⟩:=h
   rw[Qp,Qp,←rs.length,hl]
 · obtain⟨p,dx,rest,G,H0,ds,xs,rfl,rfl,h1,h2,h3,sub,rs,hl,hf,k⟩:=h
   have hne:p≠dx:=h3.symm
   have hp1:(upd H0 dx (.own p)) p=none:=by rw[yQ hne];exact h1
   have st1:Step G H0 G (upd H0 dx (.own p)):=Step.own sub h2
   have st2:Step G H0 G (upd (upd H0 dx (.own p)) p (.ins C dx [])):=st1.trans (Step.own st1.sub hp1)
   have good:Good K G H0 G (upd (upd H0 dx (.own p)) p (.ins C dx [])) (oE N (.ref p::rest)) (lR N.length ds):=by
     refine⟨st2,?_,fun i j a es es' q1=>absurd q1 ((zZJ _ ds).1 i es)⟩
     unfold oE lR
     rw[Qg,Qp,Th,←rs.length]
     exact .cons .no (bV _ rs)
   refine⟨G,H0,G,_,p,dx,[],[],[],xs,good,zZJ _ ds,rfl,zC,sub.free h1,h1,rfl,hnd,hlen,yR.mpr rfl,hf,fun H' G' us s' q1 q2 q3=>k H' G' us s' q1 q2 q3⟩
end
section
variable {X:Cx} {a b c e tg elt iter:Expr} {es ifs:List Expr} {fa fb fc:Ef} {ga gb gi:Lf} {ta tc:Tf} {pos p:Pos} {st:Stmt}
def mK (c:Str)(ns:List Str)(n:Nat)(f:List D->Option (List D))(g:Lf):Ef:=fun ρ=>(g ρ).bind fun ds=>if ds.length=n then(f ds).bind fun xs=>if ns.length=xs.length then some (.obj c ns xs) else none else none
theorem zZT {k n:Nat}{C fI:Addr}{fd:FuncData}{ps ns:List Str}{c:Str}{f:List D->Option (List D)}(hC:ClsAt X.K c C)(M:Mk X.K C fI)(F:FnOk X.prog X.w X.K X.mg X.base CX0 k fI fd ps (spI X.K C ns n f))(hr:Room (k+1) X.A)(hm:X.mg c=some (.ref C))(hb:Binds X.K fd ps [])(hg:Gl X c)
   (ha:PFA X (e::es) ga) (hdb:(c==("__debug__":Str))=false:=by decide) (he:starEach (e::es) X.env=(false,eval e X.env)::starEach es X.env:=by rfl) (hpl:(backTo pos (starEach es X.env)).any (·.1)=false:=by rfl) :
   PF X (.Call (.Name c p) (e::es) [] pos) (mK c ns n f ga):=by
 refine PE.to (zNa (E:=E0) M F hr hg hm hb .nil zS6 ha hdb he hpl) ?_
 rintro σ H Q ⟨G0,H0,G,ρ,d,good,hf,k⟩
 unfold mK at hf
 obtain⟨ds,h1,hf⟩:=Qq.mp hf
 split at hf
 · rename_i hl
   obtain⟨xs,h2,hf⟩:=Qq.mp hf
   split at hf
   · rename_i hn
     cases hf
     refine⟨G0,H0,G,ρ,_,good,h1,fun vs H1 G1 s1 r1 x dx hx hdx hne=>?_⟩
     refine⟨x,dx,vs++[],G1,H1,ds,xs,rfl,rfl,hx,hdx,hne,s1.sub,by rw[Wh];exact r1,hl,h2,fun H' G' us s' q1 q2 q3=>⟨rfl,?_⟩⟩
     exact k _ _ _ (s1.trans (s'.frz hx q1 q2)) (zZM.mpr ⟨C,x,dx,us,hC,rfl,zC,hn,q3.mono (Same.new q2)⟩)
   · cases hf
 · cases hf
def kA:D->D->Option Bool
 | d,.non=>some (pB d)
 | .bl x,.bl y=>some (x==y)
 | .non,.bl _=>some false
 | .int _,.bl _=>some false
 | .str _,.bl _=>some false
 | .tup _,.bl _=>some false
 | .lst _,.bl _=>some false
 | .obj _ _ _,.bl _=>some false
 | .exc _ _ _,.bl _=>some false
 | _,_=>none
theorem zM1:OpR X (compareOp .Is) (fun x y H Q=>∃k,y = .bl k/\Q (.bl (decide (x = .bl k))) H):=by
 intro pins s σ H x y v u Q I rx ry h
 obtain⟨k,rfl,q⟩:=h
 cases ry
 cases x with
 | bl z=>cases rx;refine is_bool (yH I q ?_);rw[zWn]
 | non=>cases rx;refine Ta (by rfl) (by intro z;cases z) (yH I q (by simp))
 | int i=>obtain⟨t,rfl⟩:=rx;refine Ta (by rfl) (by intro z;cases z) (yH I q (by simp))
 | str i=>obtain⟨t,rfl⟩:=rx;refine Ta (by rfl) (by intro z;cases z) (yH I q (by simp))
 | byt i=>obtain⟨t,rfl⟩:=rx;refine Ta (by rfl) (by intro z;cases z) (yH I q (by simp))
 | flt i=>obtain⟨t,rfl⟩:=rx;refine Ta (by rfl) (by intro z;cases z) (yH I q (by simp))
 | ref i=>cases rx;refine Ta (by rfl) (by intro z;cases z) (yH I q (by simp))
 | ty i=>cases rx;refine Ta (by rfl) (by intro z;cases z) (yH I q (by simp))
theorem pG:CmR X .Is kA:=⟨_,zL1.or zM1,fun d d' k G H x y Q h s rx ry q=>by
 have fin:∀(z:Bool) (v:V),d' = .bl z->x=v->k=decide (v = .bl z)->(fun x y H Q=>y=V.non/\Q (.bl (decide (x = .non))) H) x y H Q∨(∃k,y = .bl k/\Q (.bl (decide (x = .bl k))) H):=fun z v e1 e2 e3=>by
   subst e1;subst e2
   exact .inr ⟨z,wX.mp ry,by rw[←e3];exact q H G (.refl s)⟩
 cases d' with
 | non =>
   have hk:pB d=k:=by cases d<;>(cases h;rfl)
   refine .inl ⟨vD.mp ry,?_⟩
   rw[zXF rx,hk];exact q H G (.refl s)
 | bl z =>
   cases d with
   | bl w=>cases h;exact fin z _ rfl (wX.mp rx) (by rw[zWn])
   | non=>cases h;exact fin z _ rfl (vD.mp rx) (by simp)
   | int i=>cases h;exact fin z _ rfl (zB.mp rx) (by simp)
   | str i=>cases h;exact fin z _ rfl (yI.mp rx) (by simp)
   | tup ds=>cases h;obtain⟨p,_,e,_⟩:=xI.mp rx;exact fin z _ rfl e (by simp)
   | lst ds=>cases h;obtain⟨p,_,e,_⟩:=xH.mp rx;exact fin z _ rfl e (by simp)
   | obj _ _ ds=>cases h;obtain⟨_,p,_,_,_,e,_⟩:=zZM.mp rx;exact fin z _ rfl e (by simp)
   | exc _ _ ds=>cases h;obtain⟨_,p,_,_,_,e,_⟩:=lF.mp rx;exact fin z _ rfl e (by simp)
 | _=>cases d<;>cases h⟩
def zM0 (g:Lf)(f:Ef):Lf:=fun ρ=>(g ρ).bind fun ds=>(f ρ).bind fun n=>match n with | .int k=>if decide (0<=k)&&decide (k<=1000)&&decide (ds.length<=90) then some (List.replicate k.toNat ds).flatten else none | _=>none
theorem zUG {K:PySem.W.Frag}{G:Hp}{ds:List D}{vs:List V}(h:Reps K G ds vs):∀k:Nat,Reps K G (List.replicate k ds).flatten (List.replicate k vs).flatten
 | 0=>yR.mpr rfl
 | k+1=>by
   rw[Wl,Wl,Ti,Ti]
   exact h.append (zUG h k)
theorem zLi (ha:PFr X a ga)(hb:PF X b fb):PFr X (.BinOp a .Mult b pos) (zM0 ga fb):=by
 refine PE.toR (zWW zLp ha hb) ?_
 rintro σ H Q ⟨G0,H0,G,ρ,d,good,hf,k⟩
 unfold zM0 at hf
 obtain⟨xs,h1,hf⟩:=Qq.mp hf
 obtain⟨n,h2,hf⟩:=Qq.mp hf
 cases n with
 | int m =>
   dsimp only at hf
   split at hf
   · rename_i hc
     cases hf
     simp only[Qx,Wc] at hc
     refine⟨G0,H0,G,ρ,_,good,h1,fun p vs H1 G1 s1 hn hp gp rs=>⟨G0,H0,G1,ρ,_,good.step s1,h2,fun q H2 G2 s2 r2=>?_⟩⟩
     have hne:H1 p≠none:=by rw[hp];exact fun z=>nomatch z
     refine⟨p,m,vs,rfl,zB.mp r2,s2.hh _ _ hp,by omega,by omega,?_,fun l hl=>?_⟩
     · rw[←rs.length]
       have:xs.length*m.toNat<=90*1000:=Nat.mul_le_mul hc.2 (by omega)
       exact Eu this (by decide)
     · have s3:=Step.own (o:=.lst (List.replicate m.toNat vs).flatten) s2.sub hl
       exact k l _ _ G2 ((s1.trans s2).trans s3) ((s1.trans s2).hh.free hl) zC (s2.sub.free hl) (zUG (rs.mono s2.gg) _)
   · cases hf
 | _=>cases hf
def bK (i:Nat):Tf:=fun ρ=>match ρ[i]? with | some (.ow ds)=>some (!ds.isEmpty) | _=>none
theorem zPK (hu:X.A.units < cLine):OpR X (compareOp .NotEq) (fun x y H Q=>∃l m xs,x = .ref l/\y = .ref m/\SqL X.K H l xs/\SqL X.K H m []/\Q (.bl (!xs.isEmpty)) H):=by
 intro pins s σ H x y v u Q I rx ry h
 obtain⟨l,m,xs,rfl,rfl,hl,hm,q⟩:=h
 cases rx
 cases ry
 obtain⟨its,w1,t1,_⟩:=I.list hl
 obtain⟨jts,w2,t2,_⟩:=I.list hm
 cases w2
 cases xs with
 | nil =>
   cases w1
   have R:=SeqAt.RcNeAt.lists (A:=X.A) (s:=s) (e:=fun _=>true) t1.isList t2.isList rfl hu (fun j h1=>absurd h1 (by simp))
   exact R X.prog X.w X.xe _ ⟨.bl false,H,I,rfl,q⟩
 | cons x r =>
   cases w1 with
   | cons r1 r2 =>
     have R:=Ou (A:=X.A) (s:=s) t1.isList t2.isList (by simp) hu
     exact R X.prog X.w X.xe _ ⟨.bl true,H,I,rfl,q⟩
theorem zPd {k:Nat}(i:Nat)(hr:Room k X.A){x:Str}{p1 p2:Pos}(hN:X.N[i]?=some x:=by rfl)(hv:Vis X.env.scope x:=by first | exact Or.inl rfl | exact Or.inr (Or.inl rfl) | exact Or.inr (Or.inr rfl))(hd:(x==("__debug__":Str))=false:=by decide)(hcd:(x==("__classdict__":Str))=false:=by decide) :
   PFT X (.Compare (.Name x p1) [.NotEq] [.List [] p2] pos) (bK i):=by
 refine PT.to (zZU (zPK hr.units0) (pK hN hv hd hcd) (zPI yE) (zZa _)) ?_
 rintro σ H Q ⟨G0,H0,G,ρ,b,good,hf,k⟩
 unfold bK at hf
 split at hf
 · rename_i ds hi
   cases hf
   obtain⟨q,vs,e1,e2,e3,e4,e5⟩:=good.addr hi
   refine⟨.ref q,e1,Tj _,fun z hz=>⟨q,z,vs,rfl,rfl,.of (by rw[yQ (yJ e2 hz)];exact e2),.of zC,_,rfl,?_⟩⟩
   have e:(!vs.isEmpty) = !ds.isEmpty:=by
     have hl:=e5.length
     cases vs with
     | nil=>cases ds with
       | nil=>rfl
       | cons _ _=>simp at hl
     | cons _ _=>cases ds with
       | nil=>simp at hl
       | cons _ _=>rfl
   rw[e]
   exact k _ G (Step.own good.sub hz)
 · cases hf
end
section
variable {l:Addr} {its:Array Value} {n:Nat} {dd:Option Addr} {sl:Array (Option Value)} {y:Value} {q:Nat->Bool} {top:Int} {j:Nat}
theorem zS0 (hj:j < its.size)(ht:(j:Int) < top)(hq:q j=true):∀(k i:Nat),j - i=k->i<=j->(∀m,i<=m->m < j->q m=false)->Meets (Builtin.«list.index.loop» ⟨[.ref l,y,rawInt i,rawInt top],[]⟩)
   (fun A R s=>s.heap.get? l=some { cls:=.type "list",dict:=dd,data:=.seq its n,slots:=sl }/\(∀m (h:m < its.size),SeqAt.EqAt A.in1 s its[m] y (q m))/\R (.ok (.ret (.int j s.toks))) { s with toks:=s.toks+1 })
 | 0,i,hk,hi,_=>by
   have e:i=j:=by omega
   subst e
   intro P w A R s hyp
   obtain⟨hp,g,d,tk,os⟩:=s
   obtain⟨at_,eqs,fin⟩:=hyp
   wp_walk using wpAny_loadPart' at_
   rw[show(if (i:Int) < top then its[((i:Nat):Int).toNat]? else none)=some its[i] by simp[ht,hj]]
   refine Qw (eqs i hj P w _ _ ?_)
   rw[hq]
   wp_walk
   exact fin
 | k+1,i,hk,hi,hno=>by
   intro P w A R s hyp
   obtain⟨hp,g,d,tk,os⟩:=s
   obtain⟨at_,eqs,fin⟩:=hyp
   have lt:i < its.size:=by omega
   have lt2:(i:Int) < top:=by omega
   wp_walk using wpAny_loadPart' at_
   rw[show(if (i:Int) < top then its[((i:Nat):Int).toNat]? else none)=some its[i] by simp[lt2,lt]]
   refine Qw (eqs i lt P w _ _ ?_)
   rw[hno i (Ql _) (by omega)]
   wp_walk
   rw[show((i:Int)+1)=((i+1:Nat):Int) by push_cast;rfl]
   exact⟨Ej Ts _,Ed Oa (by
     rw[Ew Ts _]
     exact zS0 hj ht hq k (i+1) (by omega) (by omega) (fun m h1 h2=>hno m (by omega) h2) P w A R _ ⟨at_,eqs,fin⟩)⟩
theorem zPO (hj:j < its.size)(hs:(j:Int) < 2^63 - 1)(hq:q j=true)(hno:∀m,m < j->q m=false):Meets (Builtin.«list.index» ⟨[.ref l,y],[]⟩)
   (fun A R s=>s.heap.get? l=some { cls:=.type "list",dict:=dd,data:=.seq its n,slots:=sl }/\(∀m (h:m < its.size),SeqAt.EqAt A.in1 s its[m] y (q m))/\R (.ok (.ret (.int j s.toks))) { s with toks:=s.toks+1 }):=by
 intro P w A R s hyp
 obtain⟨hp,g,d,tk,os⟩:=s
 obtain⟨at_,eqs,fin⟩:=hyp
 wp_walk using wpAny_loadPart' at_
 rw[show((fun i:Int=>if i < 0 then max 0 (i+(its.size:Int)) else i) ((none:Option Int).getD 0))=((0:Nat):Int) by simp,
   show((fun i:Int=>if i < 0 then max 0 (i+(its.size:Int)) else i) ((none:Option Int).getD (2^63 - 1)))=2^63 - 1 by simp]
 exact⟨Ej Ts _,Ed Oa (by
   rw[Ew Ts _]
   exact zS0 hj hs hq _ 0 rfl (Tj _) (fun m _ h2=>hno m h2) P w A R _ ⟨at_,eqs,fin⟩)⟩
end
section
variable {X:Cx} {a b c e tg elt iter:Expr} {es ifs:List Expr} {fa fb fc:Ef} {ga gb gi:Lf} {ta tc:Tf} {pos p:Pos} {st:Stmt}
end
end L2
namespace L2
open PySem PySem.Spec PyProof.Rows
section
variable {prog:Program} {w:World} {A:Around} {E:Value->Shared->Prop} {s:Shared}
theorem zRb {M:Model}{a:Addr}{Q:Option Obj->Shared->Prop}(h:Q (s.heap.get? a) s):wpAny M A (loadIfAlive a) Q E s :=
 fun Γ p _=>by show Sem.wp M Γ (.loadIfAlive a .pure) _ _ p s;rw[Sem.wp_loadIfAlive];exact h
abbrev zYg (h:Heap)(z TI TO T:Addr)(b:Bool):Prop:=h.get? z=some { cls:=.type "zip",dict:=none,data:=.fields #[rawInt T,.bool b,.bool false,.ref TI,.ref TO],slots:=#[] }
theorem zXm {z TI TO T:Addr}{b:Bool}{o:Obj}{Q:Bool->Shared->Prop}(hz:zYg s.heap z TI TO T b)(hT:s.heap.get? T=some o)(hQ:∀h',zYg h' z TI TO T true->(∀c u,c≠z->s.heap.get? c=some u->h'.get? c=some u)->h'.objs.size=s.heap.objs.size->Q false { s with heap:=h' }) :
   wpAny (model prog w) A (Builtin.SmallTypes.ownedTupleIsFree (.ref z)) Q E s:=by
 unfold Builtin.SmallTypes.ownedTupleIsFree
 refine Qw (Wn hz rfl (x:=rawInt T) rfl ?_)
 change wpAny _ _ (loadIfAlive (Int.toNat (T:Int)) >>= _) _ _ _
 refine Qw (zRb ?_)
 rw[Rt,hT]
 change wpAny _ _ (field (.ref z) 1 >>= _) _ _ _
 refine Qw (Wn hz rfl (x:=.bool b) rfl ?_)
 cases b with
 | false =>
   change wpAny _ _ (setField (.ref z) 1 (.bool true) >>= fun _=>pure false) _ _ _
   refine Qw (Rg hz (by simp) fun h' q1 q2=>Qi (hQ h' q1 (fun c u hc e=>q2.extBut _ _ hc e) q2.1))
 | true =>
   change wpAny _ _ (pure false) _ _ _
   exact Qi (hQ s.heap hz (fun _ _ _ e=>e) rfl)
theorem zRl {z TI TO i1 i2 l1 l2 T:Addr}{b:Bool}{o:Obj}{k:Nat}{xs ys:Array Value}{x y:Value}{Q:Value->Shared->Prop}(D:ZipApart z TI TO i1 i2 l1 l2)
   (hz:zYg s.heap z TI TO T b) (hT:s.heap.get? T=some o) (hTI:IsPair s.heap TI (.ref i1) (.ref i2))
   (h1:s.heap.IsListIter i1 l1 k) (h2:s.heap.IsListIter i2 l2 k) (hl1:s.heap.IsList l1 xs) (hl2:s.heap.IsList l2 ys) (hx:xs[k]?=some x) (hy:ys[k]?=some y)
   (hQ:∀h',zYg h' z TI TO T true->h'.IsListIter i1 l1 (k+1)->h'.IsListIter i2 l2 (k+1)->IsPair h' s.heap.objs.size x y ->
     (∀c o,c≠z->c≠i1->c≠i2->s.heap.get? c=some o->h'.get? c=some o)->Q (.ref s.heap.objs.size) { s with heap:=h' }) :
   wpAny (model prog w) A (Builtin.«zip.__next__» ⟨[.ref z],[]⟩) (fun fin s'=>∃v,fin = .done (.ret v)/\Q v s') E s:=by
 change wpAny _ _ (field (.ref z) 2 >>= _) _ _ _
 refine Qw (Wn hz rfl (x:=.bool false) rfl ?_)
 change wpAny _ _ (field (.ref z) 3 >>= _) _ _ _
 refine Qw (Wn hz rfl (x:=.ref TI) rfl (Qw (Ey hTI rfl ?_)))
 change wpAny _ _ (Builtin.SmallTypes.ownedTupleIsFree (.ref z) >>= _) _ _ _
 refine Qw (zXm hz hT fun g1 z1 k1 e1=>?_)
 simp only[Wp,Rf]
 refine Qw ?_
 simp only[←Yk,Yp,Ub]
 refine Qw (Qw (Ex ?_))
 change wpAny _ _ (Builtin.SmallTypes.nextOf (.ref i1) >>= _) _ _ _
 refine Qw (Uo (h1.at fun o e=>k1 _ o D.i1z e) (hl1.at fun o e=>k1 _ o D.l1z e) hx fun g2 u1 t2=>Qi (Qi (Qw (Qw (Ex ?_)))))
 change wpAny _ _ (Builtin.SmallTypes.nextOf (.ref i2) >>= _) _ _ _
 refine Qw (Uo ((h2.at fun o e=>k1 _ o D.i2z e).extBut t2.extBut D.i12.symm) ((hl2.at fun o e=>k1 _ o D.l2z e).extBut t2.extBut D.l2i1) hy fun g3 u2 t3=>Qi (Qi (Qi ?_)))
 have esz:g3.objs.size=s.heap.objs.size:=by rw[t3.1,t2.1,e1]
 refine Qw (wpAny_newTuple ?_ (by show 2<=sizeLine;exact Wj (wD (by decide))))
 refine Qi ⟨_,rfl,?_⟩
 have z3:zYg g3 z TI TO T true:=t3.extBut _ _ D.i2z.symm (t2.extBut _ _ D.i1z.symm z1)
 have w1:=u1.extBut t3.extBut D.i12
 change Q (.ref g3.objs.size) { s with heap:=g3.push { cls:=.type "tuple",data:=.seq #[x,y] } }
 have n3:IsPair (g3.push { cls:=.type "tuple",data:=.seq #[x,y] }) g3.objs.size x y:=Qa _ rfl
 rw[esz] at n3 ⊢
 exact hQ _ (Qr _ z3) (w1.at fun o e=>Qr _ e) (u2.at fun o e=>Qr _ e) n3
   fun c o c1 c2 c3 e=>Qr _ (t3.extBut _ _ c3 (t2.extBut _ _ c2 (k1 _ _ c1 e)))
theorem zOL {z TI TO i1 i2 l1 l2 T:Addr}{b:Bool}{o:Obj}{k:Nat}{xs ys:Array Value}{Q:Fin->Shared->Prop}(hh:A.handled=none)(D:ZipApart z TI TO i1 i2 l1 l2)
   (hz:zYg s.heap z TI TO T b) (hT:s.heap.get? T=some o) (hTI:IsPair s.heap TI (.ref i1) (.ref i2))
   (h1:s.heap.IsListIter i1 l1 k) (h2:s.heap.IsListIter i2 l2 k) (hl1:s.heap.IsList l1 xs) (hl2:s.heap.IsList l2 ys) (hend:xs[k]?=none∨ys[k]?=none)
   (hE:∀h' e,(∀c o,c≠z->c≠i1->c≠i2->s.heap.get? c=some o->h'.get? c=some o)->(∃o,h'.get? e=some o/\o.cls = .type "StopIteration")->E (.ref e) { s with heap:=h' }) :
   wpAny (model prog w) A (Builtin.«zip.__next__» ⟨[.ref z],[]⟩) Q E s:=by
 change wpAny _ _ (field (.ref z) 2 >>= _) _ _ _
 refine Qw (Wn hz rfl (x:=.bool false) rfl ?_)
 change wpAny _ _ (field (.ref z) 3 >>= _) _ _ _
 refine Qw (Wn hz rfl (x:=.ref TI) rfl (Qw (Ey hTI rfl ?_)))
 change wpAny _ _ (Builtin.SmallTypes.ownedTupleIsFree (.ref z) >>= _) _ _ _
 refine Qw (zXm hz hT fun g1 z1 k1 e1=>?_)
 simp only[Wp,Rf]
 refine Qw ?_
 simp only[←Yk,Yp,Ub]
 refine Qw (Qw (Ex ?_))
 change wpAny _ _ (Builtin.SmallTypes.nextOf (.ref i1) >>= _) _ _ _
 cases hx:xs[k]? with
 | none=>exact Qw (wpAny_nextOf_list_end hh (h1.at fun o e=>k1 _ o D.i1z e) (hl1.at fun o e=>k1 _ o D.l1z e) hx fun g2 e t2 he=>hE g2 e (fun c o c1 c2 _ q=>t2 _ _ c2 (k1 _ _ c1 q)) he)
 | some x =>
   have hy:ys[k]?=none:=by rcases hend with q | q;rw[hx] at q;cases q;exact q
   refine Qw (Uo (h1.at fun o e=>k1 _ o D.i1z e) (hl1.at fun o e=>k1 _ o D.l1z e) hx fun g2 u1 t2=>Qi (Qi (Qw (Qw (Ex ?_)))))
   change wpAny _ _ (Builtin.SmallTypes.nextOf (.ref i2) >>= _) _ _ _
   exact Qw (wpAny_nextOf_list_end hh ((h2.at fun o e=>k1 _ o D.i2z e).extBut t2.extBut D.i12.symm) ((hl2.at fun o e=>k1 _ o D.l2z e).extBut t2.extBut D.l2i1) hy fun g3 e t3 he=>hE g3 e (fun c o c1 c2 c3 q=>t3 _ _ c3 (t2.extBut _ _ c2 (k1 _ _ c1 q))) he)
theorem zYM {z TI TO i1 i2 l1 l2 T:Addr}{b:Bool}{o:Obj}{k:Nat}{xs ys:Array Value}{x y:Value}{Q:Option Value->Shared->Prop}(D:ZipApart z TI TO i1 i2 l1 l2)
   (hz:zYg s.heap z TI TO T b) (hT:s.heap.get? T=some o) (hTI:IsPair s.heap TI (.ref i1) (.ref i2))
   (h1:s.heap.IsListIter i1 l1 k) (h2:s.heap.IsListIter i2 l2 k) (hl1:s.heap.IsList l1 xs) (hl2:s.heap.IsList l2 ys) (hx:xs[k]?=some x) (hy:ys[k]?=some y)
   (hQ:∀h',zYg h' z TI TO T true->h'.IsListIter i1 l1 (k+1)->h'.IsListIter i2 l2 (k+1)->IsPair h' s.heap.objs.size x y ->
     (∀c o,c≠z->c≠i1->c≠i2->s.heap.get? c=some o->h'.get? c=some o)->Q (some (.ref s.heap.objs.size)) { s with heap:=h' }):wpAny (model prog w) A (pyNext (.ref z)) Q E s:=by
 have hT':s.TypeIs (.ref z) "zip":=⟨_,hz,rfl⟩
 unfold pyNext
 exact Qw (Iu (Rr (name:=Str.ofString "__next__") hT' F.slot_zip_next (Tg F.slot_zip_next hT' F.entry_zip_next (zRl D hz hT hTI h1 h2 hl1 hl2 hx hy fun h' a1 a2 a3 a4 a5=>Qi (hQ h' a1 a2 a3 a4 a5)) (F.args_zip_next_1 _))))
theorem zXP {z TI TO i1 i2 l1 l2 T:Addr}{b:Bool}{o:Obj}{k:Nat}{xs ys:Array Value}{Q:Option Value->Shared->Prop}(hh:A.handled=none)(D:ZipApart z TI TO i1 i2 l1 l2)
   (hz:zYg s.heap z TI TO T b) (hT:s.heap.get? T=some o) (hTI:IsPair s.heap TI (.ref i1) (.ref i2))
   (h1:s.heap.IsListIter i1 l1 k) (h2:s.heap.IsListIter i2 l2 k) (hl1:s.heap.IsList l1 xs) (hl2:s.heap.IsList l2 ys) (hend:xs[k]?=none∨ys[k]?=none)
   (hQ:∀h',(∀c o,c≠z->c≠i1->c≠i2->s.heap.get? c=some o->h'.get? c=some o)->Q none { s with heap:=h' }):wpAny (model prog w) A (pyNext (.ref z)) Q E s:=by
 have hT':s.TypeIs (.ref z) "zip":=⟨_,hz,rfl⟩
 unfold pyNext
 refine Qw (Iu (Rr (name:=Str.ofString "__next__") hT' F.slot_zip_next (Tg F.slot_zip_next hT' F.entry_zip_next (zOL hh D hz hT hTI h1 h2 hl1 hl2 hend fun h' e hk he=>?_) (F.args_zip_next_1 _))))
 obtain⟨o,q1,q2⟩:=he
 exact Qw (Uy (T:="StopIteration") (b:=true) ⟨o,q1,q2⟩ isSubtype_stop (Qi (hQ _ hk)))
end
def ZSt (h:Heap)(n a b S:Addr)(i:Nat):Prop :=
 ((IsZip h (n+4) (n+2) (n+3) .none/\∃p q,IsPair h (n+3) p q)∨∃T f o,zYg h (n+4) (n+2) (n+3) T f/\T∉[n+4,n+2,n+3,n,n+1]/\T≠S/\h.get? T=some o)/\IsPair h (n+2) (.ref n) (.ref (n+1))/\h.IsListIter n a i/\h.IsListIter (n+1) b i
theorem ZSt.keep {h h':Heap}{n a b S:Addr}{i:Nat}(z:ZSt h n a b S i)(k:∀c u,c≠S->h.get? c=some u->h'.get? c=some u)(hS:S∉[n+4,n+2,n+3,n,n+1])(hS3:(n+3)≠S):ZSt h' n a b S i:=by
 have ne:∀c∈[n+4,n+2,n+3,n,n+1],c≠S:=fun c hc z=>hS (z ▸ hc)
 obtain⟨z1,z2,z3,z4⟩:=z
 refine⟨?_,k _ _ (ne _ (by simp)) z2,z3.at fun o e=>k _ o (ne _ (by simp)) e,z4.at fun o e=>k _ o (ne _ (by simp)) e⟩
 rcases z1 with⟨q1,p,q,q2⟩ | ⟨T,f,o,q1,q2,q3,q4⟩
 · exact .inl ⟨k _ _ (ne _ (by simp)) q1,p,q,k _ _ hS3 q2⟩
 · exact .inr ⟨T,f,o,k _ _ (ne _ (by simp)) q1,q2,q3,k _ _ q3 q4⟩
theorem zOR {X:Cx}{pins:List (Addr×Obj)}{σ:St}{H:Hp}{s:Shared}(I:Inv X pins σ H s){c d:Addr}{v:List V}(hf:mQ X pins H c)(hd:SqL X.K H d v):d≠c:=fun z=>by
 have e:=hf.1
 rcases hd with(hd | ⟨ob,hd⟩) | hd
 · rw[z,e] at hd;cases hd
 · rw[z,e] at hd;cases hd
 · obtain⟨ob,_,_,hk,_⟩:=hd
   have e3:=I.ok.mod.kin d ob hk
   obtain⟨_,q1,_,q3,_⟩:=hf
   rcases q3 with q3 | q3
   · exact I.ok.noex d ob e3 (z ▸ q3)
   · exact absurd (We (Qy (I.ok.bs d ob e3).1) (z ▸ q3)) (Wt _)
theorem zPQ {X:Cx}{pins:List (Addr×Obj)}{σ:St}{A:Around}(hh:A.handled=none){n a b S:Addr}{G0 H0:Hp}{ds es:List D}{us ws:List V}{res:Value}{R:Result->Shared->Prop}
   (ha:SqL X.K G0 a us) (ra:Reps X.K G0 ds us) (hb:SqL X.K G0 b ws) (rb:Reps X.K G0 es ws) (hS:S∉[n+4,n+2,n+3,n,n+1]) (hlen:(sE ds es).length<=1000) :
   ∀(k i:Nat) (s:Shared) (H G:Hp) (acc:Array Value) (c:Nat) (vs:List V),Inv X pins σ H s->(∀d∈S::[n+4,n+2,n+3,n,n+1],mQ X pins H d)->Step G0 H0 G H->Reps X.K G ((sE ds es).take i) vs->ZSt s.heap n a b S i ->
     s.heap.get? S=some { cls:=.type "list",dict:=none,data:=.seq acc c,slots:=#[] }->Vals vs acc.toList->i+k=(sE ds es).length ->
     (∀s' H' G' acc' c' vs',Inv X pins σ H' s'->Step G0 H0 G' H'->Reps X.K G' (sE ds es) vs'->Vals vs' acc'.toList->s'.heap.get? S=some { cls:=.type "list",dict:=none,data:=.seq acc' c',slots:=#[] }->R (.ok (.ret res)) s') ->
     codeAny (model X.prog X.w) A (.builtin "list.extend.loop" ⟨[.ref S,.ref (n+4),res],[]⟩) R s:=by
 intro k
 have neS:∀c∈[n+4,n+2,n+3,n,n+1],c≠S:=fun c hc z=>hS (z ▸ hc)
 induction k with
 | zero =>
   intro i s H G acc c vs I hf st rv z hs hv hi hR
   refine Ed F.entry_extend_loop ?_
   rw[Ew F.plain_extend_loop _]
   show wpAny _ A.in1 (pyNext (.ref (n+4)) >>= _) _ _ s
   have hqa:=st.sub.seq (st.gg.seq ha)
   have hqb:=st.sub.seq (st.gg.seq hb)
   obtain⟨its,rva,pa,_⟩:=I.list hqa
   obtain⟨jts,rvb,pb,_⟩:=I.list hqb
   have hl:=zYX ds es
   have la:=ra.length
   have lb:=rb.length
   have lva:=rva.length
   have lvb:=rvb.length
   have hend:its.toArray[i]?=none∨jts.toArray[i]?=none:=by
     rcases Nat.lt_or_ge i its.length with q | q
     · exact .inr (by simp;omega)
     · exact .inl (by simp;omega)
   have ap:∀c∈[n+4,n+2,n+3,n,n+1],∀v d,SqL X.K H d v->d≠c:=fun c hc v d q=>zOR I (hf c (Qd _ hc)) q
   have D:ZipApart (n+4) (n+2) (n+3) n (n+1) a b:=⟨zne 2 4 (by decide),zne 3 4 (by decide),zne 0 4 (by decide),zne 1 4 (by decide),zne 2 3 (by decide),zne 2 0 (by decide),zne 2 1 (by decide),zne 3 0 (by decide),zne 3 1 (by decide),zne 0 1 (by decide),ap _ (by simp) us a hqa,ap _ (by simp) us a hqa,ap _ (by simp) us a hqa,ap _ (by simp) us a hqa,ap _ (by simp) ws b hqb,ap _ (by simp) ws b hqb,ap _ (by simp) ws b hqb,ap _ (by simp) ws b hqb⟩
   have fin:∀h':Heap,(∀c o,c∉[n+4,n+2,n+3,n,n+1]->s.heap.get? c=some o->h'.get? c=some o)->R (.ok (.ret res)) { s with heap:=h' }:=fun h' kk=>by
     have I2:Inv X pins σ H { s with heap:=h' }:=I.turnedL (t':=s.toks) kk fun d hd=>hf d (Qd _ hd)
     rw[show(sE ds es).take i=sE ds es from List.take_of_length_le (by omega)] at rv
     exact hR _ H G acc c vs I2 st rv hv (kk _ _ hS hs)
   obtain⟨z1,z2,z3,z4⟩:=z
   refine Qw ?_
   rcases z1 with⟨q1,p,q,q2⟩ | ⟨T,f,o,q1,q2,q3,q4⟩
   · exact wpAny_pyNext_zip_end hh D q1 z2 q2 z3 z4 pa.isList pb.isList hend fun h' hk=>Qi (fin h' fun c o hc e=>hk c o (fun z=>hc (by simp[z])) (fun z=>hc (by simp[z])) (fun z=>hc (by simp[z])) (fun z=>hc (by simp[z])) e)
   · exact zXP hh D q1 q4 z2 z3 z4 pa.isList pb.isList hend fun h' hk=>Qi (fin h' fun c o hc e=>hk c o (fun z=>hc (by simp[z])) (fun z=>hc (by simp[z])) (fun z=>hc (by simp[z])) e)
 | succ k ih =>
   intro i s H G acc c vs I hf st rv z hs hv hi hR
   refine Ed F.entry_extend_loop ?_
   rw[Ew F.plain_extend_loop _]
   show wpAny _ A.in1 (pyNext (.ref (n+4)) >>= _) _ _ s
   have hqa:=st.sub.seq (st.gg.seq ha)
   have hqb:=st.sub.seq (st.gg.seq hb)
   obtain⟨its,rva,pa,_⟩:=I.list hqa
   obtain⟨jts,rvb,pb,_⟩:=I.list hqb
   have ap:∀c∈[n+4,n+2,n+3,n,n+1],∀v d,SqL X.K H d v->d≠c:=fun c hc v d q=>zOR I (hf c (Qd _ hc)) q
   have D:ZipApart (n+4) (n+2) (n+3) n (n+1) a b:=⟨zne 2 4 (by decide),zne 3 4 (by decide),zne 0 4 (by decide),zne 1 4 (by decide),zne 2 3 (by decide),zne 2 0 (by decide),zne 2 1 (by decide),zne 3 0 (by decide),zne 3 1 (by decide),zne 0 1 (by decide),ap _ (by simp) us a hqa,ap _ (by simp) us a hqa,ap _ (by simp) us a hqa,ap _ (by simp) us a hqa,ap _ (by simp) ws b hqb,ap _ (by simp) ws b hqb,ap _ (by simp) ws b hqb,ap _ (by simp) ws b hqb⟩
   have hlt:i < (sE ds es).length:=by omega
   obtain⟨x,y,e1,e2,e3⟩:=zYE (Qu hlt)
   obtain⟨v,f1,r1⟩:=ra.get e1
   obtain⟨u,f2,r2⟩:=rb.get e2
   obtain⟨v',g1,q1⟩:=rva.get f1
   obtain⟨u',g2,q2⟩:=rvb.get f2
   have lac:acc.size=i:=by
     have h1:=hv.length;have h2:=rv.length;rw[Ib] at h2;have h3:acc.toList.length=acc.size:=Rc;omega
   have fin:∀h':Heap,IsPair h' s.heap.objs.size v' u'->ZSt h' n a b S (i+1)->(∀c o,c∉[n+4,n+2,n+3,n,n+1]->s.heap.get? c=some o->h'.get? c=some o)->∀c',(h'.update S (Obj.mapSeq (·.push (.ref s.heap.objs.size)))).get? S=some { cls:=.type "list",dict:=none,data:=.seq (acc.push (.ref s.heap.objs.size)) c',slots:=#[] } ->
       codeAny (model X.prog X.w) A (.builtin "list.extend.loop" ⟨[.ref S,.ref (n+4),res],[]⟩) R { s with heap:=h'.update S (Obj.mapSeq (·.push (.ref s.heap.objs.size))) }:=fun h' p zz kk c' eS=>by
     have I1:Inv X pins σ (upd H s.heap.objs.size (.tup [v,u])) { s with heap:=h' }:=I.turnedNew (t':=s.toks) kk (fun d hd=>hf d (Qd _ hd)) (Ql _) ⟨by show 2<=sizeLine;exact Wj (wD (by decide)),[v',u'],.cons q1 (.cons q2 .nil),⟨_,p,rfl,_,rfl⟩⟩
     have lt:∀d∈S::[n+4,n+2,n+3,n,n+1],d < s.heap.objs.size:=fun d hd=>by
       obtain⟨z1,z2,⟨o3,z3,_⟩,⟨o4,z4,_⟩⟩:=z
       simp only[Qj,Ws,Rj] at hd
       rcases hd with q | q | q | q | q | q
       · rw[q];exact Qy hs
       · rw[q]
         rcases z1 with⟨q1,_⟩ | ⟨T,f,o,q1,_⟩
         · exact Qy q1
         · exact Qy q1
       · rw[q];exact Qy z2
       · rw[q];exact Nat.lt_of_succ_lt (show n+4 < _ from by
           rcases z1 with⟨q1,_⟩ | ⟨T,f,o,q1,_⟩
           · exact Qy q1
           · exact Qy q1)
       · rw[q];exact Qy z3
       · rw[q];exact Qy z4
     have hf1:∀d∈S::[n+4,n+2,n+3,n,n+1],mQ X pins (upd H s.heap.objs.size (.tup [v,u])) d:=fun d hd=>⟨by rw[yQ (Wu (lt d hd))];exact(hf d hd).1,(hf d hd).2⟩
     have oth:∀c o,c≠S->h'.get? c=some o->(h'.update S (Obj.mapSeq (·.push (.ref s.heap.objs.size)))).get? c=some o:=fun c o hc e=>(Wz _ _ (Ne.symm hc)).trans e
     have I2:Inv X pins σ (upd H s.heap.objs.size (.tup [v,u])) { s with heap:=h'.update S (Obj.mapSeq (·.push (.ref s.heap.objs.size))) }:=Inv.turnedL (s:={ s with heap:=h' }) (h':=h'.update S (Obj.mapSeq (·.push (.ref s.heap.objs.size)))) (t':=s.toks) (fp:=[S]) I1 (fun c o hc e=>oth c o (fun z=>hc (by simp[z])) e) fun d hd=>hf1 d (by
       rw[Wf] at hd;rw[hd];exact Qf)
     have st1:=Step.laid (o:=.tup [v,u]) st.sub I.fresh
     have st2:=st.trans st1
     have r3:Rep X.K (upd G s.heap.objs.size (.tup [v,u])) (.tup [x,y]) (.ref s.heap.objs.size):=xI.mpr ⟨_,_,rfl,.of zC,z9.mpr ⟨_,_,rfl,r1.mono st2.gg,z9.mpr ⟨_,_,rfl,r2.mono st2.gg,yR.mpr rfl⟩⟩⟩
     have r4:Reps X.K (upd G s.heap.objs.size (.tup [v,u])) ((sE ds es).take (i+1)) (vs++[.ref s.heap.objs.size]):=by
       rw[List.take_succ_eq_append_getElem hlt,e3]
       exact(rv.mono st1.gg).snoc r3
     exact ih (i+1) _ _ _ _ _ _ I2 hf1 st2 r4 (zz.keep oth hS (neS _ (by simp))) eS (by rw[Array.toList_push];exact hv.snoc rfl) (by omega) hR
   have lsz:acc.size<=1000:=by omega
   have hsl:1001<=sizeLine:=Wj (wD (by decide))
   obtain⟨z1,z2,z3,z4⟩:=z
   refine Qw ?_
   have nT:∀d∈S::[n+4,n+2,n+3,n,n+1],∀u,s.heap.get? d=some u->d≠s.heap.objs.size:=fun d _ u e=>Wu (Qy e)
   rcases z1 with⟨q1,p,q,q2⟩ | ⟨T,f,o,q1,q2,q3,q4⟩
   · refine wpAny_pyNext_zip_item D q1 z2 q2 z3 z4 pa.isList pb.isList (by simpa using g1) (by simpa using g2) fun h' a1 a2 a3 a4 a5 a6 hk=>?_
     have kk:∀c o,c∉[n+4,n+2,n+3,n,n+1]->s.heap.get? c=some o->h'.get? c=some o:=fun c o hc e=>hk c o (fun z=>hc (by simp[z])) (fun z=>hc (by simp[z])) (fun z=>hc (by simp[z])) (fun z=>hc (by simp[z])) e
     have hS':=kk _ _ hS hs
     have zz:ZSt h' n a b S (i+1):=by
       refine⟨.inr ⟨s.heap.objs.size,false,_,a1,fun hm=>?_,fun z=>?_,a5⟩,hk _ _ D.TIz D.TITO D.TIi1 D.TIi2 z2,a3,a4⟩
       · obtain⟨o3,e3,_⟩:=z3
         obtain⟨o4,e4,_⟩:=z4
         simp only[Qj,Ws,Rj] at hm
         rcases hm with z | z | z | z | z
         · exact absurd (z ▸ Qy q1) (Wt _)
         · exact absurd (z ▸ Qy z2) (Wt _)
         · exact absurd (z ▸ Qy q2) (Wt _)
         · exact absurd (z ▸ Qy e3) (Wt _)
         · exact absurd (z ▸ Qy e4) (Wt _)
       · exact absurd (z ▸ Qy hs) (Wt _)
     show wpAny _ A.in1 (updateSeq S (·.push (.ref s.heap.objs.size)) >>= _) _ _ _
     refine Qw (Rl hS' rfl (Qi ⟨Ej F.plain_extend_loop _,fin h' a5 zz kk _ (Wk _ hS' rfl)⟩) ?_ ?_)
     · show acc.size<=sizeLine;omega
     · show(acc.push _).size<=sizeLine+1;rw[Array.size_push];omega
   · refine zYM D q1 q4 z2 z3 z4 pa.isList pb.isList (by simpa using g1) (by simpa using g2) fun h' a1 a2 a3 a4 hk=>?_
     have kk:∀c o,c∉[n+4,n+2,n+3,n,n+1]->s.heap.get? c=some o->h'.get? c=some o:=fun c o hc e=>hk c o (fun z=>hc (by simp[z])) (fun z=>hc (by simp[z])) (fun z=>hc (by simp[z])) e
     have hS':=kk _ _ hS hs
     have zz:ZSt h' n a b S (i+1):=⟨.inr ⟨T,true,_,a1,q2,q3,kk _ _ q2 q4⟩,hk _ _ D.TIz D.TIi1 D.TIi2 z2,a2,a3⟩
     show wpAny _ A.in1 (updateSeq S (·.push (.ref s.heap.objs.size)) >>= _) _ _ _
     refine Qw (Rl hS' rfl (Qi ⟨Ej F.plain_extend_loop _,fin h' a4 zz kk _ (Wk _ hS' rfl)⟩) ?_ ?_)
     · show acc.size<=sizeLine;omega
     · show(acc.push _).size<=sizeLine+1;rw[Array.size_push];omega
theorem zTs:typeLookup (.type "zip") "__len__"=pure none:=by rw[Uf,Yr];kernel_rfl
theorem zUs:typeLookup (.type "zip") "__length_hint__"=pure none:=by rw[Uf,Yr];kernel_rfl
theorem zUw {X:Cx}{pins:List (Addr×Obj)}{σ:St}{A:Around}{E:Value->Shared->Prop}{s:Shared}{Q:List Value->Shared->Prop}(hh:A.handled=none){n a b:Addr}{G0 H0:Hp}{ds es:List D}{us ws:List V}
   (ha:SqL X.K G0 a us) (ra:Reps X.K G0 ds us) (hb:SqL X.K G0 b ws) (rb:Reps X.K G0 es ws) (hlen:(sE ds es).length<=1000) (I:Inv X pins σ H0 s) (hs:Same G0 H0) (hf:∀d∈[n+4,n+2,n+3,n,n+1],mQ X pins H0 d)
   (z1:IsZip s.heap (n+4) (n+2) (n+3) .none) (z2:IsPair s.heap (n+2) (.ref n) (.ref (n+1))) (z3:IsPair s.heap (n+3) .none .none) (z4:s.heap.IsListIter n a 0) (z5:s.heap.IsListIter (n+1) b 0)
   (hQ:∀(s':Shared) (H' G':Hp) (acc:Array Value) (vs:List V),Inv X pins σ H' s'->Step G0 H0 G' H'->Reps X.K G' (sE ds es) vs->Vals vs acc.toList->Q acc.toList s'):wpAny (model X.prog X.w) A (collect (.ref (n+4))) Q E s:=by
 have lt:∀d∈[n+4,n+2,n+3,n,n+1],d < s.heap.objs.size:=fun d hd=>by
   obtain⟨o4,e4,_⟩:=z4
   obtain⟨o5,e5,_⟩:=z5
   simp only[Qj,Ws,Rj] at hd
   rcases hd with q | q | q | q | q
   · rw[q];exact Qy z1
   · rw[q];exact Qy z2
   · rw[q];exact Qy z3
   · rw[q];exact Qy e4
   · rw[q];exact Qy e5
 have hS:s.heap.objs.size∉[n+4,n+2,n+3,n,n+1]:=fun hm=>Wt _ (lt _ hm)
 have hSI:s.heap.objs.size≠n+4:=fun e=>hS (by rw[e];simp)
 have hT:∀h':Heap,IsZip h' (n+4) (n+2) (n+3) .none->Shared.TypeIs { s with heap:=h' } (.ref (n+4)) "zip":=fun h' q=>⟨_,q,rfl⟩
 unfold collect
 refine Qw (wpAny_runValue (Ed F.entry_proto_collect ?_))
 rw[Ew F.plain_proto_collect _]
 show wpAny _ A.in1 (newList [] >>= fun l=>again (.builtin "list.__iadd__" ⟨[l,.ref (n+4)],[]⟩)) _ _ s
 refine Qw (Ry ?_)
 refine Qi ⟨Ej F.plain_list_iadd _,Ed F.entry_list_iadd ?_⟩
 rw[Ew F.plain_list_iadd _]
 show wpAny _ A.in1 (Builtin.List.listExtendWith (.ref s.heap.objs.size) (.ref (n+4)) (.ref s.heap.objs.size)) _ _ _
 have y1:IsZip (s.heap.push { cls:=.type "list",data:=.seq ([]:List Value).toArray }) (n+4) (n+2) (n+3) .none:=Qr _ z1
 unfold Builtin.List.listExtendWith
 refine Qw (Ik (hT _ y1) ?_)
 have h1:Builtin.List.listSameRef (.ref s.heap.objs.size) (.ref (n+4))=false:=by simp[Builtin.List.listSameRef,hSI]
 have h2:(Value.type "zip"==Value.type "list")=false:=by decide
 have h3:(Value.type "zip"==Value.type "tuple")=false:=by decide
 simp only[h1,h2,h3,Bool.or_false,Wp,Rf]
 refine Qw (Im y1 ?_)
 refine Qw (Ex ?_)
 unfold Builtin.List.listLengthHint
 refine Qw (Ys (hT _ y1) zTs ?_)
 show wpAny _ A.in1 (specialOf (Value.ref (n+4)) (Str.ofString "__length_hint__") >>= _) _ _ _
 refine Qw (Ys (hT _ y1) zUs ?_)
 refine Qi ?_
 show wpAny _ A.in1 (rule "list.extend.makes-room" >>= fun _=>Builtin.List.listTouch (.ref s.heap.objs.size) >>= fun _ =>
   again (.builtin "list.extend.loop" ⟨[.ref s.heap.objs.size,.ref (n+4),.ref s.heap.objs.size],[]⟩)) _ _ _
 refine Qw (Ih ?_)
 have hS₁:(s.heap.push { cls:=.type "list",data:=.seq ([]:List Value).toArray }).get? s.heap.objs.size=some { cls:=.type "list",data:=.seq ([]:List Value).toArray }:=Qa _ rfl
 refine Qw ?_
 show wpAny _ A.in1 (updateSeq s.heap.objs.size (·.push .none) >>= fun _=>updateSeq s.heap.objs.size (·.pop)) _ _ _
 refine Qw (Rl hS₁ rfl ?_)
 have hS₂:=Wk (Obj.mapSeq (·.push Value.none)) hS₁ rfl
 refine Rl hS₂ rfl ?_
 have hS₃ := Wk (Obj.mapSeq (·.pop)) hS₂ rfl
 have oth:∀b o,b≠s.heap.objs.size->s.heap.get? b=some o ->
     (((s.heap.push { cls:=.type "list",data:=.seq ([]:List Value).toArray }).update s.heap.objs.size (Obj.mapSeq (·.push Value.none))).update s.heap.objs.size (Obj.mapSeq (·.pop))).get? b=some o :=
   fun b o hb e=>(Wz _ _ (Ne.symm hb)).trans ((Wz _ _ (Ne.symm hb)).trans (Qr _ e))
 have oth':∀b o,s.heap.get? b=some o->_:=fun b o e=>oth b o (Wu (Qy e)) e
 have I3:Inv X pins σ H0 { s with heap:=((s.heap.push { cls:=.type "list",data:=.seq ([]:List Value).toArray }).update s.heap.objs.size (Obj.mapSeq (·.push Value.none))).update s.heap.objs.size (Obj.mapSeq (·.pop)) }:=I.kept (t':=s.toks) oth'
 refine Qi ⟨Ej F.plain_extend_loop _,zPQ (S:=s.heap.objs.size) (A:=A) hh ha ra hb rb hS hlen _ 0 _ H0 G0 _ _ [] I3 (fun d hd=>?_) (Step.refl hs) (yR.mpr rfl) ⟨.inl ⟨oth' _ _ z1,_,_,oth' _ _ z3⟩,oth' _ _ z2,z4.at fun o e=>oth' _ o e,z5.at fun o e=>oth' _ o e⟩ hS₃ .nil (Il _) fun s' H' G' acc' c' vs' J st rv hv hg=>?_⟩
 · rcases Qj.mp hd with q | q
   · rw[q];exact I.fpOk (Ql _) (I.hok.fresh (Ql _))
   · exact hf d q
 · show wpAny _ A (load s.heap.objs.size >>= _) _ _ s'
   refine Qw (wpAny_load hg ?_)
   exact Qi (hQ s' H' G' acc' vs' J st rv hv)
open AutoSeq1 (wpAny_loadPart') in
theorem zVr {X:Cx}{pins:List (Addr×Obj)}{σ:St}{A:Around}{E:Value->Shared->Prop}{s:Shared}{Q:Value->Shared->Prop}(hh:A.handled=none){n a b:Addr}{G0 H0:Hp}{ds es:List D}{us ws:List V}
   (ha:SqL X.K G0 a us) (ra:Reps X.K G0 ds us) (hb:SqL X.K G0 b ws) (rb:Reps X.K G0 es ws) (hlen:(sE ds es).length<=1000) (I:Inv X pins σ H0 s) (hs:Same G0 H0) (hf:∀d∈[n+4,n+2,n+3,n,n+1],mQ X pins H0 d)
   (z1:IsZip s.heap (n+4) (n+2) (n+3) .none) (z2:IsPair s.heap (n+2) (.ref n) (.ref (n+1))) (z3:IsPair s.heap (n+3) .none .none) (z4:s.heap.IsListIter n a 0) (z5:s.heap.IsListIter (n+1) b 0)
   (hQ:∀(s':Shared) (H' G':Hp) (acc:Array Value) (vs:List V),Inv X pins σ H' s'->Step G0 H0 G' H'->Reps X.K G' (sE ds es) vs->Vals vs acc.toList->Q (.ref s'.heap.objs.size) { s' with heap:=s'.heap.push { cls:=.type "tuple",data:=.seq acc } }) :
   codeAny (model X.prog X.w) A (.call (.builtin "tuple.__new__") ⟨[.type "tuple",.ref (n+4)],[]⟩) (wants Q E) s:=by
 refine codeAny_of_tree ?_
 show wpAny _ A.in1 (do checkBuiltinCall "tuple.__new__" ⟨[.type "tuple",.ref (n+4)],[]⟩;again (.builtin "tuple.__new__" ⟨[.type "tuple",.ref (n+4)],[]⟩)) _ _ s
 refine Qw (Ot (F.newCall_tuple_1 _) (Qi ⟨Ej F.plain_tuple_new _,Ed F.entry_tuple_new ?_⟩))
 rw[Ew F.plain_tuple_new _]
 have hsub:=sub_tuple_self
 have hinit:=init_tuple_lookup
 have hmh:=madeHere_tuple
 have hTI:s.TypeIs (.ref (n+4)) "zip":=⟨_,z1,rfl⟩
 have hh1:A.in1.handled=none:=by simp[hh]
 wp_walk using Ik hTI,zUw (A:=A.in1) hh1 ha ra hb rb hlen I hs hf z1 z2 z3 z4 z5
 intro s' H' G' acc vs J st rv hv
 show wpAny _ _ (Builtin.Tuple.tupleExact acc.toList.toArray >>= fun v=>ret v) _ _ _
 unfold Builtin.Tuple.tupleExact
 have hsl:1001<=sizeLine:=Wj (wD (by decide))
 have h1:=hv.length
 have h2:=rv.length
 have h3:acc.toList.length=acc.size:=Rc
 refine Qw (Ry ?_ (by show acc.toList.toArray.size<=sizeLine;simp only[Array.toArray_toList];omega))
 refine Qi ?_
 have e:acc.toList.toArray=acc:=by simp
 rw[e]
 exact hQ s' H' G' acc vs J st rv hv
theorem zUt {X:Cx}{pins:List (Addr×Obj)}{σ:St}{A:Around}{E:Value->Shared->Prop}{s:Shared}{Q:Value->Shared->Prop}(hh:A.handled=none){n a b:Addr}{G0 H0:Hp}{ds es:List D}{us ws:List V}
   (ha:SqL X.K G0 a us) (ra:Reps X.K G0 ds us) (hb:SqL X.K G0 b ws) (rb:Reps X.K G0 es ws) (hlen:(sE ds es).length<=1000) (I:Inv X pins σ H0 s) (hs:Same G0 H0) (hf:∀d∈[n+4,n+2,n+3,n,n+1],mQ X pins H0 d)
   (z1:IsZip s.heap (n+4) (n+2) (n+3) .none) (z2:IsPair s.heap (n+2) (.ref n) (.ref (n+1))) (z3:IsPair s.heap (n+3) .none .none) (z4:s.heap.IsListIter n a 0) (z5:s.heap.IsListIter (n+1) b 0)
   (hQ:∀(s':Shared) (H' G':Hp) (acc:Array Value) (vs:List V),Inv X pins σ H' s'->Step G0 H0 G' H'->Reps X.K G' (sE ds es) vs->Vals vs acc.toList->Q (.ref s'.heap.objs.size) { s' with heap:=s'.heap.push { cls:=.type "tuple",data:=.seq acc } }) :
   wpAny (model X.prog X.w) A (call (.type "tuple") [.ref (n+4)]) Q E s:=by
 refine callType_codes (Q₁:=fun obj s₁=>s₁.TypeIs obj "tuple"/\Q obj s₁) F.called_tuple (F.typeCall_tuple_1 _) F.entry_object_init
   (zVr (by simp[hh]) ha ra hb rb hlen I hs hf z1 z2 z3 z4 z5 fun s' H' G' acc vs J st rv hv=>⟨⟨_,Qa _ rfl,rfl⟩,hQ s' H' G' acc vs J st rv hv⟩) fun obj s₁ h₁=>?_
 exact⟨h₁.1,F.args_object_init_2 obj _,object_init_meets F.called_tuple.init.lookup F.called_tuple.made (by decide) X.prog X.w A.in1 _ s₁ ⟨h₁.1,rfl,h₁.2⟩⟩
section
variable {X:Cx} {a b c e tg elt iter:Expr} {es ifs:List Expr} {fa fb fc:Ef} {ga gb gi:Lf} {ta tc:Tf} {pos p p2:Pos} {st:Stmt}
def zWw (f g:Ef):Ef:=fun ρ=>(f ρ).bind fun x=>(g ρ).bind fun y=>match x,y with | .lst xs,.lst ys=>if (sE xs ys).length<=1000 then some (.tup (sE xs ys)) else none | _,_=>none
theorem zRw {pos':Pos}(hc:X.calm=true)(hg:Gl X "tuple")(hm:X.mg "tuple"=none)(hg':Gl X "zip")(hm':X.mg "zip"=none)(ha:PF X a fa)(hb:PF X b fb)(hs:starEach [a,b] X.env=[(false,eval a X.env),(false,eval b X.env)]:=by rfl)(hs2:starEach [b] X.env=[(false,eval b X.env)]:=by rfl)
   (hs3:starEach [Expr.Call (.Name "zip" p2) [a,b] [] pos'] X.env=[(false,eval (.Call (.Name "zip" p2) [a,b] [] pos') X.env)]:=by rfl) :
   PF X (.Call (.Name "tuple" p) [.Call (.Name "zip" p2) [a,b] [] pos'] [] pos) (zWw fa fb):=by
 intro pins s σ H Q I q
 obtain⟨G0,H0,G,ρ,d,good,hf,kk⟩:=q
 unfold zWw at hf
 obtain⟨x,h1,hf⟩:=Qq.mp hf
 obtain⟨y,h2,hf⟩:=Qq.mp hf
 cases x with
 | lst xs =>
   cases y with
   | lst ys =>
     dsimp only at hf
     split at hf
     · rename_i hz
       cases hf
       have hA:=yV ha (yV hb yE (by rw[hs2];rfl)) (by rw[hs,hs2]) pos' pins s σ H (fun vs H'=>∃a b us ws G',vs=[.ref a,.ref b]/\Step G H G' H'/\SqL X.K G' a us/\Reps X.K G' xs us/\SqL X.K G' b ws/\Reps X.K G' ys ws) I
         ⟨G0,H0,G,ρ,_,good,h1,fun v H1 G1 s1 r1=>⟨G0,H0,G1,ρ,_,good.step s1,h2,fun u H2 G2 s2 r2=>by
           obtain⟨a,us,rfl,q1,q2⟩:=xH.mp (r1.mono s2.gg)
           obtain⟨b,ws,rfl,q3,q4⟩:=xH.mp r2
           exact⟨a,b,us,ws,G2,rfl,s1.trans s2,q1,q2,q3,q4⟩⟩⟩
       refine Call_ (oO I hg hm (by rfl) (Et (rest:=[]) ?_ (by rw[hs3];rfl) (by rfl)))
       rw[hs3]
       refine Ir (Call_ (oO I hg' hm' (by rfl) (Et (thn hA fun us s1 ⟨vs,H1,I1,r1,l1,l2,ws,zs,G1,e1,st1,q1,q2,q3,q4⟩=>?_) (by rw[hs,hs2]) (by rw[hs2];rfl))))
       subst e1
       obtain⟨u,u',rfl,ru,ru'⟩:=zSJ r1
       cases ru
       cases ru'
       obtain⟨its,rv,p1,_⟩:=I1.list (st1.sub.seq q1)
       obtain⟨jts,rv',p2,_⟩:=I1.list (st1.sub.seq q3)
       refine call_zip_2 p1.isList p2.isList fun h' z1 z2 z3 z4 z5 _ hk=>?_
       have I2:Inv X pins σ H1 { s1 with heap:=h' }:=I1.kept (t':=s1.toks) hk
       refine Ig ?_
       refine zUt (I.ok.hd hc) q1 q2 q3 q4 hz I2 st1.sub (fun d hd=>?_) z1 z2 z3 z4 z5 fun s' H' G' acc vs J st rv hv=>?_
       · have hb':s1.heap.objs.size<=d:=by
           simp only[Qj,Ws,Rj] at hd
           rcases hd with z | z | z | z | z<;>(rw[z];first | exact Ql _ | exact Nat.le_add_right _ _)
         exact I1.fpOk hb' (I1.hok.fresh hb')
       · have hl:=rv.length
         have hsl:1001<=sizeLine:=Wj (wD (by decide))
         have I3:Inv X pins σ (upd H' s'.heap.objs.size (.tup vs)) { s' with heap:=s'.heap.push { cls:=.type "tuple",data:=.seq acc } } :=
           J.laid (t':=s'.toks) (fun b o e=>Qr _ e) (Ql _) (show ObjOk X.prog X.w _ _ _ (.tup vs) from⟨by omega,acc.toList,hv,by have:=IsTup.new s'.heap acc;simpa using this⟩)
         have fr:H' s'.heap.objs.size=none:=J.hok.fresh (Ql _)
         have s4:=Step.laid (o:=.tup vs) st.sub fr
         exact⟨.ref s'.heap.objs.size,_,I3,rfl,kk _ _ _ ((st1.trans st).trans s4) (xI.mpr ⟨_,_,rfl,.of zC,rv.mono s4.gg⟩)⟩
     · cases hf
   | _=>cases hf
 | _=>cases hf
def zUW (x:Str)(l:Int):Str:=⟨((Builtin.Str.strSliceIndices (some l) none 2 x.length).filterMap (x.cps[·]?)).toArray⟩
def zSE (f fl fs:Ef):Ef:=fun ρ=>(f ρ).bind fun d=>(gQ fl ρ).bind fun l=>(gQ fs ρ).bind fun k=>match d,l,k with | .str x,some i,some j=>if j=2/\(zUW x i).length<=lim then some (.str (zUW x i)) else none | _,_,_=>none
theorem zVB {lo st:Expr}{fl fs:Ef}(ha:PF X a fa)(hl:PF X lo fl)(hst:PF X st fs):PF X (.Subscript a (.Slice (some lo) none (some st) p2) pos) (zSE fa fl fs):=by
 intro pins s σ H Q I q
 obtain⟨G0,H0,G,ρ,d,good,hf,kk⟩:=q
 unfold zSE at hf
 obtain⟨x,h1,hf⟩:=Qq.mp hf
 obtain⟨l,h2,hf⟩:=Qq.mp hf
 obtain⟨k,h3,hf⟩:=Qq.mp hf
 cases x with
 | str z=>cases l with
  | none=>cases hf
  | some i=>cases k with
   | none=>cases hf
   | some j =>
    dsimp only at hf
    split at hf
    · rename_i hj
      obtain⟨rfl,hz⟩:=hj
      cases hf
      refine Subscript_ (thn (ha pins s σ H (fun v H1=>∃G1,Step G H G1 H1/\v = .str z) I ⟨G0,H0,G,ρ,_,good,h1,fun v H1 G1 s1 r1=>⟨G1,s1,yI.mp r1⟩⟩) fun v s1 ⟨x,H1,I1,r1,G1,st1,e1⟩=>?_)
      subst e1
      obtain⟨t,rfl⟩:=r1
      refine wpAny_Slice (thn (zRZ hl pins s1 σ H1 (fun o H2=>∃G2,Step G H G2 H2/\o=some i) I1 ⟨G0,H0,G1,ρ,_,good.step st1,h2,fun H2 G2 s2=>⟨G2,st1.trans s2,rfl⟩⟩) fun vl s2 ⟨l',H2,I2,pl,G2,st2,e2⟩=>?_)
      subst e2
      rw[evalPart_none]
      refine Qi (thn (zRZ hst pins s2 σ H2 (fun o H3=>∃G3,Step G H G3 H3/\o=some 2) I2 ⟨G0,H0,G2,ρ,_,good.step st2,h3,fun H3 G3 s3=>⟨G3,st2.trans s3,rfl⟩⟩) fun vk s3 ⟨k',H3,I3,pk,G3,st3,e3⟩=>?_)
      subst e3
      cases pl with
      | int _ ti =>
        cases pk with
        | int _ tk =>
          have I4:Inv X pins σ H3 { s3 with heap:=s3.heap.push { cls:=.type "slice",data:=.fields #[.int i ti,.none,.int 2 tk] } }:=I3.kept (t':=s3.toks) fun b ob q=>Qr _ q
          have fin:∀t' k,EP X pins σ Q (.str (zUW z i) t') { ({ s3 with heap:=s3.heap.push { cls:=.type "slice",data:=.fields #[.int i ti,.none,.int 2 tk] } }:Shared) with toks:=k }:=fun t' k=>⟨.str (zUW z i),H3,I4.tok k,⟨t',rfl⟩,kk _ _ _ st3 (yI.mpr rfl)⟩
          show wpAny (model X.prog X.w) X.A (subscriptTail a (.Slice (some lo) none (some st) p2) (.str z t) (.ref s3.heap.objs.size)) (EP X pins σ Q) X.xe _
          refine tail_any (ops:=[.ref s3.heap.objs.size,.str z t]) (T:="str") (Uz _ z t) F.slot_str_getitem.lookup ?_ (by with_unfolding_all rfl)
          exact wpAny_getItem_str_slice (l:=some (i,ti)) (u:=none) (st:=some (2,tk)) ⟨_,Qa _ rfl,rfl,rfl⟩ rfl (show((Made.str (zUW z i)).post _ _) from⟨Wj (wD hz),fin _ _⟩)
    · cases hf
 | _=>cases hf
end
end L2
namespace L2
open PySem PySem.Spec PyProof.Rows
section
variable {X:Cx}
end
open PySem.W
section
variable {prog:Program} {w:World} {A:Around} {E:Value->Shared->Prop} {h:Heap} {g:Array GenState} {d:Drawn} {t:Nat} {os:OsState} {a C:Addr} {o:Obj} {K:Frag}
theorem zLS {R:Result->Shared->Prop}(X:K.In h)(hx:h.get? a=some o)(hc:o.cls = .ref C)(g3:subIn K (.ref C) (.type "object")=some true)(hq:R (.ok (.ret (.ref C))) ⟨h,g,d,t,os⟩) :
   codeAny (model prog w) A (.call (.builtin "getset_descriptor.__get__") ⟨[.builtin "object.__class__",.ref a,.ref C],[]⟩) R ⟨h,g,d,t,os⟩:=by
 have L3:=looks_subIn (M:=model prog w) X g3
 have hT5:(⟨h,g,d,t,os⟩:Shared).TypeIs (.builtin "object.__class__") "getset_descriptor":=F.typeOf_object_class
 have e8:(".".intercalate ("object.__class__".cutAt '.').dropLast)="object":=F.owner_object_class
 refine Tp F.slot_gs_get.plain F.entry_gs_get (F.slot_gs_get.check _ _ _ _ _ _ _ _ hT5 (F.args_gs_get _ _ _) ?_)
 repeat (any_goals (first | assumption | (with_reducible refine Ww hx ?_;rw[hc]) | wp_step))
 rw[e8]
 refine L3.at ?_
 repeat (any_goals (first | assumption | (with_reducible refine Ww hx ?_;rw[hc]) | wp_step))
 refine⟨Ii _ (by decide +kernel),Ed F.entry_object_class ?_⟩
 repeat (any_goals (first | assumption | (with_reducible refine Ww hx ?_;rw[hc]) | wp_step))
theorem zO9 {tk:Tok}{Q:Fin->Shared->Prop}(X:K.In h)(hx:h.get? a=some o)(hc:o.cls = .ref C)(g2:findIn K (.ref C) "__class__"=some (some (.builtin "object.__class__")))(g3:subIn K (.ref C) (.type "object")=some true)(hq:Q (.done (.ret (.ref C))) ⟨h,g,d,t,os⟩) :
   wpAny (model prog w) A (Builtin.«object.__getattribute__» ⟨[.ref a,.str "__class__" tk],[]⟩) Q E ⟨h,g,d,t,os⟩:=by
 have L2:=looks_findIn (M:=model prog w) X g2
 have hT5:(⟨h,g,d,t,os⟩:Shared).TypeIs (.builtin "object.__class__") "getset_descriptor":=F.typeOf_object_class
 have f5:=F.typeOf_object_class
 have f6:=F.slot_gs_get.lookup
 have f7:=F.slot_gs_set.lookup
 repeat (any_goals (first | assumption | (with_reducible refine Ww hx ?_;rw[hc]) | with_reducible refine L2.at ?_ | wp_step))
 refine zLS X hx hc g3 ?_
 repeat (any_goals (first | assumption | wp_step))
theorem zUo {M:Model}{id:String}{rest:List Value}{Q:Unit->Shared->Prop}{n:String}(X:K.In h)(hx:h.get? a=some o)(hc:o.cls = .ref C)(hk:builtinKind id=some .slot)(hsp:splitId id=some ("BaseException",n))(g4:subIn K (.ref C) (.type "BaseException")=some true)
   (ha:argsOk id ⟨.ref a::rest,[]⟩) (hq:Q () ⟨h,g,d,t,os⟩):wpAny M A (checkBuiltinCall id ⟨.ref a::rest,[]⟩) Q E ⟨h,g,d,t,os⟩:=by
 have L4:=looks_subIn (M:=M) X g4
 simp only[checkBuiltinCall,hk,hsp]
 refine Qw ?_
 unfold isInstance
 repeat (first | (with_reducible refine Ww hx ?_;rw[hc]) | with_reducible refine L4.at ?_ | wp_step)
 cases hsig:Manifest.signature? id with
 | none=>exact Qi hq
 | some sig =>
   simp only[argsOk,hsig] at ha
   show wpAny M A (Bind.checkArgs id sig ⟨.ref a::rest,[]⟩) Q E _
   rw[show Bind.checkArgs id sig ⟨.ref a::rest,[]⟩=pure () from ha]
   exact Qi hq
theorem zUr:builtinKind "BaseException.__getattribute__"=some .slot:=by decide +kernel
theorem zXz:splitId "BaseException.__getattribute__"=some ("BaseException","__getattribute__"):=by decide +kernel
theorem zNF {tk:Tok}{R:Result->Shared->Prop}(X:K.In h)(hx:h.get? a=some o)(hc:o.cls = .ref C)(g2:findIn K (.ref C) "__class__"=some (some (.builtin "object.__class__")))(g3:subIn K (.ref C) (.type "object")=some true)(g4:subIn K (.ref C) (.type "BaseException")=some true)
   (hq:R (.ok (.ret (.ref C))) ⟨h,g,d,t,os⟩):codeAny (model prog w) A (.call (.builtin "BaseException.__getattribute__") ⟨[.ref a,.str "__class__" tk],[]⟩) R ⟨h,g,d,t,os⟩:=by
 have ha:=F.args_bexc_ga (.ref a) (.str "__class__" tk)
 refine Tp F.excAttr_ValueError.ga.plain F.entry_bexc_ga ?_
 refine zUo (id:="BaseException.__getattribute__") (rest:=[.str "__class__" tk]) X hx hc zUr zXz g4 ha ?_
 exact zO9 X hx hc g2 g3 hq
theorem zKF {tk:Tok}{Q:Value->Shared->Prop}(X:K.In h)(hx:h.get? a=some o)(hc:o.cls = .ref C)(g1:findIn K (.ref C) "__getattribute__"=some (some (.builtin "BaseException.__getattribute__")))(g5:findIn K (.ref C) "__getattr__"=some none)(g2:findIn K (.ref C) "__class__"=some (some (.builtin "object.__class__")))(g3:subIn K (.ref C) (.type "object")=some true)(g4:subIn K (.ref C) (.type "BaseException")=some true)
   (hq:Q (.ref C) ⟨h,g,d,t,os⟩):wpAny (model prog w) A (getAttrBy (.ref a) (.str "__class__" tk) false) Q E ⟨h,g,d,t,os⟩:=by
 have L1:=looks_findIn (M:=model prog w) X g1
 have L5:=looks_findIn (M:=model prog w) X g5
 have f3:=F.excAttr_ValueError.ga.bind (.ref a)
 repeat (any_goals (first | assumption | (with_reducible refine Ww hx ?_;rw[hc]) | with_reducible refine L1.at ?_ | with_reducible refine L5.at ?_ | wp_step))
 refine zNF X hx hc g2 g3 g4 ?_
 repeat (any_goals (first | assumption | wp_step))
theorem zOk {Q:Option Value->Shared->Prop}(X:K.In h)(hx:h.get? a=some o)(hc:o.cls = .ref C)(g1:findIn K (.ref C) "__getattribute__"=some (some (.builtin "BaseException.__getattribute__")))(g5:findIn K (.ref C) "__getattr__"=some none)(g2:findIn K (.ref C) "__class__"=some (some (.builtin "object.__class__")))(g3:subIn K (.ref C) (.type "object")=some true)(g4:subIn K (.ref C) (.type "BaseException")=some true)
   (hq:Q (some (.ref C)) ⟨h,g,d,t+1,os⟩):wpAny (model prog w) A (getAttr? (.ref a) "__class__") Q E ⟨h,g,d,t,os⟩:=by
 unfold getAttr? getAttrBy?
 repeat (any_goals (first | assumption | with_reducible apply zKF X hx hc g1 g5 g2 g3 g4 | wp_step))
theorem zPP (hcl:(clsIn K C).isSome=true)(g1:findIn K (.ref C) "__getattribute__"=some (some (.builtin "BaseException.__getattribute__")))(g5:findIn K (.ref C) "__getattr__"=some none)(g2:findIn K (.ref C) "__class__"=some (some (.builtin "object.__class__")))(g3:subIn K (.ref C) (.type "object")=some true)(g4:subIn K (.ref C) (.type "BaseException")=some true) :
   KitX K (.ref a) (.ref C) (fun h=>∃o,h.get? a=some o/\o.cls = .ref C) where
 ty:=fun M h X ⟨o,e1,e2⟩=>by
   intro A' Q' E' s' k q
   unfold typeOf
   obtain⟨h',g',d',t',os'⟩:=s'
   repeat (first | (with_reducible refine Ww (k _ _ e1) ?_;rw[e2]) | wp_step)
   exact q
 it:=fun M h X _=>by
   unfold clsIn at hcl
   split at hcl
   · rename_i c' d' cd' sl' ho
     intro A' Q' E' s' k q
     unfold isType loadHead
     exact Qw (Oi (k _ _ (X _ _ ho)) (Qi q))
   · cases hcl
 ne:=fun h tp dd its n sl X htp=>by
   refine Bool.eq_false_iff.mpr fun q=>?_
   have e:C=tp:=Value.ref.inj (Wm.mp q)
   subst e
   unfold clsIn at hcl
   split at hcl
   · rename_i c' d' cd' sl' ho
     have z:=(X _ _ ho).symm.trans htp
     cases z
   · cases hcl
 ca:=fun {prog w A E Q s} X p k=>by
   obtain⟨o,e1,e2⟩:=p
   obtain⟨h',g',d',t',os'⟩:=s
   exact zOk X e1 e2 g1 g5 g2 g3 g4 k
end
end L2
namespace L2
open PySem PySem.Spec PySem.W
section
variable {prog:Program} {w:World} {A:Around} {E:Value->Shared->Prop} {h:Heap} {g:Array GenState} {d:Drawn} {t:Nat} {os:OsState} {K:Frag}
variable {nm q:Str} {C N:Addr} {bs bm:List Value} {hdct:Bool} {sn:List Str} {sub:List Value} {ab:Bool} {col:Option Bool} {dd:Option Addr} {k0 k1 k2 k3 k5:Option Value}
theorem zPa {M:Model}{rest:List Value}{Q:Unit->Shared->Prop}(X:K.In h)(hC:h.get? C=some (excClassObj nm q C N bs bm hdct sn sub ab col dd k0 k1 k2 k3 k5 "ValueError.__new__"))(hb:bm.contains (.type "ValueError")=true)
   (hq:Q () ⟨h,g,d,t,os⟩):wpAny M A (checkBuiltinCall "ValueError.__new__" ⟨.ref C::rest,[]⟩) Q E ⟨h,g,d,t,os⟩:=by
 have hcont:(Value.ref C::bm).contains (.type "ValueError")=true:=by rw[Rh,hb,Bool.or_true]
 have hstar:=F.excBase_ValueError.noStar
 simp only[checkBuiltinCall,F.excBase_ValueError.newKind,F.excBase_ValueError.newSplit,F.excBase_ValueError.newRow]
 repeat (first | refine Ww hC ?_ | (refine Yd hC ?_;rw[hcont]) | refine wpAny_staticBase_exc hC ?_ | refine wpAny_madeBy_exc hC ?_ | simp only[bne_self_eq_false,Wp,Rf] | wp_step)
 exact hq
theorem zLD {R:Result->Shared->Prop}{rest:List Value}(hC:h.get? C=some (excClassObj nm q C N bs bm hdct sn sub ab col dd k0 k1 k2 k3 k5 "ValueError.__new__"))(hb:bm.contains (.type "ValueError")=true)(hA:bm.contains (.type "AttributeError")=false)(hN:bm.contains (.type "NameError")=false)
   (hq:R (.ok (.ret (.ref (h.objs.size+1)))) ⟨(h.push { cls:=.type "tuple",data:=.seq rest.toArray }).push { cls:=.ref C,data:=.fields #[.ref h.objs.size,.none,.none,.none,.bool false,.none] },g,d,t,os⟩) (hrest:rest.length<=sizeLine) :
   codeAny (model prog w) A (.builtin "ValueError.__new__" ⟨.ref C::rest,[]⟩) R ⟨h,g,d,t,os⟩:=by
 have hends:=F.excBase_ValueError.ends
 have cB:(Value.ref C::bm).contains (.type "ValueError")=true:=by rw[Rh,hb,Bool.or_true]
 have cA:(Value.ref C::bm).contains (.type "AttributeError")=false:=by rw[Rh,hA];rfl
 have cN:(Value.ref C::bm).contains (.type "NameError")=false:=by rw[Rh,hN];rfl
 refine codeAny_builtinAt F.excBase_ValueError.entry ?_
 unfold Builtin.«BaseException.__new__»
 refine wpAt_bind ?_
 show wpAt _ _ _ (stack >>= _) _ _ _
 refine wpAt_bind (wpAt_stack fun p below=>wpAt_of_wpAny ?_)
 wp_walk
 refine wpAt_of_wpAny ?_
 rw[F.excBase_ValueError.owner]
 repeat (first | with_reducible refine wpAny_madeHere_exc F.excBase_ValueError.canon hC ?_ | with_reducible refine Ww hC ?_ | (with_reducible refine Yd hC ?_;first | rw[cB] | rw[cA] | rw[cN]) | wp_step)
 show R _ _
 rw[Eg]
 exact hq
theorem zVU {Q:Fin->Shared->Prop}{rest:List Value}{fI:Addr}{oI:Obj}(X:K.In h)(hC:h.get? C=some (excClassObj nm q C N bs bm hdct sn sub ab col dd k0 k1 k2 k3 k5 "ValueError.__new__"))(hb:bm.contains (.type "ValueError")=true)(hA:bm.contains (.type "AttributeError")=false)(hN:bm.contains (.type "NameError")=false)
   (hi:findIn K (.ref C) "__init__"=some (some (.ref fI))) (hfI:h.get? fI=some oI) (hfc:oI.cls = .type "function") (hrest:rest.length<=sizeLine)
   (hq:wpAny (model prog w) A (call (.ref fI) (.ref (h.objs.size+1)::rest)) (fun r s'=>r = .none/\Q (.done (.ret (.ref (h.objs.size+1)))) s') E ⟨(h.push { cls:=.type "tuple",data:=.seq rest.toArray }).push { cls:=.ref C,data:=.fields #[.ref h.objs.size,.none,.none,.none,.bool false,.none] },g,d,t,os⟩) :
   wpAny (model prog w) A (Builtin.«type.__call__» ⟨.ref C::rest,[]⟩) Q E ⟨h,g,d,t,os⟩:=by
 repeat (first | with_reducible refine Ww hC ?_ | with_reducible refine wpAny_madeBy_exc hC ?_ | wp_step)
 refine codeAny_call_builtin_code (Ii _ F.excBase_ValueError.quiet) (zPa X hC hb ?_)
 refine zLD hC hb hA hN ?_ hrest
 show wpAny _ _ _ _ _ _
 have keep:∀b o,h.get? b=some o->((h.push { cls:=.type "tuple",data:=.seq rest.toArray }).push { cls:=.ref C,data:=.fields #[.ref h.objs.size,.none,.none,.none,.bool false,.none] }).get? b=some o:=fun b o e=>Qr _ (Qr _ e)
 have hC₁:=keep _ _ hC
 have L1:=(looks_findIn (M:=model prog w) X hi).keeps keep
 have hget:((h.push { cls:=.type "tuple",data:=.seq rest.toArray }).push { cls:=.ref C,data:=.fields #[.ref h.objs.size,.none,.none,.none,.bool false,.none] }).get? (h.objs.size+1)=some
     { cls:=.ref C,data:=.fields #[.ref h.objs.size,.none,.none,.none,.bool false,.none] }:=by heap_get
 have hcC:(Value.ref C::bm).contains (.ref C)=true:=by simp
 unfold isInstance
 repeat (first | with_reducible refine Ww hget ?_ | (with_reducible refine Yd hC₁ ?_;rw[hcC]) | wp_step)
 show wpAny _ _ (typeLookup (.ref C) _) _ _ _
 refine L1.at ?_
 refine Ex (Qw ?_)
 unfold bindSpecial
 refine Qw (Ik (T:="function") ⟨_,keep _ _ hfI,hfc⟩ ?_)
 rw[Qn (by decide)]
 refine Qi (Qw (Rq hq (fun r s' hr=>?_) fun _ _ x=>x))
 obtain⟨rfl,hQ⟩:=hr
 wp_walk
 exact hQ
theorem zOy {Q:Value->Shared->Prop}{rest:List Value}{fI:Addr}{oI:Obj}(X:K.In h)(hC:h.get? C=some (excClassObj nm q C N bs bm hdct sn sub ab col dd k0 k1 k2 k3 k5 "ValueError.__new__"))(hb:bm.contains (.type "ValueError")=true)(hA:bm.contains (.type "AttributeError")=false)(hN:bm.contains (.type "NameError")=false)
   (hi:findIn K (.ref C) "__init__"=some (some (.ref fI))) (hfI:h.get? fI=some oI) (hfc:oI.cls = .type "function") (hrest:rest.length<=sizeLine)
   (hq:wpAny (model prog w) (A.under (.builtin "type.__call__" ⟨.ref C::rest,[]⟩)) (call (.ref fI) (.ref (h.objs.size+1)::rest)) (fun r s'=>r = .none/\Q (.ref (h.objs.size+1)) s') E ⟨(h.push { cls:=.type "tuple",data:=.seq rest.toArray }).push { cls:=.ref C,data:=.fields #[.ref h.objs.size,.none,.none,.none,.bool false,.none] },g,d,t,os⟩) :
   wpAny (model prog w) A (call (.ref C) rest) Q E ⟨h,g,d,t,os⟩:=by
 have f1:=tc_lookup
 have f2:=tc_bind (.ref C)
 have hT:(⟨h,g,d,t,os⟩:Shared).TypeIs (.ref C) "type":=⟨_,hC,rfl⟩
 refine Ul (codeAny_of_tree ?_)
 show wpAny _ _ (callAny (.ref C) _) _ _ _
 repeat (any_goals (first | assumption | with_reducible refine Ww hC ?_ | wp_step))
 refine⟨rfl,?_⟩
 exact codeAny_call_builtin_at (Ii _ (by decide +kernel)) entry_typeCall (wpAny_check_type_call_sub hC (zVU X hC hb hA hN hi hfI hfc hrest hq))
end
end L2
namespace L2
open PySem PySem.Spec PySem.W
open Builtin Builtin.ObjectAttr
def tK:List Value->Bool
 | []=>false
 | v::r=>(v::r)==[.type "ValueError",.type "Exception",.type "BaseException",.type "object"]||match v with | .ref _=>tK r | _=>false
theorem bT (self:Value):∀l:List Value,tK l=true->refuseLoop self "__setattr__" l=pure ()
 | [],e=>by cases e
 | v::r,e=>by
   unfold tK at e
   rcases Bool.or_eq_true_iff.mp e with q | q
   · rw[Wm.mp q];exact F.store_ValueError.passes self
   · cases v with
     | ref a=>rw[Os];exact bT self r q
     | _=>cases q
section
variable {prog:Program} {w:World} {A:Around} {E:Value->Shared->Prop} {h:Heap} {g:Array GenState} {d:Drawn} {t:Nat} {os:OsState} {K:Frag}
variable {nm q:Str} {C N x:Addr} {bs bm:List Value} {sn:List Str} {sub:List Value} {ab:Bool} {col:Option Bool} {dd:Option Addr} {k0 k1 k2 k3 k5:Option Value} {newId:String} {name:Str} {v:Value} {o:Obj}
theorem zP8 {M:Model}{id owner n:String}{rest:List Value}{Q:Unit->Shared->Prop}(X:K.In h)(hx:h.get? x=some o)(hc:o.cls = .ref C)(hk:builtinKind id=some .slot)(hsp:splitId id=some (owner,n))(g4:subIn K (.ref C) (.type owner)=some true)
   (ha:argsOk id ⟨.ref x::rest,[]⟩) (hq:Q () ⟨h,g,d,t,os⟩):wpAny M A (checkBuiltinCall id ⟨.ref x::rest,[]⟩) Q E ⟨h,g,d,t,os⟩:=by
 have L4:=looks_subIn (M:=M) X g4
 simp only[checkBuiltinCall,hk,hsp]
 refine Qw ?_
 unfold isInstance
 repeat (first | (with_reducible refine Ww hx ?_;rw[hc]) | with_reducible refine L4.at ?_ | wp_step)
 cases hsig:Manifest.signature? id with
 | none=>exact Qi hq
 | some sig =>
   simp only[argsOk,hsig] at ha
   show wpAny M A (Bind.checkArgs id sig ⟨.ref x::rest,[]⟩) Q E _
   rw[show Bind.checkArgs id sig ⟨.ref x::rest,[]⟩=pure () from ha]
   exact Qi hq
theorem zPD {tk:Tok}{Q:Fin->Shared->Prop}(X:K.In h)(hC:h.get? C=some (excClassObj nm q C N bs bm true sn sub ab col dd k0 k1 k2 k3 k5 newId))(hp:tK bm=true)(hna:findIn K (.ref C) name=some none)
   (hx:h.get? x=some o) (hc:o.cls = .ref C) (hnc:∀c,o.data ≠ .cls c) (hdn:o.dict=none)
   (hq:∀h' tk',h'.get? x=some { cls:=o.cls,dict:=some h.objs.size,data:=o.data,slots:=o.slots }->h'.Ns1 h.objs.size (fun y=>if y=name then some v else none)->(∀b u,b≠x->h.get? b=some u->h'.get? b=some u)->Q (.done (.ret .none)) ⟨h',g,d,tk',os⟩) :
   wpAny (model prog w) A (Builtin.«object.__setattr__» ⟨[.ref x,.str name tk,v],[]⟩) Q E ⟨h,g,d,t,os⟩:=by
 have hpass:=bT (.ref x) bm hp
 have L1:=looks_findIn (M:=model prog w) X hna
 unfold Builtin.«object.__setattr__»
 repeat (first | rw[refuse_eq] | (rw[Os,hpass]) | (with_reducible refine Ww hx ?_;rw[hc]) | with_reducible refine wpAny_mroOf_exc hC ?_ | with_reducible refine L1.at ?_ | wp_step)
 rw[hdn,Wd (by simp[typeHasDict])]
 split
 · rename_i hcd
   cases hcd
 split
 · rename_i c hcd
   exact absurd hcd (hnc c)
 · have hx₁:(h.push { cls:=.type "dict",data:=.dict #[] }).get? x=some o:=Qr _ hx
   have hxs:x≠h.objs.size:=Wu (Qy hx)
   refine Qw (wpAny_alloc' (Qw (wpAny_update' hx₁ (Qi ?_))))
   have hgd:((h.push { cls:=.type "dict",data:=.dict #[] }).update x fun o=>{ cls:=o.cls,dict:=some h.objs.size,data:=o.data,slots:=o.slots }).get? h.objs.size=some { cls:=.type "dict",data:=.dict #[] } :=
     (Heap.get?_update_ne _ _ _ _ hxs.symm).trans (Heap.get?_push_at rfl rfl)
   have hnd:((h.push { cls:=.type "dict",data:=.dict #[] }).update x fun o=>{ cls:=o.cls,dict:=some h.objs.size,data:=o.data,slots:=o.slots }).Ns h.objs.size (fun _=>none) :=
     ⟨_,#[],_,hgd,rfl,fun e he=>absurd he (by simp),fun _=>rfl⟩
   show wpAny _ _ (storeInDict h.objs.size (.str name tk) name v) _ _ _
   unfold storeInDict newKeyGuard
   refine Qw (Qi (Qw (wpAny_nsSet1 (Heap.Ns1.of_empty hnd) fun h' hn' hs=>?_)))
   obtain⟨oD,esD,epD,hoD,hdD,hcD⟩:=hn'.count (Within.cons name v Within.nil)
   refine Qw (Ix hoD (by rw[hdD];exact Ic (Eu hcD (by rw[Qp,Ek,Ym];omega))) ?_)
   wp_walk
   refine hq h' _ ?_ hn' fun b u hbx hb=>(hs.2 b (Wu (Qy hb))).trans ((Heap.get?_update_ne _ _ _ _ hbx).trans (Qr _ hb))
   refine(hs.2 x hxs).trans (Wk _ hx₁ ?_)
   have hfr:=(Yl.mp hx).2
   obtain⟨oc,od,odt,osl⟩:=o
   cases odt<;>first | rfl | exact hfr
theorem zND {tk:Tok}{Q:Fin->Shared->Prop}{dx:Addr}{mA:Str->Option Value}{ns:List Str}(X:K.In h)(hC:h.get? C=some (excClassObj nm q C N bs bm true sn sub ab col dd k0 k1 k2 k3 k5 newId))(hp:tK bm=true)(hna:findIn K (.ref C) name=some none)
   (hx:h.get? x=some o) (hc:o.cls = .ref C) (hdx:o.dict=some dx) (hne:dx≠x) (hns:h.Ns1 dx mA) (hw:Within mA ns) (hsz:ns.length<=1000)
   (hq:∀h' tk',h'.Ns1 dx (fun y=>if y=name then some v else mA y)->(∀b u,b≠dx->h.get? b=some u->h'.get? b=some u)->Q (.done (.ret .none)) ⟨h',g,d,tk',os⟩) :
   wpAny (model prog w) A (Builtin.«object.__setattr__» ⟨[.ref x,.str name tk,v],[]⟩) Q E ⟨h,g,d,t,os⟩:=by
 have hpass:=bT (.ref x) bm hp
 have L1:=looks_findIn (M:=model prog w) X hna
 have hsl:1001<=sizeLine:=Wj (wD (by decide))
 unfold Builtin.«object.__setattr__»
 repeat (first | rw[refuse_eq] | (rw[Os,hpass]) | (with_reducible refine Ww hx ?_;rw[hc]) | with_reducible refine wpAny_mroOf_exc hC ?_ | with_reducible refine L1.at ?_ | wp_step)
 rw[hdx]
 refine Qi ?_
 show wpAny _ _ (storeInDict dx (.str name tk) name v) _ _ _
 unfold storeInDict newKeyGuard
 refine Qw (Qi (Qw (wpAny_nsSet1 hns fun h' hn' hs=>?_)))
 obtain⟨oD,esD,epD,hoD,hdD,hcD⟩:=hn'.count (Within.cons name v hw)
 refine Qw (Ix hoD (by rw[hdD];exact Ic (Eu hcD (by rw[Qp];omega))) ?_)
 wp_walk
 exact hq h' _ hn' fun b u hb e=>(hs.2 b hb).trans e
theorem zS4 {Q:Unit->Shared->Prop}(X:K.In h)(hx:h.get? x=some o)(hc:o.cls = .ref C)(g1:findIn K (.ref C) "__setattr__"=some (some (.builtin "object.__setattr__")))(g3:subIn K (.ref C) (.type "object")=some true)
   (hq:∀A':Around,wpAny (model prog w) A' (Builtin.«object.__setattr__» ⟨[.ref x,.str name t,v],[]⟩) (fun fin s'=>∃h' tk',fin = .done (.ret .none)/\s'=⟨h',g,d,tk',os⟩/\Q () ⟨h',g,d,tk',os⟩) (fun _ _=>False) ⟨h,g,d,t+1,os⟩) :
   wpAny (model prog w) A (setAttr (.ref x) name v) Q E ⟨h,g,d,t,os⟩:=by
 have L1:=looks_findIn (M:=model prog w) X g1
 have f3:=F.store_ValueError.slot.bind (.ref x)
 have ha:=F.store_ValueError.args (.ref x) (.str name t) v
 unfold setAttr callSpecial? specialOf
 repeat (any_goals (first | assumption | (with_reducible refine Ww hx ?_;rw[hc]) | with_reducible refine L1.at ?_ | wp_step))
 refine Tp F.store_ValueError.slot.plain F.store_ValueError.entry ?_
 refine zP8 (id:="object.__setattr__") (owner:="object") (rest:=[.str name t,v]) X hx hc F.store_ValueError.kind F.store_ValueError.split g3 ha ?_
 refine Rq (hq _) (fun fin s' z=>?_) fun _ _ z=>z.elim
 obtain⟨h',tk',rfl,rfl,z⟩:=z
 exact Qi (Qi z)
end
section
variable {prog:Program} {w:World} {A:Around} {E:Value->Shared->Prop} {h:Heap} {g:Array GenState} {d:Drawn} {t:Nat} {os:OsState} {K:Frag} {a C dx:Addr} {o:Obj} {name:Str} {v:Value} {mA:Str->Option Value}
variable {nm q:Str} {N:Addr} {bs bm:List Value} {sn:List Str} {sub:List Value} {ab:Bool} {col:Option Bool} {dd:Option Addr} {k0 k1 k2 k3 k5:Option Value} {newId:String}
theorem zQx {tk:Tok}{Q:Fin->Shared->Prop}(X:K.In h)(hC:h.get? C=some (excClassObj nm q C N bs bm true sn sub ab col dd k0 k1 k2 k3 k5 newId))(hx:h.get? a=some o)(hc:o.cls = .ref C)(hnc:∀c,o.data ≠ .cls c)(hna:findIn K (.ref C) name=some none)(hdx:o.dict=some dx)(hns:h.Ns1 dx mA)(hv:mA name=some v)(hq:Q (.done (.ret v)) ⟨h,g,d,t,os⟩) :
   wpAny (model prog w) A (Builtin.«object.__getattribute__» ⟨[.ref a,.str name tk],[]⟩) Q E ⟨h,g,d,t,os⟩:=by
 have L2:=looks_findIn (M:=model prog w) X hna
 have hn:=hns.ns
 unfold Builtin.«object.__getattribute__»
 repeat (first | (with_reducible refine Ww hx ?_;rw[hc]) | with_reducible refine L2.at ?_ | wp_step)
 split
 · rename_i c hcd
   exact absurd hcd (hnc c)
 unfold instanceDict
 repeat (first | (with_reducible refine Ww hx ?_;rw[hc]) | with_reducible refine Ww hC ?_ | wp_step)
 rw[hdx]
 repeat (first | (with_reducible refine wpAny_nsGet hn ?_;rw[hv]) | wp_step)
 exact hq
theorem zNA {tk:Tok}{R:Result->Shared->Prop}(X:K.In h)(hC:h.get? C=some (excClassObj nm q C N bs bm true sn sub ab col dd k0 k1 k2 k3 k5 newId))(hx:h.get? a=some o)(hc:o.cls = .ref C)(hnc:∀c,o.data ≠ .cls c)(hna:findIn K (.ref C) name=some none)(g4:subIn K (.ref C) (.type "BaseException")=some true)(hdx:o.dict=some dx)(hns:h.Ns1 dx mA)(hv:mA name=some v)
   (hq:R (.ok (.ret v)) ⟨h,g,d,t,os⟩):codeAny (model prog w) A (.call (.builtin "BaseException.__getattribute__") ⟨[.ref a,.str name tk],[]⟩) R ⟨h,g,d,t,os⟩:=by
 have ha:=F.args_bexc_ga (.ref a) (.str name tk)
 refine Tp F.excAttr_ValueError.ga.plain F.entry_bexc_ga ?_
 refine zUo (id:="BaseException.__getattribute__") (rest:=[.str name tk]) X hx hc zUr zXz g4 ha ?_
 exact zQx X hC hx hc hnc hna hdx hns hv hq
theorem zN7 {Q:Value->Shared->Prop}{b:Bool}(X:K.In h)(hC:h.get? C=some (excClassObj nm q C N bs bm true sn sub ab col dd k0 k1 k2 k3 k5 newId))(hx:h.get? a=some o)(hc:o.cls = .ref C)(hnc:∀c,o.data ≠ .cls c)(g1:findIn K (.ref C) "__getattribute__"=some (some (.builtin "BaseException.__getattribute__")))(g5:findIn K (.ref C) "__getattr__"=some none)
   (hna:findIn K (.ref C) name=some none) (g4:subIn K (.ref C) (.type "BaseException")=some true) (hdx:o.dict=some dx) (hns:h.Ns1 dx mA) (hv:mA name=some v) (hh:handedOut v=pure v)
   (hq:Q v ⟨h,g,d,t+1,os⟩):wpAny (model prog w) A (getAttr (.ref a) name b) Q E ⟨h,g,d,t,os⟩:=by
 have L1:=looks_findIn (M:=model prog w) X g1
 have L5:=looks_findIn (M:=model prog w) X g5
 have f3:=F.excAttr_ValueError.ga.bind (.ref a)
 have hx0:(b&&onTheHeap (Value.builtin "BaseException.__getattribute__"))=false:=by cases b<;>rfl
 unfold getAttr getAttrBy
 repeat (any_goals (first | assumption | (with_reducible refine Ww hx ?_;rw[hc]) | with_reducible refine L1.at ?_ | with_reducible refine L5.at ?_ | wp_step))
 refine zNA X hC hx hc hnc hna g4 hdx hns hv ?_
 repeat (any_goals (first | assumption | wp_step))
end
end L2
namespace L2
open PySem PySem.Spec PyProof.Rows
structure XKit (K:PySem.W.Frag)(C:Addr):Prop where
 cl:(PySem.W.clsIn K C).isSome=true
 ga:PySem.W.findIn K (.ref C) "__getattribute__"=some (some (.builtin "BaseException.__getattribute__"))
 gt:PySem.W.findIn K (.ref C) "__getattr__"=some none
 gc:PySem.W.findIn K (.ref C) "__class__"=some (some (.builtin "object.__class__"))
 so:PySem.W.subIn K (.ref C) (.type "object")=some true
 sb:PySem.W.subIn K (.ref C) (.type "BaseException")=some true
def zTn (K:PySem.W.Frag)(C:Addr):Prop:=∃nm q N bs bm sn sub ab col dd k0 k1 k2 k3 k5,K.lookup C=some (excClassObj nm q C N bs bm true sn sub ab col dd k0 k1 k2 k3 k5 "ValueError.__new__")/\tK bm=true
theorem sI (v:Value)(hv:∀a,v ≠ .ref a):∀ {l:List Value},tK l=true->l.contains v=[Value.type "ValueError",.type "Exception",.type "BaseException",.type "object"].contains v
 | [],e=>by cases e
 | u::r,e=>by
   unfold tK at e
   rcases Bool.or_eq_true_iff.mp e with q | q
   · rw[Wm.mp q]
   · cases u with
     | ref a =>
       rw[Rh,sI v hv q,Ei.mpr (hv a),Bool.false_or]
     | _=>cases q
def zTz (K:PySem.W.Frag)(C:Addr):Bool:=PySem.W.isClsIn K C&&(PySem.W.findIn K (.ref C) "__getattribute__"==some (some (.builtin "BaseException.__getattribute__")))&&(PySem.W.findIn K (.ref C) "__getattr__"==some none) &&
 (PySem.W.findIn K (.ref C) "__class__"==some (some (.builtin "object.__class__")))&&(PySem.W.subIn K (.ref C) (.type "object")==some true)&&(PySem.W.subIn K (.ref C) (.type "BaseException")==some true)
theorem zSA {K:PySem.W.Frag}{C:Addr}(h:zTz K C=true):XKit K C:=by
 unfold zTz at h
 simp only[Qx,Wm] at h
 obtain⟨⟨⟨⟨⟨h1,h2⟩,h3⟩,h4⟩,h5⟩,h6⟩:=h
 exact⟨h1,h2,h3,h4,h5,h6⟩
def zTQ (K:PySem.W.Frag)(C:Addr):Bool:=match K.lookup C with
 | some ⟨.type "type",_,.cls cd,sl⟩=>(match cd.mro,sl.toList with
   | .ref C'::bm,[_,_,_,_,some (.builtin n),_]=>C'==C&&n=="ValueError.__new__" && !cd.hasDel&&cd.hasDict&&tK bm
   | _,_=>false)
 | _=>false
theorem zSB {K:PySem.W.Frag}{C:Addr}(q:zTQ K C=true):zTn K C:=by
 unfold zTQ at q
 split at q
 · rename_i dd cd sl ho
   split at q
   · rename_i C' bm k0 k1 k2 k3 n k5 hm hs
     simp only[Qx,Wm,Bool.not_eq_true'] at q
     obtain⟨⟨⟨⟨rfl,rfl⟩,hdel⟩,hdt⟩,ht⟩:=q
     obtain⟨nm,bs,mro,ns,qn,hd,sn,sub,ab,col,del⟩:=cd
     dsimp only at hm hdel hdt
     subst hm hdel hdt
     have hsl:sl=#[k0,k1,k2,k3,some (.builtin "ValueError.__new__"),k5]:=by
       obtain⟨l⟩:=sl
       simp only at hs
       rw[hs]
     subst hsl
     exact⟨nm,qn,ns,bs,bm,sn,sub,ab,col,dd,k0,k1,k2,k3,k5,ho,ht⟩
   · cases q
 · cases q
def IsxOk (K:PySem.W.Frag)(v:Value):List (Str×Bool)->Prop
 | []=>True
 | (c,b)::r=>(∃C,ClsAt K c C/\XKit K C/\PySem.W.kitOne K (.ref C) v=some b)/\IsxOk K v r
theorem IsxOk.at {K:PySem.W.Frag}{v:Value}:∀ {tb:List (Str×Bool)} {c:Str} {b:Bool},IsxOk K v tb->tb.lookup c=some b->∃C,ClsAt K c C/\XKit K C/\PySem.W.kitOne K (.ref C) v=some b
 | [],_,_,_,h=>by cases h
 | (n,x)::r,c,b,⟨h1,h2⟩,h=>by
   rw[Er] at h
   cases hq:c==n with
   | true =>
     rw[hq] at h;cases h
     have e:=Wm.mp hq
     subst e
     exact h1
   | false=>rw[hq] at h;exact h2.at h
def dP (K:PySem.W.Frag)(v:Value)(l:List (Addr×Bool)):Bool:=l.all fun x=>PySem.W.kitOne K (.ref x.1) v==some x.2
theorem zWK {K:PySem.W.Frag}{v:Value}:IsxOk K v []:=True.intro
theorem zYT {K:PySem.W.Frag}{v:Value}{C:Addr}{c:Str}{b:Bool}{r:List (Addr×Bool)}{tb:List (Str×Bool)}(ca:ClsAt K c C)(k:XKit K C)(h:dP K v ((C,b)::r)=true)(rest:dP K v r=true->IsxOk K v tb):IsxOk K v ((c,b)::tb):=by
 unfold dP at h
 rw[Uq,Qx] at h
 exact⟨⟨C,ca,k,Wm.mp h.1⟩,rest h.2⟩
section
variable {X:Cx} {a b c e tg elt iter:Expr} {es ifs:List Expr} {fa fb fc:Ef} {ga gb gi:Lf} {ta tc:Tf} {pos p:Pos} {st:Stmt}
theorem zU7 {v:Value}{vv:V}(hv:∀u,RelV vv u->u=v){tb:List (Str×Bool)}(h:IsxOk X.K v tb):CallR X (.builtin "isinstance") (fun xs H Q=>∃x G c ns ds b,xs=[x,vv]/\Same G H/\Rep X.K G (.exc c ns ds) x/\tb.lookup c=some b/\Q (.bl b) H):=by
 intro pins s σ H xs us Q I r hh
 obtain⟨x,G,c,ns,ds,b,rfl,sub,rx,ht,q⟩:=hh
 obtain⟨u,u',rfl,ru,ru'⟩:=zSJ r
 have e:=hv _ ru'
 subst e
 obtain⟨C,hC,hk,ho⟩:=h.at ht
 obtain⟨C',a,od,vs,h0,rfl,h1,_⟩:=lF.mp rx
 have ec:=hC.one h0
 subst ec
 cases ru
 obtain⟨⟨fs,h2⟩,_⟩:=(show ObjOk X.prog X.w H s.heap a (.ext _) from I.hok a _ (sub _ _ h1))
 exact Tw (zPP hk.cl hk.ga hk.gt hk.gc hk.so hk.sb) I.kIn ⟨_,h2,rfl⟩ ho (fun z=>nomatch z) fun tk=>⟨.bl b,H,I.tok tk,rfl,q⟩
def zTi (tb:List (Str×Bool))(fa:Ef):Ef:=fun ρ=>(fa ρ).bind fun d=>match d with | .exc c _ _=>(tb.lookup c).map .bl | _=>none
theorem zQ0 {e:Expr}{v:Value}{vv:V}{tb:List (Str×Bool)}(h:PE X e (tCB (fun xs H Q=>∃x G c ns ds b,xs=[x,vv]/\Same G H/\Rep X.K G (.exc c ns ds) x/\tb.lookup c=some b/\Q (.bl b) H) (fG (tF X.K fa) (fG (tC vv) zVx)))):PF X e (zTi tb fa):=by
 refine PE.to h ?_
 rintro σ H Q ⟨G0,H0,G,ρ,d,good,hf,k⟩
 unfold zTi at hf
 obtain⟨x,h1,hf⟩:=Qq.mp hf
 cases x with
 | exc c ns ds =>
   obtain⟨b,h2,rfl⟩:=Qt.mp hf
   exact⟨G0,H0,G,ρ,_,good,h1,fun v H1 G1 s1 r1=>⟨v,G1,c,ns,ds,b,rfl,s1.sub,r1,h2,k _ _ G1 s1 (wX.mpr rfl)⟩⟩
 | _=>cases hf
theorem zPR {DN:Str}{DA:Addr}{tb:List (Str×Bool)}{p1:Pos}(hok:IsxOk X.K (.ref DA) tb)(hmD:X.mg DN=some (.ref DA))(hgD:Gl X DN)(hg:Gl X "isinstance")(hm:X.mg "isinstance"=none)(h:PF X a fa)
   (hd:(DN==("__debug__":Str))=false:=by decide) (hs:starEach [a,.Name DN p1] X.env=[(false,eval a X.env),(false,eval (.Name DN p1) X.env)]:=by rfl):PF X (.Call (.Name "isinstance" p) [a,.Name DN p1] [] pos) (zTi tb fa) :=
 zQ0 (v:=.ref DA) (vv:=.ref DA) (sV (zU7 (vv:=.ref DA) (fun _ z=>z) hok) hg hm (by rfl) (yV h (yV (cU (v:=.ref DA) hgD hmD rfl hd) yE) (by rw[hs];rfl)) (by decide) (by decide) (by rw[hs];rfl) (by rfl))
theorem zNd {T:Str}{TT:String}{tb:List (Str×Bool)}{p1:Pos}(hT:bootBuiltins T=some (.type TT))(hok:IsxOk X.K (.type TT) tb)(hmT:X.mg T=none)(hgT:Gl X T)(hg:Gl X "isinstance")(hm:X.mg "isinstance"=none)(h:PF X a fa)
   (hn:T≠"__name__":=by decide) (hd:(T==("__debug__":Str))=false:=by decide) (hs:starEach [a,.Name T p1] X.env=[(false,eval a X.env),(false,eval (.Name T p1) X.env)]:=by rfl):PF X (.Call (.Name "isinstance" p) [a,.Name T p1] [] pos) (zTi tb fa) :=
 zQ0 (v:=.type TT) (vv:=.ty TT) (sV (zU7 (vv:=.ty TT) (fun _ z=>z) hok) hg hm (by rfl) (yV h (yV (zSi (v:=.ty TT) hgT hmT hT rfl hn hd) yE) (by rw[hs];rfl)) (by decide) (by decide) (by rw[hs];rfl) (by rfl))
def XfOk (K:PySem.W.Frag)(f:Str):List Str->Prop
 | []=>True
 | c::r=>(∃C,ClsAt K c C/\XKit K C/\zTn K C/\NoAttr K C f)/\XfOk K f r
theorem XfOk.at {K:PySem.W.Frag}{f:Str}:∀ {cs:List Str} {c:Str},XfOk K f cs->c∈cs->∃C,ClsAt K c C/\XKit K C/\zTn K C/\NoAttr K C f
 | [],_,_,h=>by cases h
 | n::r,c,⟨h1,h2⟩,h=>by
   rcases Qj.mp h with e | e
   · subst e;exact h1
   · exact h2.at e
theorem zK4 {pins:List (Addr×Obj)}{σ:St}{H:Hp}{s:Shared}{a C:Addr}{od:Option Addr}{fs:List (Str×V)}{f:Str}{v:V}{A:Around}{E:Value->Shared->Prop}{Q:Value->Shared->Prop}{b:Bool}(I:Inv X pins σ H s)(e:H a=some (.ext (Xe C a od)))(xd:XD H od fs)
   (k:XKit X.K C) (o:zTn X.K C) (n:NoAttr X.K C f) (l:fs.lookup f=some v) (h:∀u s',Inv X pins σ H s'->RelV v u->Q u s'):wpAny (model X.prog X.w) A (getAttr (.ref a) f b) Q E s:=by
 cases od with
 | none =>
   have z:fs=[]:=xd
   subst z
   cases l
 | some dx =>
   obtain⟨⟨g,h2⟩,_⟩:=(show ObjOk X.prog X.w H s.heap a (.ext _) from I.hok a _ e)
   obtain⟨⟨mA,h3,r⟩,_⟩:=(show ObjOk X.prog X.w H s.heap dx (.ext _) from I.hok dx _ xd)
   obtain⟨u,hu,ru⟩:=RelO.some_of (v:=v) (o:=mA f) (by rw[←l];exact r f)
   obtain⟨nm,q,N,bs,bm,sn,sub,ab,col,dd,k0,k1,k2,k3,k5,hk,hr⟩:=o
   obtain⟨hh,g',d',t',os'⟩:=s
   exact zN7 I.kIn (I.kIn _ _ hk) h2 rfl (fun c z=>nomatch z) k.ga k.gt n k.sb rfl h3 hu (PySem.W.handedOut_of (zXu ru)) (h u _ (I.tok _) ru)
def tXF (K:PySem.W.Frag)(ta:TE)(f:Str):TE:=fun σ H Q=>ta σ H fun x H1=>∃a C od fs v,x = .ref a/\H1 a=some (.ext (Xe C a od))/\XD H1 od fs/\XKit K C/\zTn K C/\NoAttr K C f/\fs.lookup f=some v/\Q v H1
theorem zNt {f:Str}{ta:TE}(he:PE X e ta)(hb:attributeBase e f X.env (eval e X.env)=eval e X.env):PE X (.Attribute e f pos) (tXF X.K ta f):=by
 intro pins s σ H Q I h
 refine zSs hb (thn (he pins s σ H _ I h) fun u s1 ⟨x,H1,I1,rx,a,C,od,fs,v,ex,ea,xd,k,o,n,l,q⟩=>?_)
 subst ex
 obtain rfl:u=Value.ref a:=rx
 exact zK4 I1 ea xd k o n l fun u' s2 I2 ru=>⟨v,H1,I2,ru,q⟩
def zUZ (cs:List Str)(f:Str)(fa:Ef):Ef:=fun ρ=>(fa ρ).bind fun d=>match d with | .exc c ns ds=>if cs.contains c then(ns.zip ds).lookup f else none | _=>none
theorem zW5 {cs:List Str}{f:Str}(hok:XfOk X.K f cs)(ha:PF X a fa)(hb:attributeBase a f X.env (eval a X.env)=eval a X.env:=by rfl):PF X (.Attribute a f pos) (zUZ cs f fa):=by
 refine PE.to (zNt ha hb) ?_
 rintro σ H Q ⟨G0,H0,G,ρ,d,good,hf,k⟩
 unfold zUZ at hf
 obtain⟨x,h1,hf2⟩:=Qq.mp hf
 cases x with
 | exc c ns ds =>
   dsimp only at hf2
   split at hf2
   · rename_i hc
     obtain⟨C,hC,kit,ob,na⟩:=hok.at (Ug.mp hc)
     refine⟨G0,H0,G,ρ,_,good,h1,fun v H1 G1 s1 r1=>?_⟩
     obtain⟨C',q,od,vs,e0,rfl,e1,e2,e3,e4⟩:=lF.mp r1
     have ec:=hC.one e0
     subst ec
     obtain⟨u,e5,e6⟩:=fN e3 e4 hf2
     exact⟨q,_,od,ns.zip vs,u,rfl,s1.sub _ _ e1,e2.mono s1.sub,kit,ob,na,e5,k _ _ G1 s1 e6⟩
   · cases hf2
 | _=>cases hf2
theorem Xd.mono {dx:Addr}{fs:List (Str×V)}(h1 h2:Heap)(x:Xd dx fs h1)(k:∀o,h1.get? dx=some o->h2.get? dx=some o):Xd dx fs h2:=by
 obtain⟨mA,n,r⟩:=x
 exact⟨mA,n.at k,r⟩
theorem Xe.mono {C a:Addr}{od:Option Addr}(h1 h2:Heap)(x:Xe C a od h1)(k:∀o,h1.get? a=some o->h2.get? a=some o):Xe C a od h2:=by
 obtain⟨f,e⟩:=x
 exact⟨f,k _ e⟩
theorem zZc {f:Str}:∀ {fs:List (Str×V)},fs.lookup f≠none->f∈fs.map (·.1)
 | [],h=>absurd rfl h
 | (n,v)::r,h=>by
   rw[Er] at h
   cases hq:f==n with
   | true=>rw[Wm.mp hq];exact Qf
   | false=>rw[hq] at h;exact Qd _ (zZc h)
structure XSt (K:PySem.W.Frag)(C:Addr):Prop where
 kit:XKit K C
 ob:zTn K C
 sa:PySem.W.findIn K (.ref C) "__setattr__"=some (some (.builtin "object.__setattr__"))
def XW (H G H0:Hp)(p:Addr):Option Addr->List (Str×V)->Prop
 | none,fs=>fs=[]
 | some dx,fs=>H dx=some (.ext (Xd dx fs))/\G dx=none/\H0 dx=none/\dx≠p
end
section
variable {P:Program} {w:World} {K:PySem.W.Frag} {mg:Str->Option Value} {base:Heap} {x qual:Str} {st:Stmt} {f C:Addr} {fd:FuncData} {N ps ns:List Str} {k:Nat} {sf:Str}
end
structure XMk (K:PySem.W.Frag)(C f:Addr):Prop where
 ob:zTn K C
 init:PySem.W.findIn K (.ref C) "__init__"=some (some (.ref f))
 fn:PySem.W.isFn K (.ref f)=true
 kp:PySem.W.keepIn K (.ref C)=true
section
variable {X:Cx} {a b c e tg elt iter:Expr} {es ifs:List Expr} {fa fb fc:Ef} {ga gb gi:Lf} {ta tc:Tf} {pos p:Pos} {st:Stmt}
theorem zQ4 {K:PySem.W.Frag}{h:Heap}{f:Addr}(X:K.In h)(e:PySem.W.isFn K (.ref f)=true):∃o,h.get? f=some o/\o.cls = .type "function":=by
 unfold PySem.W.isFn PySem.W.typeIn at e
 obtain⟨o,ho,hc⟩:=Qt.mp (Wm.mp e)
 exact⟨o,X _ _ ho,hc⟩
def zTl (c:Str)(ns:List Str)(n:Nat)(f:List D->Option (List D))(g:Lf):Ef:=fun ρ=>(g ρ).bind fun ds=>if ds.length=n/\n<=1000 then(f ds).bind fun xs=>if ns.length=xs.length then some (.exc c ns xs) else none else none
end
section
variable {X:Cx} {pos p:Pos}
end
def zWm (h:Heap)(e:Addr)(v:Value):Prop:=v = .none∨∃T oT ts,v = .ref T/\T≠e/\h.get? T=some oT/\oT.data = .fields ts/\ts[3]?=some .none
structure Flew (fs:List Addr)(e:Addr)(c:Value)(od:Option Addr)(vs:Array Value)(sl:Array (Option Value))(h h':Heap):Prop where
 obj:h'.get? e=some { cls:=c,dict:=od,data:=.fields (vs.setIfInBounds 1 (.ref h.objs.size)),slots:=sl }
 ne:h.objs.size≠e
 head:∃oT ts,h'.get? h.objs.size=some oT/\oT.data = .fields ts/\ts[3]?=some .none
 keep:∀b o,h.get? b=some o->b≠e->b∉fs->some (Value.ref b)≠vs[1]?->h'.get? b=some o
 slot:∀b o,h.get? b=some o->b≠e->b∈fs->some (Value.ref b)≠vs[1]?->∃z,h'.get? b=some { o with slots:=z }
section
variable {M:Model} {A:Around} {E:Value->Shared->Prop} {s:Shared}
theorem iV {a:Addr}{c x:Value}{od:Option Addr}{vs:Array Value}{sl:Array (Option Value)}{k:Nat}{Q:Unit->Shared->Prop}(ho:s.heap.get? a=some { cls:=c,dict:=od,data:=.fields vs,slots:=sl })(hk:k < vs.size)
   (h:∀h',h'.get? a=some { cls:=c,dict:=od,data:=.fields (vs.setIfInBounds k x),slots:=sl }->Heap.SameBut a s.heap h'->Q () { s with heap:=h' }):wpAny M A (setField (.ref a) k x) Q E s :=
 Op ho rfl hk (h _ (Wk _ ho rfl) (Ya ..))
theorem zXg {base:Heap}{env:Env}{outer:List Env}{L e:Addr}{c:Value}{od:Option Addr}{vs:Array Value}{sl:Array (Option Value)}{hd:Value}{nx:Bool}{Q:Unit->Shared->Prop}
   (hfr:A.frames=some (env::outer)) (hl:s.heap.FunFrames base (env::outer)) (hf:env.frame=some L)
   (he:s.heap.get? e=some { cls:=c,dict:=od,data:=.fields vs,slots:=sl }) (hsz:1 < vs.size)
   (h:∀h',(h'.get? e=some { cls:=c,dict:=od,data:=.fields (vs.setIfInBounds 1 (.ref s.heap.objs.size)),slots:=sl }/\s.heap.objs.size≠e/\∃oT ts,h'.get? s.heap.objs.size=some oT/\oT.data = .fields ts/\ts[3]?=some .none) ->
     (∀b o,s.heap.get? b=some o->b≠e->b∉frs (env::outer)->h'.get? b=some o)->(∀b o,s.heap.get? b=some o->b≠e->b∈frs (env::outer)->∃z,h'.get? b=some { o with slots:=z })->Q () { s with heap:=h' }) :
   wpAny M A (do let a ←frameOf env;let pl ←entryPlaceOf L nx;let b ←EntryCells.newEntry hd a .none (rawInt L) .none pl;setField (.ref e) 1 b) (fun _ s'=>wpAny M A (setFlight (.ref e) none) Q E s') E s:=by
 have ne:e∉frs (env::outer):=fun z=>by
   obtain⟨_,o,q,n⟩:=hl.mem z
   rw[he] at q
   cases q
   exact n vs rfl
 refine Qw (wpAny_frameOf_fun hfr hl hf fun g1 k1=>Qw (wpAny_entryPlaceOf fun pl hp=>?_))
 unfold EntryCells.newEntry newFields
 refine Qw (Ry ?_ (hp.sizeOk5 _ _ _ _ _))
 have e1:g1.get? e=some { cls:=c,dict:=od,data:=.fields vs,slots:=sl }:=(k1.2.1 e ne).trans he
 have ln:g1.objs.size≠e:=fun z=>Wt _ (z ▸ Qy e1)
 have hsz3:3 < ([hd,.ref L,.none,rawInt L,.none]++(if pl.isEmpty then List.replicate 6 Value.none else pl)).toArray.size:=by
   rw[Qs,Wr];show 3 < 5+_;omega
 generalize hts:([hd,.ref L,.none,rawInt L,.none]++(if pl.isEmpty then List.replicate 6 Value.none else pl)).toArray=ts at hsz3
 have e2:(g1.push { cls:=.type "traceback",data:=.fields ts }).get? e=some { cls:=c,dict:=od,data:=.fields vs,slots:=sl }:=Qr _ e1
 have t2:(g1.push { cls:=.type "traceback",data:=.fields ts }).get? g1.objs.size=some { cls:=.type "traceback",dict:=none,data:=.fields ts,slots:=#[] }:=Qa _ rfl
 refine iV e2 hsz fun g3 e3 k3=>?_
 have t3:g3.get? g1.objs.size=some { cls:=.type "traceback",dict:=none,data:=.fields ts,slots:=#[] }:=k3.extBut _ _ ln t2
 unfold setFlight
 refine Qw (Wn e3 rfl (x:=.ref g1.objs.size) (by simp[hsz]) ?_)
 rw[Qn (by simp)]
 refine iV t3 hsz3 fun g4 t4 k4=>h g4 (by rw[←k1.1];exact⟨k4.extBut _ _ (fun z=>ln z.symm) e3,ln,_,_,t4,rfl,by simp[hsz3]⟩) (fun b o q n1 n2=>?_) fun b o q n1 n2=>?_
 · have q1:g1.get? b=some o:=(k1.2.1 b n2).trans q
   exact k4.extBut _ _ (Wu (Qy q1)) (k3.extBut _ _ n1 (Qr _ q1))
 · obtain⟨w,q1⟩:=k1.2.2 b o q
   exact⟨w,k4.extBut _ _ (Wu (Qy q1)) (k3.extBut _ _ n1 (Qr _ q1))⟩
theorem zZq {base:Heap}{env:Env}{outer:List Env}{L e:Addr}{c v:Value}{od:Option Addr}{vs:Array Value}{sl:Array (Option Value)}{Q:Unit->Shared->Prop}
   (hfr:A.frames=some (env::outer)) (hl:s.heap.FunFrames base (env::outer)) (hf:env.frame=some L)
   (he:s.heap.get? e=some { cls:=c,dict:=od,data:=.fields vs,slots:=sl }) (hv:vs[1]?=some v) (hh:zWm s.heap e v)
   (h:∀h',Flew (frs (env::outer)) e c od vs sl s.heap h'->Q () { s with heap:=h' }):wpAny M A (noteFrame (.ref e) env) (fun _ s'=>wpAny M A (setFlight (.ref e) none) Q E s') E s:=by
 have hsz:1 < vs.size:=(Ro.mp hv).1
 unfold noteFrame
 simp only[hf]
 refine Qw (Wn he rfl hv ?_)
 rcases hh with rfl | ⟨T,oT,ts,rfl,ne,hT,hdT,h3⟩
 · rw[Wd (by decide)]
   exact zXg hfr hl hf he hsz fun h' a1 a2 a3=>h h' ⟨a1.1,a1.2.1,a1.2.2,fun b o q n1 n2 _=>a2 b o q n1 n2,fun b o q n1 n2 _=>a3 b o q n1 n2⟩
 · rw[Qn (by simp)]
   refine Qw (Wn hT hdT h3 ?_)
   rw[Wd (show ¬((Value.none==rawInt L)=true) by simp[rawInt])]
   obtain⟨cT,dT,daT,slT⟩:=oT
   dsimp only at hdT
   subst hdT
   refine Qw (iV hT (Ro.mp h3).1 fun g1 t1 k1=>?_)
   have up:∀b o,b≠T->s.heap.get? b=some o->g1.get? b=some o:=fun b o z q=>k1.extBut _ _ z q
   have nT:∀b o,s.heap.get? b=some o->(∀vs,o.data ≠ .fields vs)->b≠T:=fun b o q n z=>by
     rw[z,hT] at q
     cases q
     exact n ts rfl
   refine zXg hfr (hl.of_keeps fun b o q n=>⟨o,up b o (nT b o q n) q,rfl⟩) hf (up _ _ (fun z=>ne z.symm) he) hsz fun h' a1 a2 a3=>?_
   have es:g1.objs.size=s.heap.objs.size:=k1.1
   dsimp only at a1
   rw[es] at a1
   exact h h' ⟨a1.1,a1.2.1,a1.2.2,fun b o q n1 n2 n3=>a2 b o (up b o (fun z=>n3 (by rw[hv,z])) q) n1 n2,fun b o q n1 n2 n3=>a3 b o (up b o (fun z=>n3 (by rw[hv,z])) q) n1 n2⟩
theorem zU5 {base:Heap}{env:Env}{outer:List Env}{L e:Addr}{c v:Value}{od:Option Addr}{vs:Array Value}{sl:Array (Option Value)}{Q:Unit->Shared->Prop}
   (hfr:A.frames=some (env::outer)) (hl:s.heap.FunFrames base (env::outer)) (hf:env.frame=some L)
   (he:s.heap.get? e=some { cls:=c,dict:=od,data:=.fields vs,slots:=sl }) (hv:vs[1]?=some v) (hh:zWm s.heap e v)
   (h:∀h',Flew (frs (env::outer)) e c od vs sl s.heap h'->Q () { s with heap:=h' }):wpAny M A (leaving env (.ref e)) Q E s:=Qw (zZq hfr hl hf he hv hh h)
theorem zUM {a T:Addr}{o oT:Obj}{vs ts:Array Value}{Q:Unit->Shared->Prop}(ho:s.heap.get? a=some o)(hd:o.data = .fields vs)(hv:vs[1]?=some (.ref T))(hT:s.heap.get? T=some oT)(hdT:oT.data = .fields ts)(h3:ts[3]?=some .none)
   (h:∀h',(∀b u,s.heap.get? b=some u->h'.get? b=some u)->Q () { s with heap:=h' }):wpAny M A (setFlight (.ref a) none) Q E s:=by
 unfold setFlight
 refine Qw (Wn ho hd hv ?_)
 rw[Qn (by simp)]
 obtain⟨cT,dT,daT,slT⟩:=oT
 dsimp only at hdT
 subst hdT
 refine iV hT (Ro.mp h3).1 fun g q1 q2=>h g fun b u q=>?_
 by_cases hb:b=T
 · subst hb
   rw[hT] at q
   cases q
   rw[q1]
   have:ts.setIfInBounds 3 ((none:Option Addr).elim Value.none fun f=>rawInt f)=ts:=by
     apply Array.ext_getElem?
     intro k
     rw[Array.getElem?_setIfInBounds]
     split
     · rename_i z
       subst z
       split
       · exact h3.symm
       · rename_i z;rw[Array.getElem?_eq_none (by omega)]
     · rfl
   rw[this]
 · exact q2.extBut _ _ hb q
end
structure Fly (h:Heap)(H:Hp)(h0:Heap)(C a:Addr):Prop where
 ob:∃vs v,h.get? a=some { cls:=.ref C,dict:=none,data:=.fields vs,slots:=#[] }/\vs[1]?=some v/\zWm h a v/\∀T,v = .ref T->H T=none/\h0.get? T=none
 free:H a=none
 new:h0.get? a=none
section
variable {P:Program} {w:World} {K:PySem.W.Frag} {mg:Str->Option Value} {base:Heap} {N:List Str} {qual:Str} {scope:Scope} {f:Addr} {cd:Value} {A:Around} {outer:List Env} {s₀ s:Shared} {H₀ H:Hp} {E:XK} {pins:List (Addr×Obj)} {σ:St} {C a:Addr}
end
section
variable {X:Cx} {E:XK} {C:Addr} {c:Str} {p cpos pos:Pos} {e:Expr} {es:List Expr} {t:TA}
end
theorem zYw {α:Type}(p:α->Bool):∀(l:List α) (i:Nat),(∀x,l[i]?=some x->p x=false)->(l.eraseIdx i).find? p=l.find? p
 | [],_,_=>rfl
 | x::r,0,h=>by
   have q:=h x rfl
   rw[List.eraseIdx_cons_zero,Yf,q]
 | x::r,i+1,h=>by
   rw[Tv,Yf,Yf,zYw p r i fun y e=>h y (by simpa using e)]
theorem zO3 {k:Value}{x y:Str}(h:k.isStr x=true)(ne:y≠x):k.isStr y=false:=by
 cases k<;>simp_all [Value.isStr]
 rename_i z t
 intro q
 exact ne q.symm
section
variable {M:Model} {A:Around} {E:Value->Shared->Prop} {s:Shared}
theorem zMn {a:Addr}{m:Str->Option Value}{n:Str}{Q:Bool->Shared->Prop}(hn:s.heap.Ns a m)
   (hQ:∀h' m',h'.Ns a m'->(∀x,x≠n->m' x=m x)->Heap.SameBut a s.heap h'->Q (m n).isSome { s with heap:=h' }):wpAny M A (nsDel a n) Q E s:=by
 obtain⟨⟨c,d,dt,sl⟩,es,ep,ho,hd,hk,hm⟩:=id hn
 dsimp only at hd
 subst hd
 have noref:es.any (·.refKey)=false:=Array.any_eq_false'.mpr fun e he=>by
   obtain⟨w,t,q⟩:=hk e he
   simp[DictEntry.refKey,q]
 have hh:nsHas n ⟨c,d,.dict es ep,sl⟩=pure (es.any (·.key.isStr n)):=by
   rw[nsHas_eq]
   unfold nsHasByArray
   show(if (es.any fun x=>x.key.isStr n)=true then _ else _)=_
   cases es.any fun x=>x.key.isStr n<;>simp[noref]
 have hs:(m n).isSome=es.any (·.key.isStr n):=by
   rw[←hm n]
   unfold nsFind findBy
   rw[Option.isSome_map,Tz,Array.find?_isSome,Array.any_eq_true']
 unfold nsDel
 refine Qw (Oi ho ?_)
 rw[hh]
 refine Qw (Qi ?_)
 rw[←hs]
 cases hb:(m n).isSome with
 | false =>
   have:=hQ s.heap m hn (fun _ _=>rfl) (.refl ..)
   rw[hb] at this
   exact Qi this
 | true =>
   refine Qw (wpAny_updatePart ho (Qi ?_))
   rw[hb] at hs
   obtain⟨k,hk1,hk2⟩:=Array.any_eq_true'.mp hs.symm
   cases hi:es.findIdx? (·.key.isStr n) with
   | none =>
     have:=Array.findIdx?_eq_none_iff.mp hi k hk1
     rw[this] at hk2;cases hk2
   | some i =>
     have hd':Obj.dropName n ⟨c,d,.dict es ep,sl⟩=⟨c,d,.dict (es.eraseIdxIfInBounds i) (ep+1),sl⟩:=by
       rw[Obj.dropName_eq];unfold Obj.dropNameByArray;dsimp only;rw[hi]
     have hg:=Wk (Obj.dropName n) ho (by rw[hd'];rfl)
     rw[hd'] at hg
     have:=hQ _ (nsFind (es.eraseIdxIfInBounds i)) ⟨_,_,_,hg,rfl,hk.erase i,fun _=>rfl⟩ (fun x ne=>?_) (Ya ..)
     · rw[hb] at this;exact this
     · rw[←hm x]
       unfold nsFind findBy
       congr 1
       have hi2:=Array.findIdx?_eq_some_iff_getElem.mp hi
       obtain⟨hlt,hp,_⟩:=hi2
       rw[←Ie,←Ie,show(es.eraseIdxIfInBounds i).toList=es.toList.eraseIdx i by simp[Array.eraseIdxIfInBounds,hlt]]
       refine zYw _ _ _ fun y e=>zO3 (x:=n) ?_ ne
       rw[Qu (by simpa using hlt)] at e
       cases e
       simpa using hp
end
section
variable {X:Cx} {pins:List (Addr×Obj)} {σ:St} {H:Hp} {s:Shared}
theorem Inv.gone {i:Nat}{n:Str}{h':Heap}{m m':Str->Option Value}{t':Nat}(I:Inv X pins σ H s)(hN:X.N.Nodup)(hi:X.N[i]?=some n)(hm:s.heap.Ns X.env.locals m)(hm':h'.Ns X.env.locals m')(e:∀x,x≠n->m' x=m x)(sb:Heap.SameBut X.env.locals s.heap h') :
   Inv X pins (σ.set i none) H { s with heap:=h',toks:=t' }:=by
 have keep:∀b o,b≠X.env.locals->s.heap.get? b=some o->h'.get? b=some o:=fun b o ne q=>sb.extBut _ _ ne q
 have neL:∀b o,X.s₀.heap.get? b=some o->b≠X.env.locals:=fun b o q=>Wu (We (Qy q) I.ok.above)
 obtain⟨m0,hn0,hl⟩:=I.loc
 have em:∀x,m0 x=m x:=fun x=>by
   obtain⟨o,es,ep,q1,q2,_,q3⟩:=hn0
   obtain⟨o',es',ep',r1,r2,_,r3⟩:=hm
   rw[q1] at r1;cases r1
   rw[q2] at r2;cases r2
   rw[←q3,←r3]
 refine⟨I.ok,I.os,I.bare,⟨fun b o q n hb hx=>keep b o (neL b o q) (I.base.keep b o q n hb hx),fun b o q n hb hx=>?_,I.base.free,fun b o q hx=>?_,I.base.tups,I.base.frzs,I.base.tbls⟩,⟨m',hm',fun j x v hj hσ hv=>?_⟩,fun x c q=>?_,I.free,I.freeC,fun p hp=>?_,fun b o q=>?_,?_⟩
 · obtain⟨z,y⟩:=I.base.slot b o q n hb hx
   exact⟨z,keep b _ (neL b o q) y⟩
 · obtain⟨z,y⟩:=I.base.there b o q hx
   exact⟨z,keep b _ (neL b o q) y⟩
 · have ji:j≠i:=fun z=>by
     subst z
     by_cases hl':j < σ.length
     · rw[Ea hl'] at hσ;cases hσ
     · rw[Em (by rw[Tq];omega)] at hσ;cases hσ
   rw[Wi (Ne.symm ji)] at hσ
   obtain⟨u,r,lk⟩:=hl j x v hj hσ hv
   have xn:x≠n:=fun z=>ji (by
     subst z
     exact(List.getElem?_inj (Qk.mp hj).1 hN).mp (hj.trans hi.symm))
   refine⟨u,r,?_⟩
   rcases lk with⟨k1,k2⟩ | ⟨k1,c,k2,ob,k3,k4⟩
   · exact .inl ⟨k1,by rw[e x xn,←em];exact k2⟩
   · exact .inr ⟨k1,c,k2,ob,keep c ob (I.cne x c k2) k3,k4⟩
 · obtain⟨v,ob,k1,k2⟩:=I.cell x c q
   exact⟨v,ob,keep c ob (I.cne x c q) k1,k2⟩
 · obtain⟨p1,p2,p3,p4⟩:=I.pin p hp
   exact⟨keep _ _ p3 p1,p2,p3,p4⟩
 · refine(I.hok b o q).stay (fun b' u hb' q'=>keep b' u (fun z=>?_) q') (fun _ z=>z) (fun _ _ z=>z)
   have fr:=I.free
   rcases hb' with y | y
   · rw[←z,y,q] at fr;cases fr
   · rw[←z,y] at fr;cases fr
 · rw[Tq];exact I.len
theorem zRg {M:Model}{A:Around}{E:Value->Shared->Prop}{i:Nat}{n:Str}{pos:Pos}{Q:Unit->Shared->Prop}(I:Inv X pins σ H s)(hN:X.N.Nodup)(hi:X.N[i]?=some n)(hk:X.env.kindOf n=some .local)(hx:Loc X.env.scope n)
   (h:∀s',Inv X pins (σ.set i none) H s'->Q () s') (hf:X.fn n=true∨X.env.scope.names.lookup n=some .local):wpAny M A (do bindName X.env n .none;unbindBehindTheSuite X.env n pos) Q E s:=by
 refine Qw (wpAny_bindName (cM (v:=.non) I hN hi hx rfl (fun s1 I1 _=>?_) hf))
 have hp:(X.env.scope.kind == .class||(X.env.scope.kind == .module&&X.env.locals != X.env.globals))=false:=by rw[I.ok.kind];rfl
 obtain⟨m1,hn1,hl1⟩:=I1.loc
 unfold unbindBehindTheSuite
 refine Uw ?_
 unfold unbindName
 refine Qw (wpAny_point (Qw ?_))
 unfold deleteName
 simp only[hk,hp]
 rw[Wd (by decide)]
 have hii:i < σ.length:=by rw[I.len];exact(Qk.mp hi).1
 obtain⟨u,_,lk⟩:=hl1 i n .non hi (Ea hii) (.inl (show X.env.scope.names.lookup n=some .local from hk))
 have hs:(m1 n).isSome=true:=by
   rcases lk with⟨_,k2⟩ | ⟨k1,_⟩
   · rw[k2];rfl
   · rw[hk] at k1;rcases k1 with z | z<;>cases z
 refine Qw (zMn hn1 fun h2 m2 q1 q2 q3=>?_)
 rw[hs]
 rw[Wd (by decide)]
 refine Qi (wpAny_point ?_)
 have J:=I1.gone (t':=s1.toks) hN hi hn1 q1 q2 q3
 rw[List.set_set] at J
 exact h _ J
end
abbrev Cx.marked (X:Cx)(a:Addr)(R:Value->Shared->Prop):Cx:={ X with A:=X.A.mark (some (.ref a)),calm:=false,xe:=R }
theorem Cx.Ok.marked {X:Cx}(ok:X.Ok)(a:Addr)(R:Value->Shared->Prop):(X.marked a R).Ok :=
 ⟨ok.mod,ok.kind,ok.glob,ok.blt,ok.above,ok.inj,ok.has,ok.cab,(fun z=>by cases z),ok.frames,ok.stk,ok.exf,ok.bs,ok.bsz,ok.noex,ok.exfs,ok.funs,ok.frf⟩
theorem Inv.marked {X:Cx}{pins:List (Addr×Obj)}{σ:St}{H:Hp}{s:Shared}(I:Inv X pins σ H s)(a:Addr)(R:Value->Shared->Prop):Inv (X.marked a R) pins σ H s:=⟨I.ok.marked a R,I.os,I.bare,I.base,I.loc,I.cell,I.free,I.freeC,I.pin,I.hok,I.len⟩
theorem Inv.unmarked {X:Cx}{pins:List (Addr×Obj)}{σ:St}{H:Hp}{s:Shared}{a:Addr}{R:Value->Shared->Prop}(ok:X.Ok)(I:Inv (X.marked a R) pins σ H s):Inv X pins σ H s:=⟨ok,I.os,I.bare,I.base,I.loc,I.cell,I.free,I.freeC,I.pin,I.hok,I.len⟩
section
variable {X:Cx} {pins:List (Addr×Obj)} {σ:St}
end
section
variable {X:Cx} {E:XK} {a b e:Expr} {es:List Expr} {ga:Lf} {tt:Tf} {f:Sf} {x xa xb:List B->Option Str} {pos p cpos:Pos} {st:Stmt} {sts rest:List Stmt}
end
section
variable {P:Program} {w:World} {K:PySem.W.Frag} {mg:Str->Option Value} {base:Heap} {x qual:Str} {st:Stmt} {f:Addr} {fd:FuncData} {N ps:List Str} {k:Nat}
end
theorem zYJ {M:Model}{A:Around}{st:Stmt}{env:Env}{Q:Flow->Shared->Prop}{R:Value->Shared->Prop}{s:Shared}(h:wpAny M A (exec st env) (fun _ _=>False) R s):wpAny M A (execs [st] env) Q R s:=Ut (Rq h (fun _ _ z=>z.elim) fun _ _ z=>z)
section
variable {X:Cx} {a b e:Expr} {es:List Expr} {ga:Lf} {tt:Tf} {xa xb:List B->Option Str} {pos p cpos:Pos} {st st':Stmt}
theorem Good.setNo {K:PySem.W.Frag}{G0 H0 G H:Hp}{σ:St}{ρ:List B}(g:Good K G0 H0 G H σ ρ)(i:Nat):Good K G0 H0 G H (σ.set i none) (ρ.set i .no):=by
 refine⟨g.st,Paired.set .no i g.vals,fun j k a ds es h1 h2 h3 h4=>?_⟩
 have nj:j≠i:=fun z=>by
   subst z
   by_cases hl:j < ρ.length
   · rw[Ea hl] at h1;cases h1
   · rw[Em (by rw[Tq];omega)] at h1;cases h1
 have nk:k≠i:=fun z=>by
   subst z
   by_cases hl:k < ρ.length
   · rw[Ea hl] at h2;cases h2
   · rw[Em (by rw[Tq];omega)] at h2;cases h2
 rw[Wi (Ne.symm nj)] at h1 h3
 rw[Wi (Ne.symm nk)] at h2 h4
 exact g.apart j k a ds es h1 h2 h3 h4
end
section
variable {prog:Program} {w:World} {A:Around} {E:Value->Shared->Prop} {s:Shared}
structure Z3 (z TI TO i1 i2 i3 l1 l2 l3:Addr):Prop where
 TIz:TI≠z
 TOz:TO≠z
 i1z:i1≠z
 i2z:i2≠z
 i3z:i3≠z
 TITO:TI≠TO
 TIi1:TI≠i1
 TIi2:TI≠i2
 TIi3:TI≠i3
 TOi1:TO≠i1
 TOi2:TO≠i2
 TOi3:TO≠i3
 i12:i1≠i2
 i13:i1≠i3
 i23:i2≠i3
 a1:l1≠z
 a2:l1≠TO
 a3:l1≠i1
 a4:l1≠i2
 a5:l1≠i3
 b1:l2≠z
 b2:l2≠TO
 b3:l2≠i1
 b4:l2≠i2
 b5:l2≠i3
 c1:l3≠z
 c2:l3≠TO
 c3:l3≠i1
 c4:l3≠i2
 c5:l3≠i3
end
section
variable {X:Cx} {a b c e tg elt iter:Expr} {fa fb fc:Ef} {ga:Lf} {pos p:Pos}
end
section
variable {X:Cx} {a b c e:Expr} {es:List Expr} {fa fb fc:Ef} {ga gb:Lf} {pos p:Pos}
theorem bU:∀ {ns:List Int} {its:List Value},Vals (ns.map V.int) its->∃ps:List (Int×Tok),its=ps.map (fun p=>Value.int p.1 p.2)/\ps.map (·.1)=ns
 | [],_,h=>by cases h;exact⟨[],rfl,rfl⟩
 | n::ns,_,h=>by
   cases h with
   | cons h1 h2 =>
     obtain⟨t,rfl⟩:=h1
     obtain⟨ps,rfl,rfl⟩:=bU h2
     exact⟨(n,t)::ps,rfl,rfl⟩
end
section
variable {prog:Program} {w:World} {A:Around} {E:Value->Shared->Prop} {s:Shared}
end
section
variable {X:Cx} {a b c e:Expr} {es:List Expr} {fa fb fc:Ef} {ga gb:Lf} {pos p:Pos}
def zNL (i:Nat)(fb:Ef):Ef:=fun ρ=>match ρ[i]? with | some (.ow ds)=>(fb ρ).bind (fun y=>match y with | .int k=>atI ds k | _=>none) | _=>none
theorem zL6 (i:Nat){x:Str}{p1:Pos}(hb:PF X b fb)(hN:X.N[i]?=some x:=by rfl)(hv:Vis X.env.scope x:=by first | exact Or.inl rfl | exact Or.inr (Or.inl rfl) | exact Or.inr (Or.inr rfl))(hd:(x==("__debug__":Str))=false:=by decide)(hcd:(x==("__classdict__":Str))=false:=by decide)(hs:zZO b:=by exact fun _ _=>rfl) :
   PF X (.Subscript (.Name x p1) b pos) (zNL i fb):=by
 refine PE.to (zP9 zS9 (pK hN hv hd hcd) hb hs) ?_
 rintro σ H Q ⟨G0,H0,G,ρ,d,good,hf,k⟩
 unfold zNL at hf
 split at hf
 · rename_i ds hi
   obtain⟨q,vs,e1,e2,e3,e4,e5⟩:=good.addr hi
   obtain⟨y,h2,hf⟩:=Qq.mp hf
   cases y with
   | int m =>
     refine⟨.ref q,e1,G0,H0,G,ρ,_,good,h2,fun v H2 G2 s2 r2=>?_⟩
     obtain⟨w,e,rw'⟩:=zYu (e5.mono s2.gg) hf
     exact⟨q,vs,m,w,rfl,zB.mp r2,.of (s2.hh _ _ e2),e,k _ _ G2 s2 rw'⟩
   | _=>cases hf
 · cases hf
end
section
variable {prog:Program} {w:World} {A:Around} {E:Value->Shared->Prop} {s:Shared}
theorem zSU:typeLookup (.type "list_reverseiterator") "__len__"=pure none:=by rw[Uf,Yr];kernel_rfl
theorem zPu:typeLookup (.type "list_reverseiterator") "__length_hint__"=pure (some (.builtin "list_reverseiterator.__length_hint__")):=by rw[Uf,Yr];kernel_rfl
theorem zOI {it l:Addr}{i:Int}{Q:Bool->Shared->Prop}(hit:s.heap.IsRevIter it l i)(h:Q false s):wpAny (model prog w) A (Builtin.List.listLengthHint (.ref it)) Q E s:=by
 unfold Builtin.List.listLengthHint
 refine Qw (Ys hit.typeIs zSU ?_)
 refine Tb (fun hab=>absurd hab (by decide)) (fun _=>?_)
 refine Tb (fun hab=>absurd hab (by decide)) (fun _=>?_)
 refine Qw (Ys hit.typeIs zPu ?_)
 generalize hid:("list_reverseiterator.__length_hint__":String)=id0
 wp_delta
 rw[show splitId id0=some ("list_reverseiterator","__length_hint__") from by subst hid;decide +kernel]
 subst hid
 refine Qw (Uy (T:="list_reverseiterator") (b:=true) hit.typeIs (by rw[isSubtype_type];kernel_rfl) ?_)
 refine Tb (fun hab=>absurd hab (by decide)) (fun _=>?_)
 refine Tb (fun _=>?_) (fun hab=>absurd (by decide +kernel) hab)
 refine Tb (fun hab=>absurd hab (by decide +kernel)) (fun _=>?_)
 exact Qi h
theorem zTe {R:Result->Shared->Prop}{it l S:Addr}{items:Array Value}{res:Value}{c₀:Nat}(hh:A.handled=none)(hit:s.heap.IsRevIter it l ((items.size:Int) - 1))(hl:s.heap.IsList l items)(hli:l≠it)(hSi:S≠it)(hSl:S≠l)(hlen:items.size<=sizeLine)
   (hS:s.heap.get? S=some { cls:=.type "list",data:=.seq #[] c₀ })
   (hR:∀h' tk acc' c',(∀b o,b≠S->b≠it->s.heap.get? b=some o->h'.get? b=some o)->h'.get? S=some { cls:=.type "list",dict:=none,data:=.seq acc' c',slots:=#[] } ->
     ItemsOf (fun i v=>items[items.size - 1 - i]?=some v) acc' items.size->R (.ok (.ret res)) { s with heap:=h',toks:=tk }) :
   wpAny (model prog w) A.in1 (Builtin.List.listExtendWith (.ref S) (.ref it) res)
     (fun fin s'=>match fin with | .done f=>R (.ok f) s' | .again c'=>c'.quiet=true/\codeAny (model prog w) A c' R s') (fun e s'=>R (.error e) s') s:=by
 have hSf:S∉[it,l]:=fun hm=>by
   rcases Qj.mp hm with e | hm
   · exact hSi e
   · exact hSl (Wf.mp hm)
 have W:=(Walks.listRev (prog:=prog) (w:=w) (A:=A.in1) hh it l hli items).toS
 unfold Builtin.List.listExtendWith
 refine Qw (Ik hit.typeIs ?_)
 have h1:Builtin.List.listSameRef (.ref S) (.ref it)=false:=by simp[Builtin.List.listSameRef,hSi]
 have h2:(Value.type "list_reverseiterator"==Value.type "list")=false:=by decide
 have h3:(Value.type "list_reverseiterator"==Value.type "tuple")=false:=by decide
 simp only[h1,h2,h3,Bool.or_false,Wp,Rf]
 refine Qw (wpAny_pyIter_revIter hit ?_)
 refine Qw (Ex (zOI hit ?_))
 refine Tb (fun hab=>absurd hab (by decide +kernel)) (fun _=>Qi ⟨Ej F.plain_extend_loop _,?_⟩)
 refine codeAny_extend_loopS W hlen S hSf res items.size 0 _ #[] c₀ rfl (Tj _) ⟨Tj _,by simpa using hit,hl⟩ hS (ItemsOf.nil _) fun s' acc' c' hm hS' hacc=>?_
 rw[Moved.eq_with hm]
 refine hR s'.heap s'.toks acc' c' (fun b o hb hb' e=>hm.heap b o (fun hmem=>?_) e) hS' hacc
 rcases Qj.mp hmem with e' | hmem
 · exact hb e'
 · exact hb' (Wf.mp hmem)
theorem zXR {R:Result->Shared->Prop}{it l S:Addr}{items:Array Value}(hh:A.handled=none)(hit:s.heap.IsRevIter it l ((items.size:Int) - 1))(hl:s.heap.IsList l items)(hli:l≠it)(hSi:S≠it)(hSl:S≠l)(hlen:items.size<=sizeLine)
   (hS:s.heap.get? S=some { cls:=.type "list",data:=.seq #[] })
   (hR:∀h' tk acc' c',(∀b o,b≠S->b≠it->s.heap.get? b=some o->h'.get? b=some o)->h'.get? S=some { cls:=.type "list",dict:=none,data:=.seq acc' c',slots:=#[] } ->
     ItemsOf (fun i v=>items[items.size - 1 - i]?=some v) acc' items.size->R (.ok (.ret .none)) { s with heap:=h',toks:=tk }) :
   wpAny (model prog w) A.in1 (Builtin.«list.__init__» ⟨[.ref S,.ref it],[]⟩)
     (fun fin s'=>match fin with | .done f=>R (.ok f) s' | .again c'=>c'.quiet=true/\codeAny (model prog w) A c' R s') (fun e s'=>R (.error e) s') s:=by
 show wpAny _ _ (do let old ←Builtin.List.listItems (.ref S);Builtin.List.listUpdate (.ref S) (fun _=>#[]);letGo old.toList.reverse;Builtin.List.listExtendWith (.ref S) (.ref it) .none) _ _ s
 refine Qw ?_
 unfold Builtin.List.listItems
 refine Qw (Ey hS rfl (Qi ?_))
 show wpAny _ _ (updateSeq S (fun _=>#[]) >>= fun _=>letGo (#[]:Array Value).toList.reverse >>= fun _=>Builtin.List.listExtendWith (.ref S) (.ref it) .none) _ _ s
 refine Qw (Rl hS rfl ?_)
 have hS₂:=Wk (Obj.mapSeq (fun _=>(#[]:Array Value))) hS rfl
 have oth:∀b o,b≠S->s.heap.get? b=some o->(s.heap.update S (Obj.mapSeq (fun _=>(#[]:Array Value)))).get? b=some o :=
   fun b o hb e=>(Wz _ _ (Ne.symm hb)).trans e
 refine Qw (Yw ?_)
 refine zTe hh (hit.at fun o e=>oth _ _ (Ne.symm hSi) e) (hl.at fun o e=>oth _ _ (Ne.symm hSl) e) hli hSi hSl hlen hS₂ fun h' tk acc' c' hk hS' hacc=>?_
 exact hR h' tk acc' c' (fun b o hb hb' e=>hk b o hb hb' (oth b o hb e)) hS' hacc
theorem zYo {Q:Value->Shared->Prop}{it l:Addr}{items:Array Value}(hh:A.handled=none)(hit:s.heap.IsRevIter it l ((items.size:Int) - 1))(hl:s.heap.IsList l items)(hli:l≠it)(hlen:items.size<=sizeLine)
   (hQ:∀h' tk acc' c',(∀b o,b≠it->s.heap.get? b=some o->h'.get? b=some o) ->
     h'.get? s.heap.objs.size=some { cls:=.type "list",dict:=none,data:=.seq acc' c',slots:=#[] }->ItemsOf (fun i v=>items[items.size - 1 - i]?=some v) acc' items.size->Q (.ref s.heap.objs.size) { s with heap:=h',toks:=tk }) :
   wpAny (model prog w) A (call (.type "list") [.ref it]) Q E s:=by
 refine callType_codes (Q₁:=fun obj s₁=>obj = .ref s.heap.objs.size/\s₁={ s with heap:=s.heap.push { cls:=.type "list",data:=.seq #[] } }) F.called_list (F.typeCall_list_1 _) F.entry_list_init
   (code_list_new _ ⟨rfl,rfl⟩) fun obj s₁ h₁=>?_
 obtain⟨rfl,rfl⟩:=h₁
 have hS:(s.heap.push { cls:=.type "list",data:=.seq #[] }).get? s.heap.objs.size=some { cls:=.type "list",data:=.seq #[] }:=Qa _ rfl
 have n1:s.heap.objs.size≠it:=fun z=>by obtain⟨o,e,_⟩:=hit;exact absurd (Qy e) (by rw[z];exact Wt _)
 have n2:s.heap.objs.size≠l:=fun z=>by obtain⟨o,e,_⟩:=hl;exact absurd (Qy e) (by rw[z];exact Wt _)
 refine⟨⟨_,hS,rfl⟩,F.args_list_init_2 _ _,zXR (A:=A.in1) hh (hit.at fun o e=>Qr _ e) (hl.at fun o e=>Qr _ e) hli n1 n2 hlen hS fun h' tk acc' c' hk hS' hacc=>?_⟩
 exact⟨rfl,hQ h' tk acc' c' (fun b o hb e=>hk b o (Wu (Qy e)) hb (Qr _ e)) hS' hacc⟩
end
theorem zRd {its acc:List Value}(h:ItemsOf (fun i v=>its.toArray[its.toArray.size - 1 - i]?=some v) acc.toArray its.toArray.size):acc=its.reverse:=by
 obtain⟨h1,h2⟩:=h
 simp only[Qs] at h1 h2
 refine List.ext_getElem (by rw[h1,Um]) fun i hi hi'=>?_
 have q:=h2 i acc[i] (by simp[hi])
 rw[List.getElem_reverse]
 simp only[List.getElem?_toArray] at q
 rw[Qu (by omega)] at q
 exact(Wa q).symm
theorem Reps.reverse {K:PySem.W.Frag}{G:Hp}:∀ {ds:List D} {vs:List V},Reps K G ds vs->Reps K G ds.reverse vs.reverse
 | [],_,h=>by rw[yR] at h;subst h;exact yR.mpr rfl
 | d::r,_,h=>by
   obtain⟨v,vr,rfl,h1,h2⟩:=z9.mp h
   rw[Yv,Yv]
   exact h2.reverse.snoc h1
section
variable {X:Cx} {a b c e tg elt iter:Expr} {es:List Expr} {fa fb fc:Ef} {ga gb:Lf} {pos p:Pos}
def zWz (g:Lf):Lf:=fun ρ=>(g ρ).map List.reverse
theorem zYR {p2 pos':Pos}(hc:X.calm=true)(hg:Gl X "list")(hm:X.mg "list"=none)(hg':Gl X "reversed")(hm':X.mg "reversed"=none)(h:zU0 X a ga)(hs:starEach [a] X.env=[(false,eval a X.env)]:=by rfl)
   (hs3:starEach [Expr.Call (.Name "reversed" p2) [a] [] pos'] X.env=[(false,eval (.Call (.Name "reversed" p2) [a] [] pos') X.env)]:=by rfl) :
   PFr X (.Call (.Name "list" p) [.Call (.Name "reversed" p2) [a] [] pos'] [] pos) (zWz ga):=by
 intro pins s σ H Q I q
 obtain⟨G0,H0,G,ρ,es,good,hf,kk⟩:=q
 unfold zWz at hf
 obtain⟨ds,h1,rfl⟩:=Qt.mp hf
 have hA:=yV h yE (by rw[hs];rfl) pos' pins s σ H (fun vs H'=>∃l us G',vs=[.ref l]/\Step G H G' H'/\SqL X.K G' l us/\Reps X.K G' ds us) I
   ⟨G0,H0,G,ρ,_,good,h1,fun l us H1 G1 s1 q1 q2=>⟨l,us,G1,rfl,s1,q1,q2⟩⟩
 refine Call_ (oO I hg hm (by rfl) (Et (rest:=[]) ?_ (by rw[hs3];rfl) (by rfl)))
 rw[hs3]
 refine Ir (Call_ (oO I hg' hm' (by rfl) (Et (thn hA fun us s1 ⟨vs,H1,I1,r1,l,ws,G1,e1,st1,q1,q2⟩=>?_) (by rw[hs];rfl) (by rfl))))
 subst e1
 obtain⟨u,rfl,ru⟩:=pI r1
 cases ru
 obtain⟨its,rv,p1,hz⟩:=I1.list (st1.sub.seq q1)
 have hll:l < s1.heap.objs.size:=by obtain⟨o,e,_⟩:=p1.isList;exact Qy e
 refine call_reversed_list p1.isList ?_
 refine Ig ?_
 have hrev:(s1.heap.push (revObj l ((its.toArray.size:Int) - 1))).IsRevIter s1.heap.objs.size l ((its.toArray.size:Int) - 1):=⟨_,Qa _ rfl,rfl,rfl⟩
 refine zYo (I.ok.hd hc) hrev (p1.isList.at fun o e=>Qr _ e) (Wu hll) (by rw[Qs];exact rv.length ▸ hz) fun h' tk acc c' hk hS hacc=>?_
 have hsz:(s1.heap.push (revObj l ((its.toArray.size:Int) - 1))).objs.size=s1.heap.objs.size+1:=Eg ..
 have hacc':acc.toList=its.reverse:=zRd (acc:=acc.toList) (by simpa using hacc)
 have hT:s1.heap.objs.size<=(s1.heap.push (revObj l ((its.toArray.size:Int) - 1))).objs.size:=by rw[hsz];exact Rm _
 have fr:H1 (s1.heap.push (revObj l ((its.toArray.size:Int) - 1))).objs.size=none:=I1.hok.fresh hT
 have I3:=I1.laid (t':=tk) (h':=h') (a:=(s1.heap.push (revObj l ((its.toArray.size:Int) - 1))).objs.size) (o:=.lst ws.reverse) (fun b o e=>hk b o (Wu (Qy e)) (Qr _ e)) hT
   (show ObjOk X.prog X.w _ h' _ (.lst ws.reverse) from⟨by rw[Um];exact hz,acc.toList,c',by rw[hacc'];exact rv.reverse,hS⟩)
 exact⟨.ref _,_,I3,rfl,kk _ ws.reverse _ G1 (st1.trans (Step.own st1.sub fr)) (st1.hh.free fr) zC (st1.sub.free fr) q2.reverse⟩
theorem sN {st:Stmt}:PFS X st (fun _=>none):=by
 intro pins s σ H D I q
 obtain⟨G0,H0,G,ρ,o,good,hf,k⟩:=q
 cases hf
end
end L2
namespace Att
open PySem PySem.W PySem.Spec PyProof.Rows
end Att
namespace Att
open PySem PySem.W PySem.Calls PyProof.Rows
end Att
namespace L2
open PySem PySem.Spec PyProof.Rows
section
variable {X:Cx} {a b c e:Expr} {fa fb fc:Ef} {pos:Pos}
end
section
variable {X:Cx} {e:Expr} {es:List Expr} {fa:Ef} {p q:List B->Bool} {pos:Pos} {k:Nat}
end
section
variable {X:Cx} {a b c e:Expr} {es:List Expr} {fa:Ef} {pos p:Pos}
end
section
variable {X:Cx} {E:XK} {e:Expr} {es:List Expr} {fa:Ef} {p q:List B->Bool} {pos:Pos} {x:List B->Option Str}
end
section
variable {P:Program} {w:World} {K:PySem.W.Frag} {mg:Str->Option Value} {base:Heap} {N:List Str} {qual:Str} {scope:Scope} {f:Addr} {cd:Value} {A:Around} {outer:List Env} {s₀:Shared} {H₀:Hp} {E:XK}
theorem zLq {X:Cx}:∀e s,¬X.nox.xe e s:=fun _ _ z=>z
end
section
variable {X:Cx} {E:XK} {a e:Expr} {es:List Expr} {ga:Lf} {tt:Tf} {x xa xb:List B->Option Str} {pos p cpos:Pos} {st st':Stmt} {sts rest:List Stmt}
def ExOk (K:PySem.W.Frag)(Y:Addr):List Str->Prop
 | []=>True
 | c::r=>(∃C,ClsAt K c C/\PySem.W.exmOne K (.ref C) (.ref Y)=some true)/\ExOk K Y r
theorem ExOk.at {K:PySem.W.Frag}{Y:Addr}:∀ {cs:List Str} {c:Str},ExOk K Y cs->cs.contains c=true->∃C,ClsAt K c C/\PySem.W.exmOne K (.ref C) (.ref Y)=some true
 | [],c,_,h=>by cases h
 | n::r,c,⟨h1,h2⟩,h=>by
   rw[Rh,En] at h
   rcases h with h | h
   · have e:=Wm.mp h
     subst e
     exact h1
   · exact h2.at h
end
section
variable {P:Program} {w:World} {K:PySem.W.Frag} {mg:Str->Option Value} {base:Heap} {x qual:Str} {st:Stmt} {f:Addr} {fd:FuncData} {N ps:List Str} {k:Nat}
theorem PFSs.nox {X:Cx}{sts:List Stmt}{g:Sf}(h:PFSs X.nox sts g):PFSs X sts g:=fun pins s σ H D I hw =>
 Rq (h pins s σ H D (I.wish _) hw) (fun _ _ q=>q.unwish) fun _ _ z=>False.elim z
end
structure FlyV (h:Heap)(H:Hp)(h0:Heap)(C a:Addr)(od:Option Addr):Prop where
 ob:∃vs v,h.get? a=some { cls:=.ref C,dict:=od,data:=.fields vs,slots:=#[] }/\vs[1]?=some v/\zWm h a v/\∀T,v = .ref T->H T=none/\h0.get? T=none
 tr:H a=some (.ext (Xe C a od))
 new:h0.get? a=none
def CXv (P:Program)(w:World):CXT:=fun outer H s E e s'=>∃C a od H',e = .ref a/\s'.os=s.os/\AllBare s'.gens/\Un (frs outer) [] H H' s.heap s'.heap/\HOk P w H' s'.heap/\FlyV s'.heap H' s.heap C a od/\E (.ref a) none H'
section
variable {P:Program} {w:World} {K:PySem.W.Frag} {mg:Str->Option Value} {base:Heap} {N:List Str} {qual:Str} {scope:Scope} {f:Addr} {cd:Value} {A:Around} {outer:List Env} {s₀ s:Shared} {H₀ H:Hp} {E:XK} {pins:List (Addr×Obj)} {σ:St} {C a:Addr} {od:Option Addr}
theorem zTK {h:Heap}{vs:Array Value}(e:h.get? a=some { cls:=.ref C,dict:=od,data:=.fields vs,slots:=#[] }):ObjOk P w H h a (.ext (Xe C a od)):=by
 exact⟨⟨vs,e⟩,⟨_,e⟩,fun h1 h2 x k=>Xe.mono h1 h2 x k⟩
theorem zQ6 (I:Inv (kO (CXv P w) P w K mg base N qual scope f cd A outer s₀ H₀ E) pins σ H s)(fl:FlyV s.heap H s₀.heap C a od)(hE:E (.ref a) none H) :
   (kO (CXv P w) P w K mg base N qual scope f cd A outer s₀ H₀ E).xe (.ref a) s:=by
 obtain⟨vs,v,ho,hv,hh,hT⟩:=fl.ob
 have hfr:=I.ok.frames
 have hst:=I.stack
 have hfree:=I.stkFree
 show wpAny (model P w) (A.deeper (envOfC qual scope s₀.heap.objs.size f cd)) (leaving (envOfC qual scope s₀.heap.objs.size f cd) (.ref a)) _ _ s
 refine zU5 (base:=base) hfr hst rfl ho hv hh fun h' fw=>?_
 have old:∀b o,s₀.heap.get? b=some o->b≠a/\some (Value.ref b)≠vs[1]?/\b≠s₀.heap.objs.size:=fun b o q=>by
   refine⟨fun z=>?_,fun z=>?_,fun z=>Wt _ (z ▸ Qy q)⟩
   · rw[z,fl.new] at q;cases q
   · rw[hv] at z
     have:=(hT b (Wa z).symm).2
     rw[this] at q;cases q
 have inF:∀b,b∈frs (envOfC qual scope s₀.heap.objs.size f cd::outer)↔b=s₀.heap.objs.size∨b∈frs outer:=fun b=>by
   show b∈List.filterMap (·.frame) (_::outer)↔_
   rw[Yu]
   show b∈s₀.heap.objs.size::frs outer↔_
   exact Qj
 have U:=I.base
 refine⟨C,a,od,H,rfl,I.os,I.bare,⟨fun b o q n hb hx=>?_,fun b o q n hb hx=>?_,fun b o q n hx=>U.free b o q n hx,fun b o q hx=>?_,U.tups,U.frzs,U.tbls⟩,fun b o q=>?_,⟨⟨_,_,fw.obj,by rw[Uh (Ro.mp hv).1],.inr ?_,fun T z=>?_⟩,fl.tr,fl.new⟩,hE⟩
 · obtain⟨n1,n2,n3⟩:=old b o q
   exact fw.keep b o (U.keep b o q n hb hx) n1 (fun z=>((inF b).mp z).elim n3 hb) n2
 · obtain⟨n1,n2,n3⟩:=old b o q
   obtain⟨z,q1⟩:=U.slot b o q n hb hx
   obtain⟨z',q2⟩:=fw.slot b _ q1 n1 ((inF b).mpr (.inr hb)) n2
   exact⟨z',q2⟩
 · obtain⟨n1,n2,n3⟩:=old b o q
   obtain⟨o1,q1⟩:=U.there b o q hx
   by_cases hb:b∈frs (envOfC qual scope s₀.heap.objs.size f cd::outer)
   · obtain⟨z,q2⟩:=fw.slot b o1 q1 n1 hb n2
     exact⟨_,q2⟩
   · exact⟨o1,fw.keep b o1 q1 n1 hb n2⟩
 · by_cases hba:b=a
   · subst hba
     rw[fl.tr] at q
     cases q
     exact zTK fw.obj
   refine(I.hok b o q).stay (fun b' u hb' q'=>?_) (fun _ z=>z) (fun _ _ z=>z)
   have tr:H b'≠none:=by
     rcases hb' with z | z
     · rw[z,q];exact fun y=>nomatch y
     · rw[z];exact fun y=>nomatch y
   refine fw.keep b' u q' (fun z=>?_) (fun z=>tr (hfree b' z)) fun z=>?_
   · rcases hb' with y | y
     · exact hba (y.symm.trans z)
     · rw[z,fl.tr] at y;cases y
   rw[hv] at z
   exact tr (hT b' (Wa z).symm).1
 · obtain⟨oT,ts,h1,h2,h3⟩:=fw.head
   exact⟨_,oT,ts,rfl,fw.ne,h1,h2,h3⟩
 · cases z
   refine⟨I.fresh,?_⟩
   cases y:s₀.heap.get? s.heap.objs.size with
   | none=>rfl
   | some o=>exact absurd (Qy y) (Nat.not_lt.mpr I.sz)
theorem zKt {E':XK}(h:∀(a:Addr) (H:Hp),E' (.ref a) none H->E (.ref a) none H):lN (CXv P w) (kO (CXv P w) P w K mg base N qual scope f cd A outer s₀ H₀ E) E':=by
 intro pins σ H s e s' I hx
 obtain⟨C,a,od,H',rfl,os,bare,un,hok,fl,he⟩:=hx
 have I':Inv (kO (CXv P w) P w K mg base N qual scope f cd A outer s₀ H₀ E) pins σ H' s':=I.call' (ch:=[]) os un hok bare (fun b z=>absurd z (by simp))
 obtain⟨vs,v,ho,hv,hh,hT⟩:=fl.ob
 have back:∀b,s.heap.get? b=none->s₀.heap.get? b=none:=fun b z=>by
   cases y:s₀.heap.get? b with
   | none=>rfl
   | some o =>
     obtain⟨o',q⟩:=I.base.there b o y (fun z=>nomatch (show b∈([]:List Addr) from z))
     rw[z] at q;cases q
 exact zQ6 I' ⟨⟨vs,v,ho,hv,hh,fun T z=>⟨(hT T z).1,back T (hT T z).2⟩⟩,fl.tr,back a fl.new⟩ (h a H' he)
end
def Xn (C a:Addr)(od:Option Addr):Heap->Prop:=fun h=>∃fs,h.get? a=some { cls:=.ref C,dict:=od,data:=.fields fs }/\fs[1]?=some .none
theorem Xn.mono {C a:Addr}{od:Option Addr}(h1 h2:Heap)(x:Xn C a od h1)(k:∀o,h1.get? a=some o->h2.get? a=some o):Xn C a od h2:=by
 obtain⟨f,e,q⟩:=x
 exact⟨f,k _ e,q⟩
section
variable {X:Cx} {a b c e tg elt iter:Expr} {es ifs:List Expr} {fa fb fc:Ef} {ga gb gi:Lf} {ta tc:Tf} {pos p:Pos} {st:Stmt}
def zMY (H:Hp)(a C:Addr)(f:Str)(y:V)(R:Hp->Prop):Option Addr->Prop
 | none=>∀dx,H dx=none->dx≠a->R (upd (upd H dx (.ext (Xd dx [(f,y)]))) a (.ext (Xn C a (some dx))))
 | some dx=>dx≠a/\∃fs,H dx=some (.ext (Xd dx fs))/\fs.length < 1000/\R (upd H dx (.ext (Xd dx (mP f y fs))))
def zJS (K:PySem.W.Frag)(ta tv:TE)(f:Str):TS:=fun D σ H=>tv σ H fun y H1=>ta σ H1 fun x H2=>∃a C od,x = .ref a/\H2 a=some (.ext (Xn C a od))/\XSt K C/\NoAttr K C f/\zMY H2 a C f y (fun H3=>D.nx σ H3) od
theorem zNj {pins:List (Addr×Obj)}{σ:St}{H:Hp}{s:Shared}{a C:Addr}{od:Option Addr}{f:Str}{y:V}{u:Value}{A:Around}{E:Value->Shared->Prop}{R:Hp->Prop}{Q:Unit->Shared->Prop}(I:Inv X pins σ H s)(e:H a=some (.ext (Xn C a od)))(k:XSt X.K C)(n:NoAttr X.K C f)(ry:RelV y u)
   (h:zMY H a C f y R od)
   (hq:∀H' s',Inv X pins σ H' s'->R H'->Q () s'):wpAny (model X.prog X.w) A (setAttr (.ref a) f u) Q E s:=by
 obtain⟨⟨g,h2,hg1⟩,_⟩:=(show ObjOk X.prog X.w H s.heap a (.ext _) from I.hok a _ e)
 obtain⟨nm,q,N,bs,bm,sn,sub,ab,col,dd,k0,k1,k2,k3,k5,hk,hr⟩:=k.ob
 cases od with
 | none =>
   have sz:s.heap.objs.size<=s.heap.objs.size:=Ql _
   have fr:H s.heap.objs.size=none:=I.hok.fresh sz
   have hne:s.heap.objs.size≠a:=(yJ e fr).symm
   have hR:=h _ fr hne
   obtain⟨hh,g',d',t',os'⟩:=s
   refine zS4 I.kIn h2 rfl k.sa k.kit.so fun A'=>zPD I.kIn (I.kIn _ _ hk) hr n h2 rfl (fun c z=>nomatch z) rfl fun h' tk' e1 e2 e3=>⟨h',tk',rfl,rfl,?_⟩
   obtain⟨oD,eD⟩:∃o,h'.get? hh.objs.size=some o:=let ⟨o,_,_,e',_⟩:=e2;⟨o,e'⟩
   have pD:(hh.push oD).get? hh.objs.size=some oD:=Qa hh (Yl.mp eD).2
   have rel:∀f',RelO ([(f,y)].lookup f') (if f'=f then some u else none):=fun f'=>by
     by_cases z:f'=f
     · subst z;rw[Qn rfl,Er,Td];exact ry
     · rw[Wd z,Er,Ei.mpr z];exact True.intro
   have I1:=I.laid (a:=hh.objs.size) (o:=.ext (Xd hh.objs.size [(f,y)])) (h':=hh.push oD) (t':=tk') (fun b v z=>Qr _ z) sz
     ⟨⟨_,e2.at fun o z=>by rw[eD] at z;cases z;exact pD,rel⟩,⟨_,pD⟩,Xd.mono⟩
   have ea:upd H hh.objs.size (.ext (Xd hh.objs.size [(f,y)])) a=some (.ext (Xn C a none)):=by rw[yQ hne.symm];exact e
   have I2:=I1.write (x:=a) (e:=a) (o:=.ext (Xn C a (some hh.objs.size))) (h':=h') (t':=tk') (by rw[ea];exact True.intro) (.inl rfl) (fun b v hb z=>by
     by_cases hs:b=hh.objs.size
     · subst hs
       have z:(hh.push oD).get? hh.objs.size=some v:=z
       rw[pD] at z;cases z;exact eD
     · have z:(hh.push oD).get? b=some v:=z
       refine e3 b v hb ?_
       obtain⟨z1,z2⟩:=Yl.mp z
       have hlt:b < hh.objs.size:=by
         have q:=Qy z
         rw[Eg] at q
         exact Nat.lt_of_le_of_ne (Nat.le_of_lt_succ q) hs
       refine Yl.mpr ⟨?_,z2⟩
       rw[←z1]
       cases hh
       simp[Heap.push,Array.getElem?_push_lt,hlt,Array.getElem?_push,Wu hlt]) ⟨_,e1⟩ ⟨⟨_,e1,hg1⟩,⟨_,e1⟩,Xn.mono⟩
   exact hq _ _ I2 hR
 | some dx =>
   obtain⟨hne,fs,ed,hl,hR⟩:=h
   obtain⟨⟨mA,h3,r⟩,_⟩:=(show ObjOk X.prog X.w H s.heap dx (.ext _) from I.hok dx _ ed)
   have hw:PySem.Within mA (fs.map (·.1)):=fun z hz=>zZc fun q=>hz (RelO.none_of (by rw[←q];exact r z))
   obtain⟨hh,g',d',t',os'⟩:=s
   refine zS4 I.kIn h2 rfl k.sa k.kit.so fun A'=>zND I.kIn (I.kIn _ _ hk) hr n h2 rfl rfl hne h3 hw (by rw[Qo];omega) fun h' tk' e2 e3=>⟨h',tk',rfl,rfl,?_⟩
   obtain⟨oD,eD⟩:∃o,h'.get? dx=some o:=let ⟨o,_,_,e',_⟩:=e2;⟨o,e'⟩
   refine hq _ _ (I.write (x:=dx) (e:=dx) (o:=.ext (Xd dx (mP f y fs))) (h':=h') (t':=tk') (by rw[ed];exact True.intro) (.inl rfl) e3 ⟨_,eD⟩ ⟨⟨_,e2,fun f'=>?_⟩,⟨_,eD⟩,Xd.mono⟩) hR
   rw[jQ]
   by_cases z:f'=f
   · rw[Qn z,Qn z];exact ry
   · rw[Wd z,Wd z];exact r f'
theorem zQo {o value:Expr}{f:Str}{ta tv:TE}{pos':Pos}(ha:PE X o ta)(hv:PE X value tv)(hs:swapsWith value (some (.Attribute o f pos')) pos.line X.env=pure false):PS X (.Assign [.Attribute o f pos'] value pos) (zJS X.K ta tv f):=by
 intro pins s σ H D I h
 refine Ia (thn (hv pins s σ H _ I h) fun u s1 ⟨y,H1,I1,ry,q⟩=>thn (ha pins s1 σ H1 _ I1 q) fun ov s2 ⟨x,H2,I2,rx,a,C,od,ex,ea,c,n,q2⟩=>?_) hs
 subst ex
 obtain rfl:ov=Value.ref a:=rx
 exact zNj (R:=fun H3=>D.nx σ H3) I2 ea c n ry q2 fun H3 s3 I3 q3=>⟨σ,_,I3,q3⟩
def zSa (K:PySem.W.Frag)(C:Addr)(ns:List Str)(g:Lf):TS:=fun DD σ H=>∃(G0 H0 G:Hp) (ρ:List B) (p:Addr) (od:Option Addr) (pre:List Str) (us:List V) (xs ds:List D),
 Good K G0 H0 G H σ ρ/\zY5 ρ/\σ[0]?=some (some (.ref p))/\H p=some (.ext (Xn C p od))/\G p=none/\H0 p=none/\XW H G H0 p od (pre.zip us)/\pre.length=us.length/\(pre++ns).Nodup/\(pre++ns).length<=900/\Reps K G xs us/\g ρ=some ds /\
 ∀H' G' vs od',Step G0 H0 G' H'->H' p=some (.ext (Xn C p od'))->G' p=none->XW H' G' H0 p od' ((pre++ns).zip vs)->Reps K G' (xs++ds) vs->DD.nx σ H'
theorem zPo {C:Addr}:PSs X [] (zSa X.K C [] zR):=by
 intro pins s σ H D I h
 refine zVH pins s σ H D I ?_
 obtain⟨G0,H0,G,ρ,p,od,pre,us,xs,ds,good,now,hs,hp,gp,h0,xw,hl,nd,hz,rs,hg,k⟩:=h
 cases hg
 rw[Wh] at k
 exact k H G us od good.st hp gp xw (by rw[Wh];exact rs)
theorem bO {C:Addr}{f x:Str}{ns:List Str}{g:Lf}{rest:List Stmt}{pos' p1:Pos}(hcl:XSt X.K C)(hn:NoAttr X.K C f)(hself:X.N[0]?=some x)(hvis:Vis X.env.scope x)(he:PF X e fa)(hr:PSs X rest (zSa X.K C ns g))(hd:(x==("__debug__":Str))=false:=by decide)(hcd:(x==("__classdict__":Str))=false:=by decide)
   (hs:swapsWith e (some (.Attribute (.Name x p1) f pos')) pos.line X.env=pure false:=by rfl):PSs X (.Assign [.Attribute (.Name x p1) f pos'] e pos::rest) (zSa X.K C (f::ns) (zY fa g)):=by
 intro pins s σ H D I h
 refine jB (zQo (pK hself hvis hd hcd) he hs) hr pins s σ H D I ?_
 obtain⟨G0,H0,G,ρ,p,od,pre,us,xs,ds,good,now,hself,hp,gp,h0,xw,hl,nd,hz,rs,hg,k⟩:=h
 obtain⟨d,dr,h1,h2,rfl⟩:=bN hg
 have hlp:pre.length < 1000:=by rw[Wr] at hz;omega
 have hnp:f∉pre:=fun z=>(Ye.mp nd).2.2 f z f Qf rfl
 have e1:pre++f::ns=(pre++[f])++ns:=by simp
 refine⟨G0,H0,G,ρ,d,good,h1,fun v H1 G1 s1 r1=>⟨.ref p,hself,p,C,od,rfl,s1.hh _ _ hp,hcl,hn,?_⟩⟩
 have hne:H p≠none:=by rw[hp];exact fun z=>nomatch z
 have gp1:G1 p=none:=(s1.new p hne).trans gp
 have good1:=good.step s1
 have fin:∀H' G' vs od',Step G0 H0 G' H'->H' p=some (.ext (Xn C p od'))->G' p=none->XW H' G' H0 p od' (((pre++[f])++ns).zip vs)->Reps X.K G' ((xs++[d])++dr) vs->D.nx σ H':=fun H' G' vs od' st q1 q2 q3 q4=>by
   refine k H' G' vs od' st q1 q2 (by rw[e1];exact q3) ?_
   rw[show xs++d::dr=(xs++[d])++dr by simp]
   exact q4
 cases od with
 | none =>
   intro dx hdx hdp
   have hg1:G1 dx=none:=good1.sub.free hdx
   have hh0:H0 dx=none:=good1.st.hh.free hdx
   have ez:pre=[]/\us=[]:=by
     have z:pre.zip us=[]:=xw
     cases pre with
     | nil=>cases us with
       | nil=>exact⟨rfl,rfl⟩
       | cons _ _=>cases hl
     | cons _ _=>cases us with
       | nil=>cases hl
       | cons _ _=>cases z
   obtain⟨rfl,rfl⟩:=ez
   refine⟨G0,H0,G1,ρ,p,some dx,[]++[f],[]++[v],xs++[d],dr,(good1.wrX now hg1 hh0).wrX now gp1 h0,now,hself,zC,gp1,h0,⟨by rw[yQ hdp,zC];rfl,hg1,hh0,hdp⟩,rfl,by rw[←e1];exact nd,by rw[←e1];exact hz,(rs.mono s1.gg).snoc r1,h2,fin⟩
 | some dx =>
   obtain⟨x1,x2,x3,x4⟩:=xw
   have hned:H dx≠none:=by rw[x1];exact fun z=>nomatch z
   have gd1:G1 dx=none:=(s1.new dx hned).trans x2
   refine⟨x4,pre.zip us,s1.hh _ _ x1,by rw[List.length_zip];omega,?_⟩
   refine⟨G0,H0,G1,ρ,p,some dx,pre++[f],us++[v],xs++[d],dr,good1.wrX now gd1 x3,now,hself,by rw[yQ x4.symm];exact s1.hh _ _ hp,gp1,h0,⟨by rw[zC,zZx hl hnp],gd1,x3,x4⟩,by rw[Wr,Wr,hl];rfl,by rw[←e1];exact nd,by rw[←e1];exact hz,(rs.mono s1.gg).snoc r1,h2,fin⟩
end
def spN (K:PySem.W.Frag)(C:Addr)(ns:List Str)(n:Nat)(f:List D->Option (List D)):Sp:=fun vs H Q _=>∃(p:Addr) (rest:List V) (G H0:Hp) (ds xs:List D),vs = .ref p::rest/\H=upd H0 p (.ext (Xn C p none))/\H0 p=none/\Same G H0/\Reps K G ds rest/\ds.length=n/\f ds=some xs /\
 ∀H' G' us od',Step G H0 G' H'->H' p=some (.ext (Xn C p od'))->G' p=none->XW H' G' H0 p od' (ns.zip us)->Reps K G' xs us->Q .non H'
section
variable {P:Program} {w:World} {K:PySem.W.Frag} {mg:Str->Option Value} {base:Heap} {x qual:Str} {st:Stmt} {f C:Addr} {fd:FuncData} {N ps ns:List Str} {k:Nat} {sf:Str}
theorem zPe {g:Lf}(F:Fun K x qual st f fd)(S:FnScope N (sf::ps) (zV st))(hnd:ns.Nodup)(hlen:ns.length<=900)
   (hb:∀(cdv:Value) (A:Around) (outer:List Env) (s:Shared) (H:Hp) (E:XK),Room k (A.deeper (envOfC qual (zV st) s.heap.objs.size f cdv))->PSs (kO CX0 P w K mg base N qual (zV st) f cdv A outer s H E).nox (zK st) (zSa K C ns g)) :
   FnOk P w K mg base CX0 (k+1) f fd (sf::ps) (spN K C ns ps.length fun ds=>g (lR N.length ds)):=by
 refine F.ok S (fun vs H Q E h=>?_) (fun cdv A outer s H vs Q E hr h=>⟨_,hb cdv A outer s H E hr,?_⟩)
 · obtain⟨p,rest,G,H0,ds,xs,rfl,_,_,_,rs,hl,_⟩:=h
   rw[Qp,Qp,←rs.length,hl]
 · obtain⟨p,rest,G,H0,ds,xs,rfl,rfl,h1,sub,rs,hl,hf,k⟩:=h
   have st2:Step G H0 G (upd H0 p (.ext (Xn C p none))):=Step.own sub h1
   have good:Good K G H0 G (upd H0 p (.ext (Xn C p none))) (oE N (.ref p::rest)) (lR N.length ds):=by
     refine⟨st2,?_,fun i j a es es' q1=>absurd q1 ((zZJ _ ds).1 i es)⟩
     unfold oE lR
     rw[Qg,Qp,Th,←rs.length]
     exact .cons .no (bV _ rs)
   refine⟨G,H0,G,_,p,none,[],[],[],xs,good,zZJ _ ds,rfl,zC,sub.free h1,h1,rfl,rfl,hnd,hlen,yR.mpr rfl,hf,fun H' G' us od' s' q1 q2 q3 q4=>k H' G' us od' s' q1 q2 q3 q4⟩
end
section
variable {X:Cx}
theorem zRr {CX:CXT}{k:Nat}{f C:Addr}{fd:FuncData}{ps:List Str}{sp:Sp}{E:XK}{pins:List (Addr×Obj)}{σ:St}{H:Hp}{s:Shared}{Q:VK}{us:List Value}{vs:List V}(M:XMk X.K C f)(F:FnOk X.prog X.w X.K X.mg X.base CX k f fd ps sp)(hr:Room (k+1) X.A)(hb:Binds X.K fd ps [])
   (hx:lN CX X E) (I:Inv X pins σ H s) (r:Vals vs us) (hlen:vs.length<=1000)
   (h:∀x,H x=none->s.heap.get? x=none->sp (.ref x::vs) (upd H x (.ext (Xn C x none))) (fun v H2=>v = .non/\Q (.ref x) H2) E) :
   wpAny (model X.prog X.w) X.A (call (.ref C) us) (EP X pins σ Q) X.xe s:=by
 have nw:s.heap.get? (s.heap.objs.size+1)=none:=by
   cases y:s.heap.get? (s.heap.objs.size+1) with
   | none=>rfl
   | some o=>exact absurd (Qy y) (Nat.not_lt.mpr (Rm _))
 have hq:=h (s.heap.objs.size+1) (I.hok.fresh (Rm _)) nw
 obtain⟨nm,q,N,bs,bm,sn,sub,ab,col,dd,k0,k1,k2,k3,k5,hk,hrf⟩:=M.ob
 obtain⟨oI,hoI,hfc⟩:=zQ4 I.kIn M.fn
 have hsl:1001<=sizeLine:=Wj (wD (by decide))
 have hl0:=r.length
 have I2:Inv X pins σ (upd H (s.heap.objs.size+1) (.ext (Xn C (s.heap.objs.size+1) none))) { s with heap:=(s.heap.push { cls:=.type "tuple",data:=.seq us.toArray }).push { cls:=.ref C,data:=.fields #[.ref s.heap.objs.size,.none,.none,.none,.bool false,.none] } }:=by
   have e2:((s.heap.push { cls:=.type "tuple",data:=.seq us.toArray }).push { cls:=.ref C,data:=.fields #[.ref s.heap.objs.size,.none,.none,.none,.bool false,.none] }).get? (s.heap.objs.size+1)=some { cls:=.ref C,data:=.fields #[.ref s.heap.objs.size,.none,.none,.none,.bool false,.none] }:=by
     have:=Qa (s.heap.push { cls:=.type "tuple",data:=.seq us.toArray }) (o:={ cls:=.ref C,data:=.fields #[.ref s.heap.objs.size,.none,.none,.none,.bool false,.none] }) rfl
     rwa[Eg] at this
   exact I.laid (t':=s.toks) (fun b u z=>Qr _ (Qr _ z)) (Rm _) ⟨⟨_,e2,rfl⟩,⟨_,e2⟩,Xn.mono⟩
 have r2:Vals (V.ref (s.heap.objs.size+1)::vs) (Value.ref (s.heap.objs.size+1)::us):=.cons rfl r
 have hl:(Value.ref (s.heap.objs.size+1)::us++[]).length=ps.length:=by
   rw[Wh,←r2.length,F.len _ _ _ _ hq]
 have hbt:=hb _ (Value.ref (s.heap.objs.size+1)::us) I2.kIn hl
 rw[Wh] at hbt
 have hb1:bm.contains (.type "ValueError")=true:=by rw[sI _ (fun a z=>by cases z) hrf];decide
 have hb2:bm.contains (.type "AttributeError")=false:=by rw[sI _ (fun a z=>by cases z) hrf];decide
 have hb3:bm.contains (.type "NameError")=false:=by rw[sI _ (fun a z=>by cases z) hrf];decide
 have run:=F.run _ X.stack _ _ ⟨Value.ref (s.heap.objs.size+1)::us,[]⟩ (Value.ref (s.heap.objs.size+1)::us) _ _ E (hr.make C us []) (I2.env0.make C us []) hbt r2 hq
 have fin:wpAny (model X.prog X.w) (X.A.under (.builtin "type.__call__" ⟨.ref C::us,[]⟩)) (call (.ref f) (.ref (s.heap.objs.size+1)::us)) (fun r s'=>r = .none/\EP X pins σ Q (.ref (s.heap.objs.size+1)) s') X.xe { s with heap:=(s.heap.push { cls:=.type "tuple",data:=.seq us.toArray }).push { cls:=.ref C,data:=.fields #[.ref s.heap.objs.size,.none,.none,.none,.bool false,.none] } }:=by
   refine Ul (Yh run fun r s' hq'=>?_)
   cases r with
   | error e=>exact hx pins σ _ _ e s' I2 hq'
   | ok fl =>
     cases fl with
     | ret u =>
       obtain⟨v,H',I3,rv,ev,q3⟩:=I2.after hq'
       subst ev
       exact⟨rv,⟨V.ref (s.heap.objs.size+1),H',I3,rfl,q3⟩⟩
     | next=>exact False.elim hq'
     | brk=>exact False.elim hq'
     | cont=>exact False.elim hq'
 obtain⟨hh,g',d',t',os'⟩:=s
 exact zOy I.kIn (I.kIn _ _ hk) hb1 hb2 hb3 M.init hoI hfc (by omega) fin
end
theorem Step.wrV {G H G' H':Hp}{p:Addr}{o:HO}(s:Step G H G' H')(hp:H p=none)(g':G' p=none):Step G H G' (upd H' p o) :=
 ⟨fun b u e=>by rw[yQ (yJ e hp)];exact s.hh b u e,s.gg,fun b u e=>by rw[yQ (yJ e g')];exact s.sub b u e,s.new⟩
def zSn (X:Cx)(E:XK):Prop:=∀(pins:List (Addr×Obj)) (σ:St) (H:Hp) (s:Shared) (C a:Addr) (od:Option Addr),Inv X pins σ H s->FlyV s.heap H X.s₀.heap C a od->E (.ref a) none H->X.xe (.ref a) s
section
variable {P:Program} {w:World} {K:PySem.W.Frag} {mg:Str->Option Value} {base:Heap} {N:List Str} {qual:Str} {scope:Scope} {f:Addr} {cd:Value} {A:Around} {outer:List Env} {s₀:Shared} {H₀:Hp} {E:XK}
theorem zOv:zSn (kO (CXv P w) P w K mg base N qual scope f cd A outer s₀ H₀ E) E:=fun pins σ H s C a od I fl hE=>zQ6 I fl hE
theorem zOr:lN (CXv P w) (kO (CXv P w) P w K mg base N qual scope f cd A outer s₀ H₀ E) E:=zKt fun _ _ h=>h
end
section
variable {M:Model} {A:Around} {E:Value->Shared->Prop} {s:Shared} {env:Env} {nm q:Str} {C N:Addr} {bs bm:List Value} {hdct:Bool} {sn:List Str} {sub:List Value} {ab:Bool} {col:Option Bool} {dd:Option Addr} {k0 k1 k2 k3 k5:Option Value} {newId:String}
theorem zRk {x:Sem Value}{Q:Flow->Shared->Prop}(hbase:bm.contains (.type "BaseException")=true)(hh:A.handled=none)
   (h:wpAny M A x (fun v s₁=>∃e od fs,v = .ref e/\s₁.heap.get? C=some (excClassObj nm q C N bs bm hdct sn sub ab col dd k0 k1 k2 k3 k5 newId) /\
     s₁.heap.get? e=some { cls:=.ref C,dict:=od,data:=.fields fs }/\fs[1]?=some .none/\E (.ref e) s₁) E s) :
   wpAny M A (raiseStmt env (some x) none) Q E s:=by
 have hcB:(Value.ref C::bm).contains (.type "BaseException")=true:=by rw[Rh,hbase,Bool.or_true]
 unfold raiseStmt
 refine Qw (Rq h (fun v s₁ h₁=>?_) fun _ _ x=>x)
 obtain⟨e,od,fs,rfl,hC,he,hf,hE⟩:=h₁
 obtain⟨hp,g,d,tk,os⟩:=s₁
 repeat (first | with_reducible refine Wn he rfl hf ?_ | with_reducible refine Ww he ?_ | with_reducible refine Ww hC ?_ | (with_reducible refine Yd hC ?_;rw[hcB]) | wp_step)
 exact wpAny_raiseNew_none hh hE
end
def tVS (K:PySem.W.Frag)(E:XK)(x:Ef):TS:=fun _ σ H=>∃G0 H0 G ρ t,Good K G0 H0 G H σ ρ/\x ρ=some t/\∀a H' G',Step G0 H0 G' H'->Rep K G' t (.ref a)->E (.ref a) none H'
def PVS (X:Cx)(E:XK)(st:Stmt)(x:Ef):Prop:=PS X st (tVS X.K E x)
def zSS (X:Cx)(E:XK)(sts:List Stmt)(x:Ef):Prop:=PSs X sts (tVS X.K E x)
def tVE (K:PySem.W.Frag)(E:XK)(x:Ef):TE:=fun σ H _=>∃G0 H0 G ρ t,Good K G0 H0 G H σ ρ/\x ρ=some t/\∀a H' G',Step G0 H0 G' H'->Rep K G' t (.ref a)->E (.ref a) none H'
def PVE (X:Cx)(E:XK)(e:Expr)(x:Ef):Prop:=PE X e (tVE X.K E x)
def spV (K:PySem.W.Frag)(n:Nat)(d:List D->Option D)(x:List D->Option D):Sp:=fun vs H Q E=>∃G ds,Same G H/\Reps K G ds vs/\ds.length=n /\
 ((∃r,d ds=some r/\∀v H' G',Step G H G' H'->Rep K G' r v->Q v H')∨∃t,x ds=some t/\∀a H' G',Step G H G' H'->Rep K G' t (.ref a)->E (.ref a) none H')
def zZz:Ef:=fun _=>none
def vIf (tt:Tf)(xa xb:Ef):Ef:=fun ρ=>(tt ρ).bind fun c=>if c=true then xa ρ else xb ρ
def zYj (x:Ef)(f:Sf)(y:Ef):Ef:=fun ρ=>match x ρ with
 | some t=>some t
 | none=>(f ρ).bind fun o=>match o with | .nx ρ'=>y ρ' | _=>none
def fnV (n:Nat)(x:Ef):List D->Option D:=fun ds=>x (rC n ds)
section
variable {X:Cx} {E:XK} {a b e:Expr} {es:List Expr} {ga:Lf} {tt:Tf} {f:Sf} {x y xa xb:Ef} {pos p cpos:Pos} {st:Stmt} {sts rest:List Stmt}
theorem zPn {k n:Nat}{C fI:Addr}{fd:FuncData}{ps ns:List Str}{c:Str}{f:List D->Option (List D)}(hC:ClsAt X.K c C)(M:XMk X.K C fI)(F:FnOk X.prog X.w X.K X.mg X.base CX0 k fI fd ps (spN X.K C ns n f))(hx:X.ex=[])(hr:Room (k+1) X.A)(hm:X.mg c=some (.ref C))(hb:Binds X.K fd ps [])(hg:Gl X c)(hc:X.calm=true)(th:zSn X E)(ha:PFA X (e::es) ga)
   (hdb:(c==("__debug__":Str))=false:=by decide) (he:starEach (e::es) X.env=(false,eval e X.env)::starEach es X.env:=by rfl) (hpl:(backTo cpos (starEach es X.env)).any (·.1)=false:=by rfl) :
   PVS X E (.Raise (some (.Call (.Name c p) (e::es) [] cpos)) none pos) (zTl c ns n f ga):=by
 intro pins s σ H D I h
 obtain⟨G0,H0,G,ρ,t,good,hf,kk⟩:=h
 unfold zTl at hf
 obtain⟨ds,h1,hf⟩:=Qq.mp hf
 split at hf
 · rename_i hl
   obtain⟨hl,hn1⟩:=hl
   obtain⟨xs,h2,hf⟩:=Qq.mp hf
   split at hf
   · rename_i hn
     cases hf
     obtain⟨nm,q,N,bs,bm,sn,sub,ab,col,dd,k0,k1,k2,k3,k5,hk,hrf⟩:=M.ob
     have hb1:bm.contains (.type "BaseException")=true:=by rw[sI _ (fun a z=>by cases z) hrf];decide
     rw[arm_exec_Raise]
     refine Qw (Yn (zRk (C:=C) (nm:=nm) (q:=q) (N:=N) (bs:=bs) (bm:=bm) (hdct:=true) (sn:=sn) (sub:=sub) (ab:=ab) (col:=col) (dd:=dd) (k0:=k0) (k1:=k1) (k2:=k2) (k3:=k3) (k5:=k5) (newId:="ValueError.__new__") hb1 (I.ok.hd hc) ?_))
     refine Qw (thn ?_ fun v s1 q=>Qw (Yn (Qi q)))
     refine Ra (iP I hg hm ?_ hdb)
     refine Yj (h₀:=X.base) I.ok.mod.kin M.kp (thn (ha cpos pins s σ H (fun vs H1=>∃G1,Step G H G1 H1/\Reps X.K G1 ds vs) I ⟨G0,H0,G,ρ,ds,good,h1,fun vs H1 G1 s1 r1=>⟨G1,s1,r1⟩⟩) fun us s1 ⟨vs,H1,I1,r,G1,st1,r1⟩=>⟨I1.kIn,?_⟩) he hpl
     rw[Eb]
     refine thn (zRr (E:=E0) (Q:=fun v H2=>∃x G' us od',v = .ref x/\H1 x=none/\s1.heap.get? x=none/\Step G1 H1 G' H2/\H2 x=some (.ext (Xn C x od'))/\G' x=none/\XW H2 G' H1 x od' (ns.zip us)/\Reps X.K G' xs us) M F hr hb zS6 I1 r (by rw[←r1.length];omega) fun x hx nw=>⟨x,vs,G1,H1,ds,xs,rfl,rfl,hx,st1.sub,r1,hl,h2,fun H' G' us od' s' q1 q2 q3 q4=>⟨rfl,x,G',us,od',rfl,hx,nw,s',q1,q2,q3,q4⟩⟩) fun v s2 ⟨v',H2,I2,rv,x,G',us',od',ev,hx1,nw,s',q1,q2,q3,q4⟩=>?_
     subst ev
     obtain rfl:v=Value.ref x:=rv
     obtain⟨⟨fs,e,hf1⟩,_⟩:=(show ObjOk X.prog X.w H2 s2.heap x (.ext _) from I2.hok x _ q1)
     have I3:Inv X pins σ (upd H2 x (.ext (Xe C x od'))) s2:=I2.write (x:=x) (e:=x) (o:=.ext (Xe C x od')) (h':=s2.heap) (t':=s2.toks) (by rw[q1];exact True.intro) (.inl rfl) (fun b u _ z=>z) ⟨_,e⟩ (zTK e)
     refine⟨x,od',fs,rfl,I2.kIn _ _ hk,e,hf1,th pins σ _ s2 C x od' I3 ⟨⟨fs,_,e,hf1,.inl rfl,fun T z=>nomatch z⟩,zC,?_⟩ ?_⟩
     · cases z:X.s₀.heap.get? x with
       | none=>rfl
       | some o =>
         obtain⟨u,y⟩:=I1.base.there x o z (by rw[hx];simp)
         rw[nw] at y;cases y
     · have sw:Step G1 H1 G' (upd H2 x (.ext (Xe C x od'))):=s'.wrV hx1 q2
       cases od' with
       | none =>
         exact kk _ _ _ (good.st.trans (st1.trans (sw.frz hx1 zC q2))) (lF.mpr ⟨C,x,none,us',hC,rfl,zC,q3,hn,q4.mono (Same.new q2)⟩)
       | some dx =>
         obtain⟨y1,y2,y3,y4⟩:=q3
         have sa:=sw.frz y3 ((yQ y4).trans y1) y2
         have gx:upd G' dx (.ext (Xd dx (ns.zip us'))) x=none:=by rw[yQ y4.symm];exact q2
         have sb:=sa.frz hx1 zC gx
         refine kk _ _ _ (good.st.trans (st1.trans sb)) (lF.mpr ⟨C,x,some dx,us',hC,rfl,zC,?_,hn,(q4.mono (Same.new y2)).mono (Same.new gx)⟩)
         show upd (upd G' dx _) x _ dx=_
         rw[yQ y4,zC]
   · cases hf
 · cases hf
theorem zK0 (ht:PFT X a tt)(h1:zSS X E sts xa)(h2:zSS X E rest xb):PVS X E (.If a sts rest pos) (vIf tt xa xb):=by
 intro pins s σ H D I h
 obtain⟨G0,H0,G,ρ,t,good,hq,k⟩:=h
 obtain⟨v,hv,hq⟩:=Qq.mp hq
 refine zMH ht h1 h2 pins s σ H D I ⟨G0,H0,G,ρ,v,good,hv,fun H1 G1 st=>?_⟩
 cases v with
 | true =>
   rw[Qn rfl] at hq
   exact⟨G0,H0,G1,ρ,t,good.step st,hq,k⟩
 | false =>
   rw[Wd (by decide)] at hq
   exact⟨G0,H0,G1,ρ,t,good.step st,hq,k⟩
theorem zXx:PVS X E st zZz:=fun pins s σ H D I h=>by
 obtain⟨_,_,_,_,_,_,z,_⟩:=h;cases z
theorem zWh (h:PVS X E st x):zSS X E (st::rest) x:=by
 intro pins s σ H D I q
 refine jB (u:=fun _ _ _=>False) h (fun pins s σ H D I z=>z.elim) pins s σ H D I ?_
 exact q
theorem cE (h1:PVS X E st x)(hf:PFS X st f)(h2:zSS X E rest y):zSS X E (st::rest) (zYj x f y):=by
 intro pins s σ H D I q
 obtain⟨G0,H0,G,ρ,t,good,hq,k⟩:=q
 unfold zYj at hq
 split at hq
 · rename_i t' hx
   cases hq
   exact zWh h1 pins s σ H D I ⟨G0,H0,G,ρ,t,good,hx,k⟩
 · obtain⟨o,ho,hq⟩:=Qq.mp hq
   split at hq
   · rename_i ρ'
     exact jB hf h2 pins s σ H D I ⟨G0,H0,G,ρ,.nx ρ',good,ho,fun σ' H' G' sg g'=>⟨G0,H0,G',ρ',t,g',hq,k⟩⟩
   · cases hq
theorem zLR (h:PVE X E e x):PVS X E (.Return (some e) pos) x:=fun pins s σ H D I q=>zWD h pins s σ H D I q
theorem zOi {k n:Nat}{fad:Addr}{fd:FuncData}{ps:List Str}{y:Str}{d xf:List D->Option D}(F:FnOk X.prog X.w X.K X.mg X.base (CXv X.prog X.w) k fad fd ps (spV X.K n d xf))(hp:lN (CXv X.prog X.w) X E)(hr:Room k X.A)(hm:X.mg y=some (.ref fad))(hk:PySem.W.keepIn X.K (.ref fad)=true)(hb:Binds X.K fd ps [])(hg:Gl X y)
   (ha:PFA X (e::es) ga) (hdb:(y==("__debug__":Str))=false:=by decide) (he:starEach (e::es) X.env=(false,eval e X.env)::starEach es X.env:=by rfl) (hpl:(backTo pos (starEach es X.env)).any (·.1)=false:=by rfl) :
   PVE X E (.Call (.Name y p) (e::es) [] pos) (zM n xf ga):=by
 intro pins s σ H Q I h
 obtain⟨G0,H0,G,ρ,t,good,hq,k⟩:=h
 unfold zM at hq
 obtain⟨ds,h1,hq⟩:=Qq.mp hq
 split at hq
 · rename_i hl
   refine zZP (E:=E) F hr hg hm hk hb .nil hp ha hdb he hpl pins s σ H Q I ⟨G0,H0,G,ρ,_,good,h1,fun vs H1 G1 s1 r1=>?_⟩
   show spV X.K n d xf (vs++[]) H1 Q E
   rw[Wh]
   exact⟨G1,ds,s1.sub,r1,hl,.inr ⟨t,hq,fun a H' G' st r=>k a H' G' (good.st.trans (s1.trans st)) r⟩⟩
 · cases hq
theorem zZd {k n:Nat}{fad:Addr}{fd:FuncData}{ps:List Str}{y:Str}{d xf:List D->Option D}(F:FnOk X.prog X.w X.K X.mg X.base (CXv X.prog X.w) k fad fd ps (spV X.K n d xf))(hr:Room k X.A)(hm:X.mg y=some (.ref fad))(hk:PySem.W.keepIn X.K (.ref fad)=true)(hb:Binds X.K fd ps [])(hg:Gl X y)
   (ha:PFA X (e::es) ga) (hdb:(y==("__debug__":Str))=false:=by decide) (he:starEach (e::es) X.env=(false,eval e X.env)::starEach es X.env:=by rfl) (hpl:(backTo pos (starEach es X.env)).any (·.1)=false:=by rfl) :
   PF X (.Call (.Name y p) (e::es) [] pos) (zM n d ga):=by
 refine PE.to (zZP (E:=E0) F hr hg hm hk hb .nil (fun pins σ H s e s' I h=>by obtain⟨_,_,_,_,_,_,_,_,_,_,z⟩:=h;exact z.elim) ha hdb he hpl) ?_
 rintro σ H Q ⟨G0,H0,G,ρ,r,good,hf,k⟩
 unfold zM at hf
 obtain⟨ds,h1,hf⟩:=Qq.mp hf
 split at hf
 · rename_i hl
   refine⟨G0,H0,G,ρ,_,good,h1,fun vs H1 G1 s1 r1=>?_⟩
   show spV X.K n d xf (vs++[]) H1 Q E0
   rw[Wh]
   exact⟨G1,ds,s1.sub,r1,hl,.inl ⟨r,hf,fun v H' G' st rr=>k v H' G' (s1.trans st) rr⟩⟩
 · cases hf
end
section
variable {P:Program} {w:World} {K:PySem.W.Frag} {mg:Str->Option Value} {base:Heap} {x qual:Str} {st:Stmt} {f:Addr} {fd:FuncData} {N ps:List Str} {k:Nat}
theorem zP1 {body:Sf}{xb:Ef}(F:Fun K x qual st f fd)(S:FnScope N ps (zV st))
   (hb:∀(cdv:Value) (A:Around) (outer:List Env) (s:Shared) (H:Hp) (E:XK),Room k (A.deeper (envOfC qual (zV st) s.heap.objs.size f cdv))->PFSs (kO (CXv P w) P w K mg base N qual (zV st) f cdv A outer s H E).nox (zK st) body)
   (hx:∀(cdv:Value) (A:Around) (outer:List Env) (s:Shared) (H:Hp) (E:XK),Room k (A.deeper (envOfC qual (zV st) s.heap.objs.size f cdv))->zSS (kO (CXv P w) P w K mg base N qual (zV st) f cdv A outer s H E) E (zK st) xb) :
   FnOk P w K mg base (CXv P w) (k+1) f fd ps (spV K ps.length (fnF N.length body) (fnV N.length xb)):=by
 obtain⟨oc,od,kV,doc,pm,an,cdv,ct,osl,rfl,lk,hcd⟩:=F.ex
 refine zML lk hcd S (fun vs H Q E h=>?_) fun A outer s H vs Q E hr h=>?_
 · obtain⟨G,ds,sub,rs,hl,_⟩:=h
   rw[←rs.length];exact hl
 · obtain⟨G,ds,sub,rs,hl,h | ⟨t,hc,k⟩⟩:=h
   · obtain⟨d,hf,k⟩:=h
     refine⟨_,(hb cdv A outer s H E hr).nox,?_⟩
     unfold fnF at hf
     obtain⟨o,h1,h2⟩:=Qq.mp hf
     refine⟨G,H,G,_,o,lT sub rs,h1,?_⟩
     cases o with
     | nx ρ=>cases h2;exact fun σ' H' G' s' g'=>k .non H' G' g'.st (vD.mpr rfl)
     | rt e=>cases h2;exact fun v H' G' s' r=>k v H' G' s' r
     | rl es=>cases h2;exact fun p us H' G' s' hn hp gp r=>k _ H' (upd G' p (.lst us)) (s'.frz hn hp gp) (xH.mpr ⟨p,us,rfl,.of zC,r.mono (Same.new gp)⟩)
     | bk ρ=>cases h2
     | ct ρ=>cases h2
   · exact⟨_,hx cdv A outer s H E hr,⟨G,H,G,_,t,lT sub rs,hc,k⟩⟩
end
section
variable {X:Cx} {pins:List (Addr×Obj)} {σ:St}
theorem Inv.caughtV {H2 H':Hp}{s2 s':Shared}{g:Heap}{C a:Addr}{od:Option Addr}{t':Nat}(I2:Inv X pins σ H2 s2)(os:s'.os=s2.os)(bare:AllBare s'.gens)(un:Un (frs X.stack) [] H2 H' s2.heap s'.heap)(hok:HOk X.prog X.w H' s'.heap)(fa:H' a=some (.ext (Xe C a od)))(na:s2.heap.get? a=none)
   (k1:∀b o,s'.heap.get? b=some o->b≠a->(H' b≠none∨∃o',s2.heap.get? b=some o')->b∉frs X.stack->g.get? b=some o) (k2:∀b o,s'.heap.get? b=some o->(∃o',s2.heap.get? b=some o')->b∈frs X.stack->∃z,g.get? b=some { o with slots:=z })
   (oa:∃fs,g.get? a=some { cls:=.ref C,dict:=od,data:=.fields fs }):Inv X pins σ H' { s' with heap:=g,toks:=t' }:=by
 have I':Inv X pins σ H' s':=I2.call' (ch:=[]) os un hok bare (fun b z=>nomatch z)
 have nea:∀b o,s2.heap.get? b=some o->b≠a:=fun b o q z=>by rw[z,na] at q;cases q
 refine I2.call' (s':={ s' with heap:=g,toks:=t' }) (ch:=[]) os ⟨fun b o q n hb hx=>k1 b o (un.keep b o q n hb hx) (nea b o q) (.inr ⟨o,q⟩) hb,fun b o q n hb hx=>?_,un.free,fun b o q hx=>?_,un.tups,un.frzs,un.tbls⟩ (fun b o q=>?_) bare (fun b z=>nomatch z)
 · obtain⟨z,y⟩:=un.slot b o q n hb hx
   obtain⟨z',y'⟩:=k2 b _ y ⟨o,q⟩ hb
   exact⟨z',y'⟩
 · obtain⟨o1,y⟩:=un.there b o q hx
   by_cases hb:b∈frs X.stack
   · obtain⟨z,y'⟩:=k2 b o1 y ⟨o,q⟩ hb
     exact⟨_,y'⟩
   · exact⟨o1,k1 b o1 y (nea b o q) (.inr ⟨o,q⟩) hb⟩
 · by_cases hb:b=a
   · subst hb
     rw[fa] at q
     cases q
     obtain⟨fs,e⟩:=oa
     exact zTK e
   · have fr:=I'.stkFree
     refine(hok b o q).stay (fun b' u hb' q'=>?_) (fun _ z=>z) (fun _ _ z=>z)
     have tr:H' b'≠none:=by
       rcases hb' with z | z
       · rw[z,q];exact fun y=>nomatch y
       · rw[z];exact fun y=>nomatch y
     refine k1 b' u q' (fun z=>?_) (.inl tr) fun z=>tr (fr b' z)
     rcases hb' with y | y
     · exact hb (y.symm.trans z)
     · rw[z,fa] at y;cases y
theorem zRN {H2 H':Hp}{s2 s':Shared}{C a Y:Addr}{od:Option Addr}{D:Ends}{i:Nat}{n y:Str}{yp hp:Pos}{b₀:Stmt}{suite:List Stmt}{t:TS}(I2:Inv X pins σ H2 s2)(os:s'.os=s2.os)(bare:AllBare s'.gens)(un:Un (frs X.stack) [] H2 H' s2.heap s'.heap)(hok:HOk X.prog X.w H' s'.heap)
   (fl:FlyV s'.heap H' s2.heap C a od) (hst:X.stack=X.env::X.outer) (hef:X.env.frame=some X.env.locals) (hg:Gl X y) (hm:X.mg y=some (.ref Y)) (hdb:(y==("__debug__":Str))=false) (hx:PySem.W.exmOne X.K (.ref C) (.ref Y)=some true)
   (hN:X.N.Nodup) (hi:X.N[i]?=some n) (hk:X.env.kindOf n=some .local) (hl:Loc X.env.scope n) (hf:X.fn n=true∨X.env.scope.names.lookup n=some .local)
   (hs:PSs (X.marked a fun _ _=>False) (b₀::suite) t) (ht:t { nx:=fun σ' H''=>D.nx (σ'.set i none) H'',rt:=fun _ _=>False } (σ.set i (some (.ref a))) H') :
   wpAny (model X.prog X.w) X.A (noteFrame (.ref a) X.env) (fun _ s3=>wpAny (model X.prog X.w) X.A (setFlight (.ref a) none) (fun _ s4=>wpAny (model X.prog X.w) X.A (handleBy (.ref a) X.env [.ExceptHandler (some (.Name y yp)) (some n) (b₀::suite) hp]) (SP X pins D) X.xe s4) X.xe s3) X.xe s':=by
 have I':Inv X pins σ H' s':=I2.call' (ch:=[]) os un hok bare (fun b z=>nomatch z)
 obtain⟨vs,v,ho,hv,hh,hT⟩:=fl.ob
 have hfr:X.A.frames=some (X.env::X.outer):=by rw[←hst];exact I2.ok.frames
 have hfun:s'.heap.FunFrames X.base (X.env::X.outer):=by rw[←hst];exact I'.stack
 refine zZq (base:=X.base) hfr hfun hef ho hv hh fun h3 fw=>?_
 rw[←hst] at fw
 have old:∀b o',s2.heap.get? b=some o'->b≠a/\some (Value.ref b)≠vs[1]?:=fun b o' q=>by
   refine⟨fun z=>?_,fun z=>?_⟩
   · rw[z,fl.new] at q;cases q
   · rw[hv] at z
     have:=(hT b (Wa z).symm).2
     rw[this] at q;cases q
 have J:∀tk,Inv X pins σ H' { s' with heap:=h3,toks:=tk }:=fun tk=>I2.caughtV os bare un hok fl.tr fl.new (fun b o q ne hb hn=>by
     rcases hb with z | ⟨o',z⟩
     · refine fw.keep b o q ne hn fun e=>z ?_
       rw[hv] at e
       exact(hT b (Wa e).symm).1
     · exact fw.keep b o q (old b o' z).1 hn (old b o' z).2) (fun b o q ⟨o',z⟩ hb=>fw.slot b o q (old b o' z).1 hb (old b o' z).2) ⟨_,fw.obj⟩
 have J:=J s'.toks
 have hsz:1 < vs.size:=(Ro.mp hv).1
 obtain⟨oT,ts,hT1,hT2,hT3⟩:=fw.head
 have cls:PySem.W.Looks (model X.prog X.w) h3 (typeOf (.ref a)) (.ref C):=(PySem.W.Looks.ld fw.obj).andThen .now
 refine wpAny_handleBy_cons (codeAny_handlers_test ?_) (by intro q;cases q)
 refine iP (X:=X.marked a fun _ _=>False) (J.marked a _) hg hm ?_ hdb
 have kx:X.K.In h3:=J.kIn
 refine(PySem.W.exm_one kx cls hx) (X.A.mark (some (.ref a))) _ _ _ (fun _ _ q=>q) ?_
 show codeAny _ _ _ _ _
 refine codeAny_handlers_suite_as ?_
 refine zUM fw.obj rfl (by rw[Uh hsz]) hT1 hT2 hT3 fun h4 k4=>?_
 have J4:Inv X pins σ H' { s' with heap:=h4 }:=J.kept (t':=s'.toks) k4
 refine zYK J4 hN hi hl (v:=.ref a) rfl (fun s6 I6=>?_) hf
 refine Rq (hs pins s6 _ _ _ (I6.marked a _) ht) (fun f s7 h7=>?_) fun _ _ z=>z.elim
 cases f with
 | next =>
   obtain⟨σ',H'',I7,q7⟩:=h7
   exact zRg (I7.unmarked I2.ok) hN hi hk hl (fun s8 I8=>⟨_,H'',I8,q7⟩) hf
 | brk=>obtain⟨_,_,_,z⟩:=h7;exact False.elim z
 | cont=>obtain⟨_,_,_,z⟩:=h7;exact False.elim z
 | ret u=>obtain⟨_,_,_,_,_,z⟩:=h7;exact False.elim z
end
def XV (K:PySem.W.Frag)(t:D)(G2 H2:Hp):XK:=fun v _ H'=>∃G' a,Step G2 H2 G' H'/\v = .ref a/\Rep K G' t (.ref a)
def zLb (X:Cx)(e:Expr)(xb:Ef):Prop:=∀(pins:List (Addr×Obj)) (s:Shared) (σ:St) (H:Hp) (R:Value->Shared->Prop) (G0 H0 G:Hp) (ρ:List B) (t:D),Inv X pins σ H s->Good X.K G0 H0 G H σ ρ->xb ρ=some t ->
 (∀s2 H2 G2 e s',Inv X pins σ H2 s2->Step G H G2 H2->CXv X.prog X.w X.stack H2 s2 (XV X.K t G2 H2) e s'->R e s')->wpAny (model X.prog X.w) X.A (eval e X.env) (fun _ _=>False) R s
def PVB (X:Cx)(st:Stmt)(xb:Ef):Prop:=∀(pins:List (Addr×Obj)) (s:Shared) (σ:St) (H:Hp) (R:Value->Shared->Prop) (G0 H0 G:Hp) (ρ:List B) (t:D),Inv X pins σ H s->Good X.K G0 H0 G H σ ρ->xb ρ=some t ->
 (∀s2 H2 G2 e s',Inv X pins σ H2 s2->Step G H G2 H2->CXv X.prog X.w X.stack H2 s2 (XV X.K t G2 H2) e s'->R e s')->wpAny (model X.prog X.w) X.A (exec st X.env) (fun _ _=>False) R s
section
variable {X:Cx} {a b e:Expr} {es:List Expr} {ga:Lf} {tt:Tf} {xa xb:Ef} {pos p cpos:Pos} {st st':Stmt}
theorem zUU {k n:Nat}{fad:Addr}{fd:FuncData}{ps:List Str}{y:Str}{d xf:List D->Option D}(hno:∀e s,¬X.xe e s)(F:FnOk X.prog X.w X.K X.mg X.base (CXv X.prog X.w) k fad fd ps (spV X.K n d xf))(hr:Room k X.A)(hm:X.mg y=some (.ref fad))(hk:PySem.W.keepIn X.K (.ref fad)=true)(hb:Binds X.K fd ps [])(hg:Gl X y)
   (ha:PFA X (e::es) ga) (hdb:(y==("__debug__":Str))=false:=by decide) (he:starEach (e::es) X.env=(false,eval e X.env)::starEach es X.env:=by rfl) (hpl:(backTo cpos (starEach es X.env)).any (·.1)=false:=by rfl) :
   zLb X (.Call (.Name y p) (e::es) [] cpos) (zM n xf ga):=by
 intro pins s σ H R G0 H0 G ρ t I good hq k
 unfold zM at hq
 obtain⟨ds,h1,hq⟩:=Qq.mp hq
 split at hq
 · rename_i hl
   refine Ra (iP I hg hm ?_ hdb)
   refine Yj (h₀:=X.base) I.ok.mod.kin hk (Rq (ha cpos pins s σ H (fun vs H1=>∃G1,Step G H G1 H1/\Reps X.K G1 ds vs) I ⟨G0,H0,G,ρ,ds,good,h1,fun vs H1 G1 s1 r1=>⟨G1,s1,r1⟩⟩) (fun us s1 ⟨vs,H1,I1,r,G1,st1,r1⟩=>⟨I1.kIn,?_⟩) fun e s z=>(hno e s z).elim) he hpl
   have wq:spV X.K n d xf vs H1 (fun _ _=>False) (XV X.K t G1 H1):=⟨G1,ds,st1.sub,r1,hl,.inr ⟨t,hq,fun a H' G' z rr=>⟨G',a,z,rfl,rr⟩⟩⟩
   have hlen:us.length=ps.length:=by
     rw[←r.length]
     exact F.len vs H1 (fun _ _=>False) (XV X.K t G1 H1) wq
   rw[Eb]
   refine Ul (Yh (F.run X.A X.stack s1 H1 ⟨us,[]⟩ us vs (fun _ _=>False) (XV X.K t G1 H1) hr I1.env0 (by have:=hb s1 us I1.kIn (by rw[Wh];exact hlen);rwa[Wh] at this) r wq) fun r s' hq=>?_)
   cases r with
   | error e=>exact k s1 H1 G1 e s' I1 st1 hq
   | ok fl =>
     cases fl with
     | ret u=>obtain⟨_,_,_,_,_,_,_,z⟩:=hq;exact z.elim
     | next=>exact False.elim hq
     | brk=>exact False.elim hq
     | cont=>exact False.elim hq
 · cases hq
theorem zVa (h:zLb X e xb)(hs:swapsWith e none pos.line X.env=pure false:=by rfl):PVB X (.Expr e pos) xb:=fun pins s σ H R G0 H0 G ρ t I good hq k =>
 wpAny_Expr_any (Rq (h pins s σ H R G0 H0 G ρ t I good hq k) (fun _ _ z=>z.elim) fun _ _ z=>z) I.quiet hs
theorem zMg (hno:∀e s,¬X.xe e s)(ht:PFT X a tt)(h1:PVB X st xa)(h2:PVB X st' xb):PVB X (.If a [st] [st'] pos) (vIf tt xa xb):=by
 intro pins s σ H R G0 H0 G ρ t I good hq k
 obtain⟨v,hv,hq⟩:=Qq.mp hq
 refine wpAny_If (Rq (ht pins s σ H (fun b H1=>b=v/\∃G1,Step G H G1 H1) I ⟨G0,H0,G,ρ,v,good,hv,fun H1 G1 st=>⟨rfl,G1,st⟩⟩) (fun b s1 ⟨H1,I1,eb,G1,st1⟩=>?_) fun e s z=>(hno e s z).elim)
 subst eb
 cases b with
 | true =>
   rw[Qn rfl] at hq
   refine zYJ ?_
   exact h1 pins s1 σ H1 R G0 H0 G1 ρ t I1 (good.step st1) hq fun s2 H2 G2 e s' I2 st2 hx=>k s2 H2 G2 e s' I2 (st1.trans st2) hx
 | false =>
   rw[Wd (by decide)] at hq
   refine zYJ ?_
   exact h2 pins s1 σ H1 R G0 H0 G1 ρ t I1 (good.step st1) hq fun s2 H2 G2 e s' I2 st2 hx=>k s2 H2 G2 e s' I2 (st1.trans st2) hx
theorem PVB.nox (h:PVB X.nox st xb):PVB X st xb:=fun pins s σ H R G0 H0 G ρ t I good hq k=>h pins s σ H R G0 H0 G ρ t (I.wish _) good hq fun s2 H2 G2 e s' I2 st hx=>k s2 H2 G2 e s' I2.unwish st hx
def zUK (cs:List Str)(xb:Ef)(fb:Sf)(i:Nat)(f:Sf):Sf:=fun ρ=>match xb ρ with
 | some (.exc c ns ds)=>if cs.contains c then(f (ρ.set i (.fz (.exc c ns ds)))).bind fun o=>match o with | .nx ρ'=>some (.nx (ρ'.set i .no)) | _=>none else none
 | some _=>none
 | none=>(fb ρ).bind fun o=>match o with | .nx ρ'=>some (.nx ρ') | _=>none
theorem zOm {cs:List Str}{Y:Addr}{i:Nat}{n y:Str}{yp hp:Pos}{b₀:Stmt}{suite:List Stmt}{f fb:Sf}(ok:ExOk X.K Y cs)(hb:PVB X.nox st xb)(hfb:PFS X.nox st fb)
   (hst:X.stack=X.env::X.outer) (hef:X.env.frame=some X.env.locals) (hg:Gl X y) (hm:X.mg y=some (.ref Y)) (hN:X.N.Nodup) (hh:∀a,PFSs (X.marked a fun _ _=>False) (b₀::suite) f)
   (hi:X.N[i]?=some n:=by rfl) (hk:X.env.kindOf n=some .local:=by rfl) (hl:Loc X.env.scope n:=by first | exact .inl rfl | exact .inr rfl) (hf:X.fn n=true∨X.env.scope.names.lookup n=some .local:=by first | exact .inl rfl | exact .inr rfl) (hdb:(y==("__debug__":Str))=false:=by decide) :
   PFS X (.Try [st] [.ExceptHandler (some (.Name y yp)) (some n) (b₀::suite) hp] [] [] pos) (zUK cs xb fb i f):=by
 intro pins s σ H D I q
 obtain⟨G0,H0,G,ρ,o,good,hq,k⟩:=q
 unfold zUK at hq
 split at hq
 · rename_i c ns ds hc
   split at hq
   · rename_i hcc
     obtain⟨C,hCC,hx1⟩:=ok.at hcc
     obtain⟨o1,ho1,hq⟩:=Qq.mp hq
     split at hq
     · rename_i ρ'
       cases hq
       refine wpAny_Try_except (zYJ (hb.nox pins s σ H _ G0 H0 G ρ _ I good hc fun s2 H2 G2 e s' I2 st2 hx=>?_))
       obtain⟨C',a,od,H',rfl,os,bare,un,hok,fl,G',a',st',ea,rp⟩:=hx
       cases ea
       obtain⟨C2,a2,od2,vs2,c1,c2,c3,_⟩:=lF.mp rp
       have e1:=hCC.one c1
       subst e1
       cases c2
       have e2:C2=C':=by
         obtain⟨vs,v,ho,_⟩:=fl.ob
         obtain⟨⟨fs,h2⟩,_⟩:=(show ObjOk X.prog X.w H' s'.heap a (.ext _) from hok a _ (st'.sub _ _ c3))
         rw[ho] at h2
         injection h2 with h2
         injection h2 with h2
         injection h2 with h2
         exact h2.symm
       subst e2
       have g1:Good X.K G0 H0 G' H' σ ρ:=(good.step st2).step st'
       refine zRN I2 os bare un hok fl hst hef hg hm hdb hx1 hN hi hk hl hf (hh a) ⟨G0,H0,_,_,.nx ρ',g1.setF i rp,ho1,fun σ' H'' G'' sg g3=>?_⟩
       exact k _ H'' G'' ((st2.gg.trans st'.gg).trans sg) (g3.setNo i)
     · cases hq
   · cases hq
 · cases hq
 · obtain⟨o1,ho1,hq⟩:=Qq.mp hq
   split at hq
   · rename_i ρ'
     cases hq
     refine wpAny_Try_except (Ut (Rq (hfb pins s σ H { nx:=D.nx,rt:=fun _ _=>False } (I.wish _) ⟨G0,H0,G,ρ,.nx ρ',good,ho1,k⟩) (fun f s1 h1=>?_) fun _ _ z=>z.elim))
     cases f with
     | next =>
       obtain⟨σ',H',I1,q1⟩:=h1
       exact Tl (Tl ⟨σ',H',I1.unwish,q1⟩)
     | brk=>obtain⟨_,_,_,z⟩:=h1;exact False.elim z
     | cont=>obtain⟨_,_,_,z⟩:=h1;exact False.elim z
     | ret u=>obtain⟨_,_,_,_,_,z⟩:=h1;exact False.elim z
   · cases hq
end
theorem zMm {X:Cx}{E:XK}{sts:List Stmt}:zSS X E sts zZz:=fun pins s σ H D I h=>by
 obtain⟨_,_,_,_,_,_,z,_⟩:=h;cases z
theorem PFS.nox {X:Cx}{st:Stmt}{g:Sf}(h:PFS X.nox st g):PFS X st g:=fun pins s σ H D I hw =>
 Rq (h pins s σ H D (I.wish _) hw) (fun _ _ q=>q.unwish) fun _ _ z=>False.elim z
theorem zR2 {X:Cx}{st:Stmt}{rest:List Stmt}{B f g:Sf}(e:B=zJ f g)(h1:PFS X st f)(h2:PFSs X rest g):PFSs X (st::rest) B:=by
 subst e
 exact wP h1 h2
theorem zU {X:Cx}{st:Stmt}{rest:List Stmt}(B:Sf){f g:Sf}(e:B=zJ f g)(h1:PFS X st f)(h2:PFSs X rest g):PFSs X (st::rest) B:=zR2 e h1 h2
structure FnT (K:PySem.W.Frag)(mg:Str->Option Value)(x:Str)(st:Stmt)(ps:List Str) where
 f:Addr
 fd:FuncData
 F:Fun K x x st f fd
 b:Binds K fd ps []
 m:mg x=some (.ref f)
def wV (K:PySem.W.Frag)(x:Str)(st:Stmt):Prop:=∃(f:Addr) (od an:Option Addr) (sl:Array (Option Value)) (oc kV dc pm cd ct:Value),PySem.W.nsIn K mainGlobals x=some (some (.ref f))/\K.lookup f=some ⟨oc,od,.func (PySem.W.fnOf x x (zF st) (zK st) (zV st) .none kV dc pm an cd ct),sl⟩/\PySem.W.codeIn K cd x=true/\PySem.W.keepIn K (.ref f)=true
abbrev fnQ (x:Str)(st:Stmt)(kV dc pm:Value)(an:Option Addr)(cd ct:Value):FuncData:=PySem.W.fnOf x x (zF st) (zK st) (zV st) .none kV dc pm an cd ct
def Bd (x:Str)(st:Stmt)(ps:List Str):Prop:=∀(kV doc pm:Value) (an:Option Addr) (cdv ct:Value) (us:List Value),us.length=ps.length->bindArgs (fnQ x st kV doc pm an cdv ct) ⟨us,[]⟩=pure (ps.zip us)
section
variable {x a b c d e:Str} {st:Stmt}
theorem bd1 (h:∀kV dc pm an cd ct u,bindArgs (fnQ x st kV dc pm an cd ct) ⟨[u],[]⟩=pure [(a,u)]):Bd x st [a]:=fun _ _ _ _ _ _ us hl=>match us,hl with | [_],_=>h _ _ _ _ _ _ _
theorem bd2 (h:∀kV dc pm an cd ct u v,bindArgs (fnQ x st kV dc pm an cd ct) ⟨[u,v],[]⟩=pure [(a,u),(b,v)]):Bd x st [a,b]:=fun _ _ _ _ _ _ us hl=>match us,hl with | [_,_],_=>h _ _ _ _ _ _ _ _
theorem bd3 (h:∀kV dc pm an cd ct u v z,bindArgs (fnQ x st kV dc pm an cd ct) ⟨[u,v,z],[]⟩=pure [(a,u),(b,v),(c,z)]):Bd x st [a,b,c]:=fun _ _ _ _ _ _ us hl=>match us,hl with | [_,_,_],_=>h _ _ _ _ _ _ _ _ _
theorem bd4 (h:∀kV dc pm an cd ct u v z w,bindArgs (fnQ x st kV dc pm an cd ct) ⟨[u,v,z,w],[]⟩=pure [(a,u),(b,v),(c,z),(d,w)]):Bd x st [a,b,c,d]:=fun _ _ _ _ _ _ us hl=>match us,hl with | [_,_,_,_],_=>h _ _ _ _ _ _ _ _ _ _
end
section
variable {K:PySem.W.Frag} {h:Heap} {mg:Str->Option Value} {x:Str} {st:Stmt} {ps:List Str}
def wQ (X:K.In h)(G:h.Ns mainGlobals mg)(g:wV K x st)(hb:Bd x st ps):FnT K mg x st ps:=Classical.choice (by
 obtain⟨f,od,an,sl,oc,kV,dc,pm,cd,ct,a,l,c,k⟩:=g
 exact⟨⟨f,_,zZj l c k,(zZj l c k).binds hb,PySem.W.mg_of X G a⟩⟩)
theorem zMo {P:Program}{w:World}{k:Nat}{sp:Sp}{p:Str}{fa:Addr}(t:FnT K mg x st [p])(hb:Bd x st [p])(hfa:mg x=some (.ref fa))(ok:∀base:Heap,FnOk P w K mg base CX0 k t.f t.fd [p] sp) :
   ∃fd:FuncData,(∀(s:Shared) (v:Value),BindsTo s fd ⟨[v],[]⟩ [(p,v)])/\∀base:Heap,K.In base->base.Ns mainGlobals mg->FnOk P w K mg base CX0 k fa fd [p] sp:=by
 have e:=hfa.symm.trans t.m
 cases e
 refine⟨t.fd,fun s v=>?_,fun base _ _=>ok base⟩
 obtain⟨oc,od,kV,doc,pm,an,cdv,ct,osl,e,lk,hcd⟩:=t.F.ex
 rw[e]
 exact .of_eq (hb kV doc pm an cdv ct [v] rfl)
end
abbrev OkT (P:Program)(w:World)(base:Heap){K:PySem.W.Frag}{mg:Str->Option Value}{x:Str}{st:Stmt}{ps:List Str}(t:FnT K mg x st ps)(k n:Nat)(d:List D->Option D):Prop:=FnOk P w K mg base CX0 k t.f t.fd ps (spF K n d)
abbrev zWO (P:Program)(w:World)(base:Heap){K:PySem.W.Frag}{mg:Str->Option Value}{x:Str}{st:Stmt}{ps:List Str}(t:FnT K mg x st ps)(k n:Nat)(d:List D->Option (List D)):Prop:=FnOk P w K mg base CX0 k t.f t.fd ps (spL K n d)
section
variable {X:Cx} {e:Expr} {es:List Expr} {ga:Lf} {pos p:Pos} {x:Str} {st:Stmt} {ps:List Str}
theorem xT {j k n:Nat}{t:FnT X.K X.mg x st ps}{fD:List D->Option D}(F:FnOk X.prog X.w X.K X.mg X.base CX0 j t.f t.fd ps (spF X.K n fD))(hr:Room k X.A)(ha:PFA X (e::es) ga)(hj:j<=k:=by omega)(hg:Gl X x:=by rfl)(hdb:(x==("__debug__":Str))=false:=by decide)(he:starEach (e::es) X.env=(false,eval e X.env)::starEach es X.env:=by rfl)(hpl:(backTo pos (starEach es X.env)).any (·.1)=false:=by rfl) :
   PF X (.Call (.Name x p) (e::es) [] pos) (zM n fD ga):=zNX F (hr.mono hj) t.m t.F.kp t.b hg ha hdb he hpl
theorem zYN {j k n:Nat}{t:FnT X.K X.mg x st ps}{fD:List D->Option (List D)}(F:FnOk X.prog X.w X.K X.mg X.base CX0 j t.f t.fd ps (spL X.K n fD))(hr:Room k X.A)(ha:PFA X (e::es) ga)(hj:j<=k:=by omega)(hg:Gl X x:=by rfl)(hdb:(x==("__debug__":Str))=false:=by decide)(he:starEach (e::es) X.env=(false,eval e X.env)::starEach es X.env:=by rfl)(hpl:(backTo pos (starEach es X.env)).any (·.1)=false:=by rfl) :
   PFr X (.Call (.Name x p) (e::es) [] pos) (vY n fD ga):=zN1 F (hr.mono hj) t.m t.F.kp t.b hg ha hdb he hpl
end
theorem yB {N P:List Str}{sc:Scope}(h:(sc.kind == .function && !sc.isCoroutine && !sc.isGenerator&&decide (N.take P.length=P)&&decide N.Nodup&&decide (∀x∈P,sc.names.lookup x=some .local∨sc.names.lookup x=some .cell)&&decide (∀y∈sc.names,y.2 ≠ .free))=true):FnScope N P sc:=by
 simp only[Qx,Wc,Bool.not_eq_true'] at h
 obtain⟨⟨⟨⟨⟨⟨h1,h2⟩,h3⟩,h4⟩,h5⟩,h6⟩,h7⟩:=h
 refine⟨?_,h2,h3,h5,h4,h6,h7⟩
 generalize sc.kind=k at h1
 cases k<;>first | rfl | cases h1
section
variable {X:Cx} {a b c e:Expr} {es:List Expr} {fa fb fc:Ef} {ga gb:Lf} {pos p:Pos}
theorem zR9:CallR X (.builtin "abs") (fun xs H Q=>∃i,xs=[.int i]/\Q (.int (if i < 0 then -i else i)) H):=by
 intro pins s σ H xs us Q I r h
 obtain⟨i,rfl,q⟩:=h
 obtain⟨u,rfl,t,rfl⟩:=pI r
 exact call_abs_int fun u tk=>⟨.int _,H,I.kept (fun _ _ e=>e),⟨u,rfl⟩,q⟩
def zLm (fa:Ef):Ef:=fun ρ=>(fa ρ).bind fun x=>match x with | .int i=>some (.int (if i < 0 then -i else i)) | _=>none
theorem zMx (hg:Gl X "abs")(hm:X.mg "abs"=none)(h:PF X a fa)(hs:starEach [a] X.env=[(false,eval a X.env)]:=by rfl):PF X (.Call (.Name "abs" p) [a] [] pos) (zLm fa):=by
 refine PE.to (sV zR9 hg hm (by rfl) (yV h yE (by rw[hs];rfl)) (by decide) (by decide) (by rw[hs];rfl) (by rfl)) ?_
 rintro σ H Q ⟨G0,H0,G,ρ,d,good,hf,k⟩
 unfold zLm at hf
 obtain⟨x,h1,hf⟩:=Qq.mp hf
 split at hf
 · rename_i i
   cases hf
   exact⟨G0,H0,G,ρ,_,good,h1,fun v H1 G1 s1 r1=>⟨i,by rw[zB.mp r1],k _ _ G1 s1 (zB.mpr rfl)⟩⟩
 · cases hf
theorem zR0 (hc:X.calm=true):CallR X (.builtin "sum") (fun xs H Q=>∃(q:Addr) (ns:List Int),xs=[V.ref q]/\SqL X.K H q (ns.map V.int)/\Q (.int ns.sum) H):=by
 intro pins s σ H xs us Q I r h
 obtain⟨l,ns,rfl,hq,q⟩:=h
 obtain⟨u,rfl,ru⟩:=pI r
 cases ru
 obtain⟨its,rv,pl,hz⟩:=I.list hq
 obtain⟨ps,rfl,rfl⟩:=bU rv
 have hit:s.heap.IsList l (intItems ps.toArray):=by
   have:=pl.isList
   unfold intItems
   rw[List.map_toArray]
   exact this
 refine sum_intListG (I.ok.hd hc) hit fun h' tk t' hk=>⟨.int _,H,I.kept hk,⟨t',rfl⟩,?_⟩
 have e:preSum (numAt ps.toArray) ps.toArray.size=(ps.map (·.1)).sum:=by
   have:=preSum_eq ps.toArray ps.toArray.size
   rw[this,List.take_of_length_le (by simp)]
 rw[e]
 exact q
def zQB (g:Lf):Ef:=fun ρ=>(g ρ).bind fun ds=>(jY ds).bind fun ns=>some (.int ns.sum)
theorem zNm (hcm:X.calm=true)(hg:Gl X "sum")(hm:X.mg "sum"=none)(h:zU0 X a ga)(hs:starEach [a] X.env=[(false,eval a X.env)]:=by rfl):PF X (.Call (.Name "sum" p) [a] [] pos) (zQB ga):=by
 refine PE.to (sV (zR0 hcm) hg hm (by rfl) (yV h yE (by rw[hs];rfl)) (by decide) (by decide) (by rw[hs];rfl) (by rfl)) ?_
 rintro σ H Q ⟨G0,H0,G,ρ,d,good,hf,k⟩
 unfold zQB at hf
 obtain⟨ds,h1,hf⟩:=Qq.mp hf
 obtain⟨ns,h2,hf⟩:=Qq.mp hf
 cases hf
 refine⟨G0,H0,G,ρ,ds,good,h1,fun q vs H1 G1 s1 e1 r1=>?_⟩
 rw[iW h2 r1] at e1
 exact⟨q,ns,rfl,s1.sub.seq e1,k _ _ G1 s1 (zB.mpr rfl)⟩
end
inductive All2 {α β:Type}(R:α->β->Prop):List α->List β->Prop
 | nil:All2 R [] []
 | cons {a b l m}:R a b->All2 R l m->All2 R (a::l) (b::m)
theorem All2.length {α β:Type}{R:α->β->Prop}:∀ {l:List α} {m:List β},All2 R l m->l.length=m.length
 | _,_,.nil=>rfl
 | _,_,.cons _ t=>by rw[Qp,Qp,t.length]
theorem All2.imp {α β:Type}{R S:α->β->Prop}(h:∀a b,R a b->S a b):∀ {l:List α} {m:List β},All2 R l m->All2 S l m
 | _,_,.nil=>.nil
 | _,_,.cons q t=>.cons (h _ _ q) (t.imp h)
theorem All2.inj {α β:Type}{R:α->β->Prop}(h:∀a a' b,R a b->R a' b->a=a'):∀ {l l':List α} {m:List β},All2 R l m->All2 R l' m->l=l'
 | _,_,_,.nil,.nil=>rfl
 | _,_,_,.cons q t,.cons q' t'=>by rw[h _ _ _ q q',All2.inj h t t']
theorem All2.get {α β:Type}{R:α->β->Prop}:∀ {l:List α} {m:List β},All2 R l m->∀(j:Nat) (h1:j < l.length) (h2:j < m.length),R l[j] m[j]
 | _,_,.cons q t,0,_,_=>q
 | _,_,.cons q t,j+1,h1,h2=>t.get j (by simpa using h1) (by simpa using h2)
def jD:KT->Value->Prop
 | .int i,v=>(∃t,v = .int i t)∨∃b:Bool,v = .bool b/\i=(if b then 1 else 0)
 | .tup _,_=>False
def IsK (h:Heap):Nat->KT->Value->Prop
 | 0,k,v=>jD k v
 | n+1,.tup ks,v=>∃a items,v = .ref a/\h.IsTuple a items/\All2 (IsK h n) ks items.toList
 | _+1,.int i,v=>jD (.int i) v
theorem zXy {k k':KT}{v:Value}(h:jD k v)(h':jD k' v):k=k':=by
 cases k with
 | int i =>
   cases k' with
   | int j =>
     rcases h with⟨t,rfl⟩ | ⟨b,rfl,rfl⟩<;>rcases h' with⟨t',e⟩ | ⟨b',e,rfl⟩<;>cases e<;>rfl
   | tup l=>cases h'
 | tup l=>cases h
theorem aM {k:KT}{a:Addr}(h:jD k (.ref a)):False:=by
 cases k with
 | int i=>rcases h with⟨t,e⟩ | ⟨b,e,_⟩<;>cases e
 | tup l=>cases h
theorem zVo {h:Heap}{n:Nat}{k:KT}{v:Value}(hk:∀l,k ≠ .tup l):IsK h n k v↔jD k v:=by
 cases n with
 | zero=>exact Oe
 | succ n =>
   cases k with
   | tup l=>exact absurd rfl (hk l)
   | int i=>exact Oe
theorem aX {h:Heap}{a:Addr}{i j:Array Value}(x:h.IsTuple a i)(y:h.IsTuple a j):i=j:=by
 obtain⟨o,e,_,n,d⟩:=x
 obtain⟨o',e',_,n',d'⟩:=y
 rw[e] at e';cases e'
 rw[d] at d';cases d';rfl
theorem zWA {h:Heap}:∀(n:Nat) (k k':KT) (v:Value),IsK h n k v->IsK h n k' v->k=k'
 | 0,_,_,_,x,y=>zXy x y
 | n+1,.tup ks,k',v,x,y=>by
   obtain⟨a,items,rfl,t,al⟩:=x
   cases k' with
   | tup ls =>
     obtain⟨a',items',e,t',al'⟩:=y
     cases e
     have:=aX t t'
     subst this
     rw[al.inj (fun p q r=>zWA n p q r) al']
   | int i=>exact(aM (k:=.int i) y).elim
 | n+1,.int i,.tup ls,v,x,y=>by
   obtain⟨a',items',rfl,_⟩:=y
   exact(aM (k:=.int i) x).elim
 | n+1,.int i,.int j,v,x,y=>zXy (k:=.int i) (k':=.int j) x y
theorem zXd {h h':Heap}(hk:∀a items,h.IsTuple a items->h'.IsTuple a items):∀(n:Nat) (k:KT) (v:Value),IsK h n k v->IsK h' n k v
 | 0,_,_,x=>x
 | n+1,.tup ks,v,x=>by
   obtain⟨a,items,rfl,t,al⟩:=x
   exact⟨a,items,rfl,hk _ _ t,al.imp fun p q r=>zXd hk n p q r⟩
 | n+1,.int i,v,x=>x
def dK':Nat->KT->Nat
 | n+1,.tup ks=>(ks.map (dK' n)).sum+1
 | _,_=>1
section
variable {prog:Program} {w:World} {E:Value->Shared->Prop}
theorem zXs {k:KT}{v:Value}{A:Around}{s:Shared}{Q:Int->Shared->Prop}(x:jD k v)(hu:A.units < cLine)(h:Q (zMJ k) { s with toks:=s.toks+1 }):wpAny (model prog w) A (pyHash v) Q E s:=by
 cases k with
 | int i =>
   rcases x with⟨t,rfl⟩ | ⟨b,rfl,rfl⟩
   · exact wpAny_pyHash_int h
   · refine PySem.W.pyHash_slot (T:="bool") rfl F.slot_bool_hash entry_int_hash (args_int_hash _) (beq_builtin_none _) (.inr hu) ?_
     cases b
     · exact(show wpAny _ _ (do ret (←mkInt 0)) _ _ s from Qw (wpAny_mkInt (Qi ⟨_,_,rfl,h⟩)))
     · exact(show wpAny _ _ (do ret (←mkInt 1)) _ _ s from Qw (wpAny_mkInt (Qi ⟨_,_,rfl,h⟩)))
 | tup l=>cases x
theorem zO6:∀(n:Nat) (k:KT) (v:Value) (A:Around) (s:Shared) (Q:Int->Shared->Prop),IsK s.heap n k v->A.units+n < cLine->Q (hK n k) { s with toks:=s.toks+dK' n k }->wpAny (model prog w) A (pyHash v) Q E s
 | 0,k,v,A,s,Q,x,hu,h=>by
   cases k with
   | tup l=>cases x
   | int i=>exact zXs (k:=.int i) x (by omega) h
 | n+1,.int i,v,A,s,Q,x,hu,h=>zXs (k:=.int i) x (by omega) h
 | n+1,.tup ks,v,A,s,Q,x,hu,h=>by
   obtain⟨a,items,rfl,t,al⟩:=x
   obtain⟨o,ho,hc,m,hd⟩:=id t
   refine PySem.W.pyHash_slot (T:="tuple") ⟨_,ho,hc⟩ F.slot_tuple_hash F.entry_tuple_hash (F.args_tuple_hash_1 _) (beq_builtin_none _) (.inr (by omega)) ?_
   show wpAny _ _ (Builtin.Tuple.tupleItemsOf (.ref a) >>= _) _ _ s
   refine Qw (wpAny_tupleItemsOf ho hd ?_)
   refine Qw ?_
   rw[←Yk]
   refine wpAny_forIn_list _
     (fun rest (b:Array Int) s'=>∃done left,ks=done++left/\All2 (IsK s.heap n) left rest/\b.toList=done.map (hK n)/\s'={ s with toks:=s.toks+(done.map (dK' n)).sum })
     _ ?_ ?_ _ _ ⟨[],ks,rfl,al,rfl,rfl⟩
   · rintro x rest b s' ⟨done,left,rfl,hl,hb,rfl⟩
     cases hl with
     | @cons k _ ks' _ h1 hl' =>
       refine Qw (zO6 n k x A.in1 _ _ h1 (by show A.units+1+n < cLine;omega) ?_)
       first
         | exact Qi ⟨done++[k],ks',by simp,hl',by simp[hb],by simp[Ev]⟩
         | exact Qw (Qi (Qi ⟨done++[k],ks',by simp,hl',by simp[hb],by simp[Ev]⟩))
   · rintro b s' ⟨done,left,rfl,hl,hb,rfl⟩
     cases hl
     rw[Wh] at h
     show wpAny _ _ (retInt (Builtin.Tuple.tupleHashOf b.toList)) _ _ _
     rw[hb]
     exact Qw (wpAny_mkInt (Qi ⟨_,_,rfl,by simpa [hK,dK',Ev] using h⟩))
theorem jV {a b:KT}{p:Bool}(h:p=true↔a=b):p=decide (a=b):=by
 by_cases e:a=b
 · rw[Qc e];exact h.mpr e
 · rw[Qv e];cases p with
   | false=>rfl
   | true=>exact absurd (h.mp rfl) e
theorem zSd {k k':KT}{v v':Value}{A:Around}{s:Shared}(x:jD k v)(y:jD k' v'):SeqAt.EqAt A s v v' (decide (k=k')):=by
 cases k with
 | int i =>
   cases k' with
   | int j =>
     rcases x with⟨t,rfl⟩ | ⟨b,rfl,rfl⟩<;>rcases y with⟨t',rfl⟩ | ⟨b',rfl,rfl⟩
     · rw[←jV (p:=i==j) (by simp)];exact Iy _ _ _ _
     · rw[←jV (p:=i==(if b' then 1 else 0)) (by simp)];exact SeqAt.EqAt.int_bool _ _ _
     · rw[←jV (p:=(if b then 1 else 0)==j) (by simp)];exact SeqAt.EqAt.bool_int _ _ _
     · rw[←jV (p:=b==b') (by cases b<;>cases b'<;>simp)];exact Uc _ _
   | tup l=>cases y
 | tup l=>cases x
theorem aZ {k:KT}{v:Value}{A:Around}{s:Shared}{a:Addr}{items:Array Value}(t:s.heap.IsTuple a items)(hu:A.units < cLine)(y:jD k v):SeqAt.EqAt A s (.ref a) v false/\SeqAt.EqAt A s v (.ref a) false:=by
 cases k with
 | int i =>
   rcases y with⟨t',rfl⟩ | ⟨b',rfl,_⟩
   · exact⟨SeqAt.EqAt.tuple_int _ _ t hu,SeqAt.EqAt.int_tuple _ _ t hu⟩
   · exact⟨SeqAt.EqAt.tuple_bool _ t hu,SeqAt.EqAt.bool_tuple _ t hu⟩
 | tup l=>cases y
theorem zNn {ks ls:List KT}:((List.range (min ks.length ls.length)).all (fun j=>decide (ks[j]?=ls[j]?))&&ks.length==ls.length)=decide (KT.tup ks=KT.tup ls):=by
 refine jV ?_
 rw[Qx,Qh,Wm]
 constructor
 · rintro⟨h1,h2⟩
   congr 1
   refine List.ext_getElem? fun j=>?_
   by_cases hj:j < min ks.length ls.length
   · exact Ru (h1 j (Es.mpr hj))
   · rw[Em (by omega),Em (by omega)]
 · intro e
   cases e
   exact⟨fun j _=>Qc rfl,rfl⟩
theorem zKI:∀(n:Nat) (k k':KT) (v v':Value) (A:Around) (s:Shared),IsK s.heap n k v->IsK s.heap n k' v'->A.units+n < cLine->SeqAt.EqAt A s v v' (decide (k=k'))
 | 0,k,k',v,v',A,s,x,y,hu=>zSd x y
 | n+1,.tup ks,.tup ls,v,v',A,s,x,y,hu=>by
   obtain⟨a,items,rfl,t,al⟩:=x
   obtain⟨b,jtems,rfl,t',al'⟩:=y
   by_cases hab:a=b
   · subst hab
     have e:=aX t t'
     subst e
     have e:=al.inj (fun p q r=>zWA n p q r) al'
     subst e
     rw[Qc rfl]
     exact Yo _
   · refine .of_refs hab ?_
     have l1:=al.length
     have l2:=al'.length
     have R:=SeqAt.RcAt.tuples (A:=A) (e:=fun j=>decide (ks[j]?=ls[j]?)) t t' (by omega) fun j h1 h2=>by
       have b1:j < ks.length:=by rw[l1];simpa using h1
       have b2:j < ls.length:=by rw[l2];simpa using h2
       have q:=zKI n ks[j] ls[j] items[j] jtems[j] A.in1 s (al.get j b1 (by simpa using h1)) (al'.get j b2 (by simpa using h2)) (by show A.units+1+n < cLine;omega)
       have e:decide (ks[j]?=ls[j]?)=decide (ks[j]=ls[j]):=by
         refine jV ?_
         rw[decide_eq_true_iff,Qu b1,Qu b2,Option.some_inj]
       rw[e]
       exact q
     have e:=zNn (ks:=ks) (ls:=ls)
     rw[l1,l2,Rc,Rc] at e
     rw[←e]
     exact R
 | n+1,.tup ks,.int i,v,v',A,s,x,y,hu=>by
   obtain⟨a,items,rfl,t,al⟩:=x
   rw[←jV (p:=false) (by simp)]
   exact(aZ (k:=.int i) t (by omega) y).1
 | n+1,.int i,.tup ks,v,v',A,s,x,y,hu=>by
   obtain⟨a,items,rfl,t,al⟩:=y
   rw[←jV (p:=false) (by simp)]
   exact(aZ (k:=.int i) t (by omega) x).2
 | n+1,.int i,.int j,v,v',A,s,x,y,hu=>zSd (k:=.int i) (k':=.int j) x y
theorem zZC {k:KT}{v:Value}(m:Nat)(x:jD k v):eqIsQuiet m v=pure true:=by
 refine eqIsQuiet_byValue m ?_
 cases k with
 | int i=>rcases x with⟨t,rfl⟩ | ⟨b,rfl,_⟩<;>rfl
 | tup l=>cases x
theorem zS8:∀(n:Nat) (k:KT) (v:Value) (m:Nat) (A:Around) (s:Shared) (Q:Bool->Shared->Prop),n<=m->IsK s.heap n k v->Q true s->wpAny (model prog w) A (eqIsQuiet m v) Q E s
 | 0,k,v,m,A,s,Q,hm,x,h=>by rw[zZC m x];exact Qi h
 | n+1,.int i,v,m,A,s,Q,hm,x,h=>by rw[zZC (k:=.int i) m x];exact Qi h
 | n+1,.tup ks,v,0,A,s,Q,hm,x,h=>absurd hm (by omega)
 | n+1,.tup ks,v,m+1,A,s,Q,hm,x,h=>by
   obtain⟨a,items,rfl,t,al⟩:=x
   obtain⟨o,ho,hc,m',hd⟩:=id t
   have hT:s.TypeIs (.ref a) "tuple":=⟨_,ho,hc⟩
   unfold eqIsQuiet
   refine Qw (Ys hT F.slot_tuple_eq.lookup ?_)
   show wpAny _ _ (isInstance (.ref a) (.type "tuple") >>= _) _ _ s
   refine Qw (Uy hT isSubtype_tuple_tuple ?_)
   simp only[Ue,Wp,Rf]
   refine Qw (Ey ho hd ?_)
   refine Qw ?_
   show wpAny _ _ (forIn items _ _) _ _ s
   rw[←Yk]
   refine wpAny_forIn_list _ (fun rest r s'=>r.1=none/\s'=s/\∃left,All2 (IsK s.heap n) left rest) _ ?_ ?_ _ _ ⟨rfl,rfl,ks,al⟩
   · rintro v rest r s' ⟨hr,rfl,left,hall⟩
     cases hall with
     | cons h1 h2 =>
       refine Qw (zS8 n _ v m A s' _ (by omega) h1 ?_)
       simp only[Ue,Wp,Rf]
       exact Qi ⟨rfl,rfl,_,h2⟩
   · rintro⟨r1,r2⟩ s' ⟨hr,rfl,_⟩
     simp only at hr
     subst hr
     exact Qi h
end
theorem zYr {h h':Heap}{d:Addr}{o:Obj}{es ep}(ho:h.get? d=some o)(hd:o.data = .dict es ep)(hs:Heap.SameBut d h h')(a:Addr)(items:Array Value)(t:h.IsTuple a items):h'.IsTuple a items:=by
 obtain⟨o',ho',hc,n,hd'⟩:=t
 have hne:a≠d:=by
   rintro rfl
   rw[ho] at ho';cases ho'
   rw[hd] at hd';cases hd'
 exact⟨o',(hs.2 a hne).trans ho',hc,n,hd'⟩
def eG (prog:Program)(w:World):HeapKind prog w KT where
 is:=fun h k a=>IsK h 8 k (.ref a)
 hash:=hK 8
 draws:=dK' 8
 room:=fun A=>A.units+8 < cLine
 inj:=fun hx hy=>zWA 8 _ _ _ hx hy
 keeps:=fun x ho hd hs=>zXd (zYr ho hd hs) 8 _ _ x
 pyHash:=fun hu hk h=>zO6 8 _ _ _ _ _ hk hu h
 eqBool:=fun hu hx hy h=>zKI 8 _ _ _ _ _ _ hx hy hu _ _ _ _ h
 quiet:=fun hk h=>zS8 8 _ _ 8 _ _ _ (by omega) hk h
section
variable {X:Cx} {pins:List (Addr×Obj)} {σ:St} {G H:Hp} {s:Shared}
theorem zVc {ds:List D}{ks:List KT}{n:Nat}(f:∀(d:D) (v:V) (u:Value) (k:KT),ktD n d=some k->Rep X.K G d v->RelV v u->IsK s.heap n k u):∀ {ds:List D} {ks:List KT} {vs:List V} {us:List Value},bL (ktD n) ds=some ks->Reps X.K G ds vs->Vals vs us->All2 (IsK s.heap n) ks us
 | [],ks,vs,us,h,r,w=>by
   rw[yR] at r;subst r
   cases h;cases w;exact .nil
 | d::ds,ks,vs,us,h,r,w=>by
   obtain⟨v,vr,rfl,r1,r2⟩:=z9.mp r
   unfold bL at h
   obtain⟨k,h1,h⟩:=Qq.mp h
   obtain⟨ks',h2,rfl⟩:=Qt.mp h
   cases w with
   | cons w1 w2=>exact .cons (f d v _ k h1 r1 w1) (zVc (ds:=ds) (ks:=ks') f h2 r2 w2)
theorem zW4 (I:Inv X pins σ H s)(sub:Same G H):∀(n:Nat) (d:D) (v:V) (u:Value) (k:KT),ktD n d=some k->Rep X.K G d v->RelV v u->IsK s.heap n k u:=by
 have leaf:∀(n:Nat) (d:D) (v:V) (u:Value) (k:KT),(∀ds,d ≠ .tup ds)->ktD n d=some k->Rep X.K G d v->RelV v u->IsK s.heap n k u:=fun n d v u k hd h r ru=>by
   cases d with
   | int i =>
     have e:k = .int i:=by cases n<;>(cases h;rfl)
     subst e
     rw[zB] at r;subst r
     obtain⟨t,rfl⟩:=ru
     exact(zVo (fun l z=>by cases z)).mpr (.inl ⟨t,rfl⟩)
   | bl b =>
     have e:k = .int (if b then 1 else 0):=by cases n<;>(cases h;rfl)
     subst e
     rw[wX] at r;subst r
     cases ru
     exact(zVo (fun l z=>by cases z)).mpr (.inr ⟨b,rfl,rfl⟩)
   | tup ds=>exact absurd rfl (hd ds)
   | _=>cases n<;>cases h
 intro n
 induction n with
 | zero =>
   intro d v u k h r ru
   cases d with
   | tup ds=>cases h
   | _=>exact leaf 0 _ v u k (fun _ z=>by cases z) h r ru
 | succ n ih =>
   intro d v u k h r ru
   cases d with
   | tup ds =>
     unfold ktD at h
     obtain⟨ks,h1,rfl⟩:=Qt.mp h
     obtain⟨p,vs,rfl,q1,q2⟩:=xI.mp r
     cases ru
     obtain⟨its,w1,t1,_⟩:=I.tuple (sub.tup q1)
     exact⟨p,its.toArray,rfl,t1,zVc (ds:=ds) (ks:=ks) ih h1 q2 w1⟩
   | _=>exact leaf (n+1) _ v u k (fun _ z=>by cases z) h r ru
def sO:List KT->List Addr->List Value->List (KT×Addr×Value)
 | k::ks,a::as,u::us=>(k,a,u)::sO ks as us
 | _,_,_=>[]
theorem zZF (P:Program)(w:World):∀(ks:List KT) (as:List Addr) (us:List Value),bE ks as us=(sO ks as us).map (entryOfKey (eG P w))
 | k::ks,a::as,u::us=>by rw[bE,sO,Qg,zZF P w ks as us];rfl
 | [],_,_=>by simp[bE,sO]
 | _::_,[],_=>by simp[bE,sO]
 | _::_,_::_,[]=>by simp[bE,sO]
theorem kB:∀ {ks:List KT} {as:List Addr} {us:List Value},ks.length=as.length->ks.length=us.length->(sO ks as us).map (·.1)=ks
 | [],[],[],_,_=>rfl
 | k::ks,a::as,u::us,h1,h2=>by rw[sO,Qg,kB (by simpa using h1) (by simpa using h2)]
 | [],_::_,_,h,_=>by simp at h
 | [],[],_::_,_,h=>by simp at h
 | _::_,[],_,h,_=>by simp at h
 | _::_,_::_,[],_,h=>by simp at h
theorem zMZ {ks:List KT}{as:List Addr}{us:List Value}(h1:ks.length=as.length)(h2:ks.length=us.length):(sO ks as us).length=ks.length:=by
 have:=Rp List.length (kB h1 h2)
 rwa[Qo] at this
theorem zVl:∀ {ks:List KT} {as:List Addr} {us:List Value} (k:KT) (a:Addr) (u:Value),ks.length=as.length->ks.length=us.length->sO ks as us++[(k,a,u)]=sO (ks++[k]) (as++[a]) (us++[u])
 | [],[],[],k,a,u,_,_=>rfl
 | k'::ks,a'::as,u'::us,k,a,u,h1,h2=>by
   show(k',a',u')::(sO ks as us++[(k,a,u)])=_
   rw[zVl k a u (by simpa using h1) (by simpa using h2)]
   rfl
 | [],_::_,_,_,_,_,h,_=>by simp at h
 | [],[],_::_,_,_,_,_,h=>by simp at h
 | _::_,[],_,_,_,_,h,_=>by simp at h
 | _::_,_::_,[],_,_,_,_,h=>by simp at h
theorem ODs.lens {K:PySem.W.Frag}:∀ {kvs ks as vs},ODs K G kvs ks as vs->ks.length=as.length/\ks.length=vs.length/\kvs.length=ks.length
 | _,_,_,_,.nil=>⟨rfl,rfl,rfl⟩
 | _,_,_,_,.cons _ _ _ h=>by
   obtain⟨a,b,c⟩:=ODs.lens h
   simp only[Qp]
   omega
theorem ODs.keys {K:PySem.W.Frag}:∀ {kvs ks as vs},ODs K G kvs ks as vs->(kvs.map fun p=>ktD 8 p.1)=ks.map some
 | _,_,_,_,.nil=>rfl
 | _,_,_,_,.cons h1 _ _ h=>by rw[Qg,Qg,h1,ODs.keys h]
theorem ODs.snoc {K:PySem.W.Frag}{d e:D}{k:KT}{a:Addr}{v:V}(h1:ktD 8 d=some k)(h2:Rep K G d (.ref a))(h3:Rep K G e v):∀ {kvs ks as vs},ODs K G kvs ks as vs->ODs K G (kvs++[(d,e)]) (ks++[k]) (as++[a]) (vs++[v])
 | _,_,_,_,.nil=>.cons h1 h2 h3 .nil
 | _,_,_,_,.cons a1 a2 a3 h=>.cons a1 a2 a3 (ODs.snoc h1 h2 h3 h)
theorem zQv (I:Inv X pins σ H s)(sub:Same G H):∀ {kvs ks as vs} {us:List Value},ODs X.K G kvs ks as vs->Vals vs us->∀x∈sO ks as us,IsK s.heap 8 x.1 (.ref x.2.1)
 | _,_,_,_,_,.nil,_=>fun x hx=>by simp[sO] at hx
 | _,_,_,_,_,.cons h1 h2 h3 h,w=>by
   cases w with
   | cons w1 w2 =>
     intro x hx
     rcases Qj.mp hx with rfl | hx
     · exact zW4 I sub 8 _ _ _ _ h1 h2 rfl
     · exact zQv I sub h w2 x hx
theorem zSk (I:Inv X pins σ H s)(sub:Same G H){a:Addr}{kvs ks as vs}(hp:H a=some (.ext (mN a ks as vs)))(od:ODs X.K G kvs ks as vs)(nd:ks.Nodup):∃us,Vals vs us/\ks.length=us.length/\s.heap.DictOfH (eG X.prog X.w) a (sO ks as us):=by
 obtain⟨⟨us,w,o,es,ep,h1,h2,h3,h4⟩,_⟩:=(show ObjOk X.prog X.w H s.heap a (.ext (mN a ks as vs)) from I.hok a _ hp)
 obtain⟨l1,l2,_⟩:=od.lens
 have l3:ks.length=us.length:=l2.trans w.length
 refine⟨us,w,l3,o,es,ep,h1,h2,h3,?_,zQv I sub od w,?_⟩
 · rw[h4];exact zZF X.prog X.w ks as us
 · rw[kB l1 l3];exact nd
theorem zS7 {P:Program}{w:World}{H':Hp}{h':Heap}{a:Addr}{ks as}{vs:List V}{us:List Value}(hv:Vals vs us){o es ep}(h1:h'.get? a=some o)(h2:o.ExactDict)(h3:o.data = .dict es ep)(h4:es.toList=bE ks as us):ObjOk P w H' h' a (.ext (mN a ks as vs)) :=
 ⟨⟨us,hv,o,es,ep,h1,h2,h3,h4⟩,⟨o,h1⟩,fun g1 g2 ⟨us,hv,o,es,ep,e1,e2,e3,e4⟩ k=>⟨us,hv,o,es,ep,k o e1,e2,e3,e4⟩⟩
theorem zZB {ks:List KT}{as:List Addr}{us:List Value}(h1:ks.length=as.length)(h2:ks.length=us.length)(k:KT):(atKey (sO ks as us) k).isSome=decide (k∈ks):=by
 unfold atKey
 rw[Option.isSome_map]
 by_cases hm:k∈ks
 · rw[Qc hm,List.find?_isSome]
   rw[←kB h1 h2] at hm
   obtain⟨x,hx,e⟩:=Wg.mp hm
   exact⟨x,hx,Qc e⟩
 · rw[Qv hm]
   cases hf:List.find? (fun x:KT×Addr×Value=>decide (x.1=k)) (sO ks as us) with
   | none=>rfl
   | some x =>
     refine absurd ?_ hm
     rw[←kB h1 h2]
     have hx:=List.find?_some hf
     exact Wg.mpr ⟨x,List.mem_of_find?_eq_some hf,Ru hx⟩
end
theorem Paired.upd {α β:Type}{F F':α->β->Prop}{b':β}:∀ {l:List α} {r:List β} (i:Nat),Paired F l r->(∀(j:Nat) (a:α) (b:β),j≠i->l[j]?=some a->r[j]?=some b->F a b->F' a b)->(∀a,l[i]?=some a->F' a b')->Paired F' l (r.set i b')
 | _,_,_,.nil,_,_=>.nil
 | _,_,0,.cons q t,h1,h2=>by
   rw[List.set_cons_zero]
   refine .cons (h2 _ rfl) ?_
   have tl:∀ {l:List α} {r:List β} (n:Nat),Paired F l r->(∀(j:Nat) (a:α) (b:β),l[j]?=some a->r[j]?=some b->F a b->F' a b)->Paired F' l r:=by
     intro l r n p
     induction p with
     | nil=>intro _;exact .nil
     | cons q t ih=>intro h;exact .cons (h 0 _ _ rfl rfl q) (ih fun j a b e1 e2=>h (j+1) a b (by simpa using e1) (by simpa using e2))
   exact tl 0 t fun j a b e1 e2=>h1 (j+1) a b (by omega) (by simpa using e1) (by simpa using e2)
 | _,_,i+1,.cons q t,h1,h2=>by
   rw[List.set_cons_succ]
   exact .cons (h1 0 _ _ (by omega) rfl rfl q) (Paired.upd i t (fun j a b hj e1 e2=>h1 (j+1) a b (by omega) (by simpa using e1) (by simpa using e2)) fun a e=>h2 a (by simpa using e))
def zKU:B->Bool | .od _=>true | _=>false
def zSt (i:Nat)(ρ:List B):Bool:=(List.range ρ.length).all fun j=>j==i || !(zKU (ρ.getD j .no))
theorem zQE {i j:Nat}{ρ:List B}{b:B}(h:zSt i ρ=true)(hj:j≠i)(e:ρ[j]?=some b):zKU b=false:=by
 unfold zSt at h
 have hl:=(Qk.mp e).1
 have:=Qh.mp h j (Es.mpr hl)
 rw[Wo,e] at this
 simpa [hj] using this
section
variable {K:PySem.W.Frag} {G0 H0 G H:Hp} {σ:St} {ρ:List B}
theorem Good.dict {i:Nat}{kvs:List (D×D)}(g:Good K G0 H0 G H σ ρ)(h:ρ[i]?=some (.od kvs)):∃a ks as vs,σ[i]?=some (some (.ref a))/\H a=some (.ext (mN a ks as vs))/\G a=none/\H0 a=none/\ODs K G kvs ks as vs/\ks.Nodup/\(a==sysModules)=false:=by
 obtain⟨o,e,r⟩:=Paired.get g.vals h
 cases r with
 | od h1 h2 h3 h4 h5 h6=>exact⟨_,_,_,_,e,h1,h2,h3,h4,h5,h6⟩
theorem iO {i j:Nat}{kvs:List (D×D)}{ds:List D}(h:(ρ.set i (.od kvs))[j]?=some (.ow ds)):j≠i/\ρ[j]?=some (.ow ds):=by
 by_cases e:j=i
 · subst e
   rw[Yb] at h
   split at h
   · split at h<;>cases h
   · rename_i z;exact absurd rfl z
 · rw[Wi (Ne.symm e)] at h
   exact⟨e,h⟩
theorem Good.setD {a:Addr}{ks as vs}{kvs:List (D×D)}(g:Good K G0 H0 G H σ ρ)(i:Nat)(ha:H a=some (.ext (mN a ks as vs)))(ga:G a=none)(h0:H0 a=none)(od:ODs K G kvs ks as vs)(nd:ks.Nodup)(hm:(a==sysModules)=false):Good K G0 H0 G H (σ.set i (some (.ref a))) (ρ.set i (.od kvs)):=by
 refine⟨g.st,Paired.set (.od ha ga h0 od nd hm) i g.vals,fun j k b d1 d2 h1 h2 h3 h4=>?_⟩
 obtain⟨n1,e1⟩:=iO h1
 obtain⟨n2,e2⟩:=iO h2
 rw[Wi (Ne.symm n1)] at h3
 rw[Wi (Ne.symm n2)] at h4
 exact g.apart j k b d1 d2 e1 e2 h3 h4
theorem Good.wrD {a:Addr}{ks as vs}{kvs kvs':List (D×D)}{i:Nat}(g:Good K G0 H0 G H σ ρ)(ho:zSt i ρ=true)(hi:ρ[i]?=some (.od kvs))(hs:σ[i]?=some (some (.ref a)))(od:ODs K G kvs' ks as vs)(nd:ks.Nodup) :
   Good K G0 H0 G (upd H a (.ext (mN a ks as vs))) σ (ρ.set i (.od kvs')):=by
 obtain⟨a',ks0,as0,vs0,h1,h2,h3,h4,_,_,hm⟩:=g.dict hi
 rw[hs] at h1;cases h1
 refine⟨⟨fun b o e=>?_,g.st.gg,fun b o e=>?_,g.st.new⟩,?_,fun j k b d1 d2 e1 e2 e3 e4=>?_⟩
 · rw[yQ (yJ e h4)];exact g.st.hh b o e
 · rw[yQ (yJ e h3)];exact g.st.sub b o e
 · refine Paired.upd i g.vals (fun j x b hj e1 e2 q=>?_) fun x e=>?_
   · cases q with
     | no=>exact .no
     | fz r=>exact .fz r
     | @ow c us ds c1 c2 c3 c4 =>
       have:c≠a:=fun z=>by rw[z,h2] at c1;cases c1
       exact .ow (by rw[yQ this];exact c1) c2 c3 c4
     | od _ _ _ _ _ _=>exact absurd (zQE ho hj e2) (by intro z;cases z)
   · rw[hs] at e;cases e
     exact .od zC h3 h4 od nd hm
 · obtain⟨n1,f1⟩:=iO e1
   obtain⟨n2,f2⟩:=iO e2
   exact g.apart j k b d1 d2 f1 f2 e3 e4
end
section
variable {X:Cx} {a b c e:Expr} {fa fb fc:Ef} {pos p p1 p2:Pos} {k:Nat}
theorem Inv.big' {pins:List (Addr×Obj)}{σ:St}{H:Hp}{s:Shared}(I:Inv X pins σ H s):sysModules < s.heap.objs.size:=by
 have h:mainGlobals < s.heap.objs.size:=(I.mod.glob.keeps I.bk).lt
 exact Nat.lt_trans (by decide) h
def zKQ:TE:=fun _ H Q=>∀p,H p=none->(p==sysModules)=false->Q (.ref p) (upd H p (.ext (mN p [] [] [])))
theorem zOt:PE X (.Dict [] [] pos) zKQ:=fun pins s σ H Q I h =>
 wpAny_Dict_empty ⟨.ref s.heap.objs.size,_,I.laid (a:=s.heap.objs.size) (o:=.ext (mN s.heap.objs.size [] [] [])) (t':=s.toks) (fun _ _ q=>Qr _ q) (Ql _) (zS7 .nil (Qa _ rfl) ⟨rfl,rfl,rfl⟩ rfl rfl),rfl,
   h _ (I.hok.fresh (Ql _)) (Ei.mpr (Ne.symm (Wu I.big')))⟩
def zQ9 (i:Nat):Sf:=fun ρ=>some (.nx (ρ.set i (.od [])))
theorem zSz (i:Nat){x:Str}{pos':Pos}(hN:X.N.Nodup)(hi:X.N[i]?=some x:=by rfl)(hx:Loc X.env.scope x:=by first | exact .inl rfl | exact .inr rfl)(hs:swapsWith (.Dict [] [] p) (some (.Name x pos')) pos.line X.env=pure false:=by rfl)
   (hf:X.fn x=true∨X.env.scope.names.lookup x=some .local:=by first | exact .inl rfl | exact .inr rfl):PFS X (.Assign [.Name x pos'] (.Dict [] [] p) pos) (zQ9 i):=by
 refine PS.to (zWl hN hi hx zOt hs hf) ?_
 rintro D σ H ⟨G0,H0,G,ρ,o,good,hf,k⟩
 cases hf
 intro q hq hm
 have s1:=Step.own (o:=.ext (mN q [] [] [])) good.st.sub hq
 exact k _ _ G s1.gg ((good.step s1).setD i zC (good.st.sub.free hq) (good.st.hh.free hq) .nil List.nodup_nil hm)
theorem zLI (hu:X.A.units+10 < cLine):OpR X (compareOp .In) (fun x y H Q=>∃G a b d kt kvs ks as vs,x = .ref b/\y = .ref a/\Same G H/\ktD 8 d=some kt/\Rep X.K G d (.ref b)/\H a=some (.ext (mN a ks as vs))/\ODs X.K G kvs ks as vs/\ks.Nodup/\(a==sysModules)=false/\Q (.bl (decide (kt∈ks))) H):=by
 intro pins s σ H x y v u Q I rx ry ⟨G,a,b,d,kt,kvs,ks,as,vs,e1,e2,sub,hk,rd,hp,od,nd,hm,q⟩
 subst e1 e2
 cases rx
 cases ry
 obtain⟨us,hv,hl,dd⟩:=zSk I sub hp od nd
 refine wpAny_in_heap (knd:=eG X.prog X.w) (show X.A.units+1+8 < cLine by omega) (zW4 I sub 8 _ _ _ _ hk rd rfl) hm dd ?_
 rw[zZB od.lens.1 hl]
 exact⟨.bl _,H,I.tok _,rfl,q⟩
def zPV:D->Option KT | .tup ds=>ktD 8 (.tup ds) | _=>none
theorem zUm {K:PySem.W.Frag}{G:Hp}{d:D}{kt:KT}{v:V}(h:zPV d=some kt)(r:Rep K G d v):ktD 8 d=some kt/\∃b,v = .ref b:=by
 cases d with
 | tup ds=>obtain⟨p,vs,rfl,_⟩:=xI.mp r;exact⟨h,p,rfl⟩
 | _=>cases h
def zWg (i:Nat)(fk:Ef):Tf:=fun ρ=>(fk ρ).bind fun d=>(zPV d).bind fun k=>match ρ[i]? with | some (.od kvs)=>some (decide (some k∈kvs.map fun p=>ktD 8 p.1)) | _=>none
theorem zOE {K:PySem.W.Frag}{G:Hp}{kvs ks as vs}(od:ODs K G kvs ks as vs)(k:KT):decide (some k∈kvs.map fun p=>ktD 8 p.1)=decide (k∈ks):=by
 rw[od.keys]
 by_cases h:k∈ks
 · rw[Qc h,Qc (Wg.mpr ⟨k,h,rfl⟩)]
 · rw[Qv h,Qv fun z=>by obtain⟨x,hx,e⟩:=Wg.mp z;cases e;exact h hx]
theorem zOW (i:Nat){x:Str}(hr:Room k X.A)(ha:PF X a fa)(hN:X.N[i]?=some x:=by rfl)(hv:Vis X.env.scope x:=by first | exact Or.inl rfl | exact Or.inr (Or.inl rfl) | exact Or.inr (Or.inr rfl))(hd:(x==("__debug__":Str))=false:=by decide)(hcd:(x==("__classdict__":Str))=false:=by decide)
   (hm:behindInMarks .In (.Name x p)=false:=by first | exact zZa _ | (with_unfolding_all rfl)):PFT X (.Compare a [.In] [.Name x p] pos) (zWg i fa):=by
 have hu:=hr.un
 refine PT.to (zZU (zLI (by omega)) ha (pK hN hv hd hcd) hm) ?_
 rintro σ H Q ⟨G0,H0,G,ρ,c,good,hf,kk⟩
 unfold zWg at hf
 obtain⟨d,h1,hf⟩:=Qq.mp hf
 obtain⟨kt,h2,hf⟩:=Qq.mp hf
 split at hf
 · rename_i kvs hi
   cases hf
   refine⟨G0,H0,G,ρ,_,good,h1,fun u H1 G1 s1 r1=>?_⟩
   obtain⟨q,ks,as,vs,e1,e2,e3,e4,e5,e6,e7⟩:=(good.step s1).dict hi
   obtain⟨hk,b,rfl⟩:=zUm h2 r1
   refine⟨.ref q,e1,G1,q,b,d,kt,kvs,ks,as,vs,rfl,rfl,s1.sub,hk,r1,e2,e5,e6,e7,_,rfl,?_⟩
   rw[←zOE e5]
   exact kk _ G1 s1
 · cases hf
def zK1 (X:Cx):V->V->V->Hp->(Hp->Prop)->Prop:=fun o i v H Q=>∃G a b d kt kvs ks as vs,o = .ref a/\i = .ref b/\Same G H/\ktD 8 d=some kt/\Rep X.K G d (.ref b)/\H a=some (.ext (mN a ks as vs))/\ODs X.K G kvs ks as vs/\ks.Nodup/\kt∉ks/\kvs.length<=lim/\Q (upd H a (.ext (mN a (ks++[kt]) (as++[b]) (vs++[v]))))
theorem zWV:∀ {vs:List V} {us:List Value} {v:V} {u:Value},Vals vs us->RelV v u->Vals (vs++[v]) (us++[u])
 | _,_,_,_,.nil,h=>.cons h .nil
 | _,_,_,_,.cons a t,h=>.cons a (zWV t h)
theorem zPp (hu:X.A.units+10 < cLine):zLU X (zK1 X):=by
 intro pins s σ H o i v ov iv u Q I ro ri rv h
 obtain⟨G,a,b,d,kt,kvs,ks,as,vs,rfl,rfl,sub,hk,rd,hp,od,nd,hn,hl,q⟩:=h
 cases ro
 cases ri
 obtain⟨us,hv,hl2,dd⟩:=zSk I sub hp od nd
 obtain⟨l1,l2,l3⟩:=od.lens
 have hz:(sO ks as us).length<=sizeLine:=by rw[zMZ l1 hl2];exact Wj (wD (by omega))
 refine wpAny_setItem_heap (knd:=eG X.prog X.w) (hsz:=hz) (show X.A.units+1+8 < cLine by omega) (zW4 I sub 8 _ _ _ _ hk rd rfl) dd fun h' dd' hs=>⟨_,?_,q⟩
 have hnone:atKey (sO ks as us) kt=none:=by
   have:=zZB l1 hl2 kt
   rw[Qv hn] at this
   exact Option.isSome_eq_false_iff.mp this |> fun z=>by simpa using z
 rw[storedH_new hnone,zVl kt b u l1 hl2] at dd'
 obtain⟨o',es,ep,g1,g2,g3,g4,_⟩:=dd'
 refine I.write (x:=a) (e:=a) (by rw[hp];trivial) (.inl rfl) (fun c w' hc z=>(hs.2 c hc).trans z) ⟨o',g1⟩ (zS7 (zWV hv rv) g1 g2 g3 ?_)
 rw[g4];exact(zZF X.prog X.w _ _ _).symm
def aL (i:Nat)(fk fv:Ef):Sf:=fun ρ=>(fv ρ).bind fun e=>(fk ρ).bind fun d=>(zPV d).bind fun k=>match ρ[i]? with
 | some (.od kvs)=>if kvs.length<=lim/\zSt i ρ=true/\some k∉kvs.map (fun p=>ktD 8 p.1) then some (.nx (ρ.set i (.od (kvs++[(d,e)])))) else none
 | _=>none
theorem zSH (i:Nat){x:Str}(hr:Room k X.A)(he:PF X e fa)(hb:PF X b fb)(hN:X.N[i]?=some x:=by rfl)(hv:Vis X.env.scope x:=by first | exact Or.inl rfl | exact Or.inr (Or.inl rfl) | exact Or.inr (Or.inr rfl))(hd:(x==("__debug__":Str))=false:=by decide)(hcd:(x==("__classdict__":Str))=false:=by decide)
   (ha:∀v,assign (.Subscript (.Name x p1) b p2) X.env v=(do
     let ov ←holding [v] (eval (.Name x p1) X.env)
     let iv ←holding [v,ov] (eval b X.env)
     standAt p2
     holding [v,ov,iv] (setItem ov iv v)
     release [v,ov,iv] []):=by intro _;rfl)
   (hs:swapsWithSole [.Subscript (.Name x p1) b p2] e pos.line X.env=pure false:=by rfl) (hw:swappedStores [.Subscript (.Name x p1) b p2] e X.env=pure none:=by rfl)
   (h1:(assignEach [.Subscript (.Name x p1) b p2] X.env).map (·.2)=[assign (.Subscript (.Name x p1) b p2) X.env]:=by rfl):PFS X (.Assign [.Subscript (.Name x p1) b p2] e pos) (aL i fb fa):=by
 have hu:=hr.un
 refine PS.to (zTx he (zPE (pK hN hv hd hcd) hb (zPp (by omega)) ha) hs hw h1) ?_
 rintro D σ H ⟨G0,H0,G,ρ,o,good,hf,kk⟩
 unfold aL at hf
 obtain⟨de,g1,hf⟩:=Qq.mp hf
 obtain⟨d,g2,hf⟩:=Qq.mp hf
 obtain⟨kt,g3,hf⟩:=Qq.mp hf
 split at hf
 · rename_i kvs hi
   split at hf
   · rename_i hc
     obtain⟨hl,ho,hn⟩:=hc
     cases hf
     refine⟨G0,H0,G,ρ,_,good,g1,fun v H1 G1 s1 r1=>?_⟩
     obtain⟨q,ks,as,vs,e1,e2,e3,e4,e5,e6,e7⟩:=(good.step s1).dict hi
     refine⟨.ref q,e1,G0,H0,G1,ρ,_,good.step s1,g2,fun u H2 G2 s2 r2=>?_⟩
     obtain⟨q',ks',as',vs',f1,f2,f3,f4,f5,f6,f7⟩:=((good.step s1).step s2).dict hi
     rw[e1] at f1;cases f1
     obtain⟨hk,b',rfl⟩:=zUm g3 r2
     have hnk:kt∉ks':=fun z=>hn (by rw[f5.keys];exact Wg.mpr ⟨kt,z,rfl⟩)
     refine⟨G2,q,b',d,kt,kvs,ks',as',vs',rfl,rfl,s2.sub,hk,r2,f2,f5,f6,hnk,hl,?_⟩
     refine kk _ _ G2 (s1.gg.trans s2.gg) (((good.step s1).step s2).wrD ho hi e1 (f5.snoc hk r2 (r1.mono s2.gg)) ?_)
     exact Ye.mpr ⟨f6,by simp,fun x hx y hy=>by rw[Wf] at hy;subst hy;intro z;exact hnk (z ▸ hx)⟩
   · cases hf
 · cases hf
end
section
variable {prog:Program} {w:World} {A:Around} {E:Value->Shared->Prop} {s:Shared}
theorem dJ {id:String}{b:Builtin}{args:List Value}{kw:List (Str×Value)}{Q:Value->Shared->Prop}(hk:builtinKind id=none)(hp:plainId id=true)
   (hb:entryFor table id=some b) (ha:argsOk id ⟨args,kw⟩)
   (hc:wpAny (model prog w) A.in1 (b ⟨args,kw⟩) (fun fin s'=>match fin with
     | .done f=>(match (Except.ok f:Result) with | .ok (.ret v)=>Q v s' | .ok _=>False | .error e=>E e s')
     | .again c'=>c'.quiet=true/\codeAny (model prog w) A c' (fun r s'=>match r with | .ok (.ret v)=>Q v s' | .ok _=>False | .error e=>E e s') s') E s) :
   wpAny (model prog w) A (call (.builtin id) args kw) Q E s:=by
 refine Ul (Tp hp hb ?_)
 simp only[checkBuiltinCall,hk]
 cases hsig:Manifest.signature? id with
 | none=>exact Qi hc
 | some sig =>
   have h2:Bind.checkArgs id sig ⟨args,kw⟩=pure ():=by simpa only [argsOk,hsig] using ha
   show wpAny _ A.in1 (Bind.checkArgs id sig ⟨args,kw⟩) _ _ s
   rw[h2];exact Qi hc
theorem zX1 (a d:Value):argsOk "min" ⟨[a],[("default",d)]⟩:=by unfold argsOk;kernel_rfl
theorem zOj {l:Addr}{d:Value}{Q:Value->Shared->Prop}(hh:A.handled=none)(hl:s.heap.IsList l #[])(h:∀h' tk,(∀b o,s.heap.get? b=some o->h'.get? b=some o)->Q d { s with heap:=h',toks:=tk }) :
   wpAny (model prog w) A (call (.builtin "min") [.ref l] [("default",d)]) Q E s:=by
 have hname:(toString "min"++toString ".loop":String)="min.loop":=by decide
 refine dJ F.kind_min F.plain_min F.entry_min (zX1 _ _) ?_
 show wpAny _ A.in1 (Builtin.Builtins.bindParams "min" ["key","default"] 0 ⟨[],[("default",d)]⟩ >>= _) _ _ s
 refine Qw (Ot (show Builtin.Builtins.bindParams "min" ["key","default"] 0 ⟨[],[("default",d)]⟩=pure [none,some d] from rfl) ?_)
 refine Qw (Qi ?_)
 refine Qw (Yc hl ?_)
 refine Qw (Ry ?_)
 rw[hname]
 have hne:l≠s.heap.objs.size:=by obtain⟨_,e,_⟩:=hl;exact Wu (Qy e)
 refine Qi ⟨Ej F.plain_min_loop _,Ed F.entry_min_loop ?_⟩
 rw[Ew F.plain_min_loop _]
 show wpAny _ A.in1 (seqItems? (.ref _) >>= _) _ _ _
 refine Qw (Ey (Qa _ rfl) rfl ?_)
 have W:=Walks.list (prog:=prog) (w:=w) (A:=A.in1) hh s.heap.objs.size l hne #[]
 refine Qw (Yx (W.done _ _ _ ⟨⟨_,Qr _ (Qa _ rfl),rfl,rfl⟩,(hl.push _).push _⟩ fun h' tk hk=>?_))
 refine Qw (Ih ?_)
 refine Qi (h h' tk fun b o e=>hk b o ?_ (Qr _ (Qr _ e)))
 intro hm
 rcases Qj.mp hm with z | z
 · exact absurd (z ▸ Qy e) (Wt _)
 · cases z
end
section
variable {X:Cx} {a:Expr} {ga:Lf} {pos p:Pos}
end
def eqN:D->D->Option Bool
 | .non,.int _=>some false
 | .int _,.non=>some false
 | x,y=>eqD 8 x y
def ixE (f:D->Option Bool):List D->Option Nat
 | []=>none
 | x::r=>(f x).bind fun b=>if b=true then(if (r.all fun z=>(f z).isSome) then some 0 else none) else(ixE f r).map (· + 1)
theorem zUQ {f:D->Option Bool}:∀ {ds:List D} {j:Nat},ixE f ds=some j->j < ds.length/\(∀(m:Nat) (x:D),ds[m]?=some x->∃b,f x=some b/\(m < j->b=false)/\(m=j->b=true))
 | [],_,h=>by cases h
 | x::r,j,h=>by
   unfold ixE at h
   obtain⟨b,h1,h⟩:=Qq.mp h
   split at h
   · rename_i hb
     split at h
     · rename_i ha
       cases h
       refine⟨Nat.zero_lt_succ _,fun m z hz=>?_⟩
       cases m with
       | zero=>cases hz;exact⟨b,h1,fun q=>absurd q (Wt _),fun _=>hb⟩
       | succ m =>
         rw[Qz] at hz
         obtain⟨b',hb'⟩:=Rw.mp (Qh.mp ha z (To hz))
         exact⟨b',hb',fun q=>absurd q (Tx _),fun q=>by cases q⟩
     · cases h
   · rename_i hb
     obtain⟨i,h2,rfl⟩:=Qt.mp h
     obtain⟨h3,h4⟩:=zUQ h2
     refine⟨by rw[Qp];omega,fun m z hz=>?_⟩
     cases m with
     | zero=>cases hz;exact⟨b,h1,fun _=>by simpa using hb,fun q=>by omega⟩
     | succ m =>
       rw[Qz] at hz
       obtain⟨b',q1,q2,q3⟩:=h4 m z hz
       exact⟨b',q1,fun q=>q2 (by omega),fun q=>q3 (by omega)⟩
section
variable {X:Cx} {a b c e:Expr} {fa fb:Ef} {ga:Lf} {pos p:Pos}
theorem zKo {pins:List (Addr×Obj)}{σ:St}{G H:Hp}{s:Shared}(I:Inv X pins σ H s)(sub:Same G H){A:Around}{d d':D}{x y:V}{u v:Value}{k:Bool}(hu:A.units+8 < cLine)(h:eqN d d'=some k)(r1:Rep X.K G d x)(r2:Rep X.K G d' y)(ru:RelV x u)(rv:RelV y v):SeqAt.EqAt A s u v k:=by
 unfold eqN at h
 split at h
 · cases h
   rw[vD] at r1;rw[zB] at r2;subst r1;subst r2
   cases ru;obtain⟨t,rfl⟩:=rv
   exact SeqAt.EqAt.none_int _ _
 · cases h
   rw[zB] at r1;rw[vD] at r2;subst r1;subst r2
   obtain⟨t,rfl⟩:=ru;cases rv
   exact SeqAt.EqAt.int_none _ _
 · exact(zLM I sub 8 A _ _ x y u v _ hu h r1 r2 ru rv).2.2
def zSe (X:Cx):V->List V->Hp->VK->Prop:=fun x vs H Q=>∃l y G ds ws d j,x = .ref l/\vs=[y]/\Same G H/\SqL X.K H l ws/\Reps X.K G ds ws/\Rep X.K G d y/\ixE (fun z=>eqN z d) ds=some j/\ds.length<=100000/\Q (.int (j:Nat)) H
theorem zRF {k:Nat}(hr:Room k X.A):MtR X "list.index" (zSe X):=by
 intro pins s σ H x xs v us Q I rx rv h
 obtain⟨l,y,G,ds,ws,d,j,rfl,rfl,sub,hq,rs,rd,hj,hl,q⟩:=h
 cases rx
 obtain⟨u,rfl,ru⟩:=rv.one
 obtain⟨its,r,pl,_⟩:=I.list hq
 obtain⟨⟨cls,dd,data,sl⟩,ho,hc,n,hd⟩:=pl.isList
 simp only at hc hd
 subst hc hd
 obtain⟨h1,h2⟩:=zUQ hj
 have l1:=rs.length
 have l2:=r.length
 have hun:=hr.units
 have bs:∀m,∃b:Bool,(m < j->b=false)/\(m=j->b=true)/\∀(h:m < its.toArray.size),SeqAt.EqAt X.A.in1 s its.toArray[m] u b:=fun m=>by
   by_cases hm:m < ds.length
   · obtain⟨b,q1,q2,q3⟩:=h2 m _ (Qu hm)
     refine⟨b,q2,q3,fun h=>?_⟩
     obtain⟨v1,f1,g1⟩:=rs.get (Qu hm)
     obtain⟨u1,f3,g3⟩:=r.get f1
     have x1:its.toArray[m]=u1:=by
       have:=(Qk.mp f3).2
       simpa using this
     rw[x1]
     exact zKo I sub (A:=X.A.in1) (by show X.A.units+1+8 < cLine;omega) q1 g1 rd g3 ru
   · exact⟨decide (m=j),fun z=>Qv (by omega),fun z=>Qc z,fun h=>absurd h (by rw[Qs,←l2,←l1];exact hm)⟩
 have hjs:j < its.toArray.size:=by rw[Qs,←l2,←l1];exact h1
 refine Yy F.slot_list_index ⟨_,ho,rfl⟩ F.entry_list_index (F.args_list_index_2 _ _) (zPO (l:=l) (its:=its.toArray) (n:=n) (dd:=dd) (sl:=sl) (y:=u) (q:=fun m=>(bs m).choose) (j:=j) hjs (by omega) ((bs j).choose_spec.2.1 rfl) (fun m hm=>(bs m).choose_spec.1 hm)) ⟨ho,fun m h=>(bs m).choose_spec.2.2 h,?_⟩
 exact⟨.int (j:Nat),H,I.tok _,⟨_,rfl⟩,q⟩
def zZX (g:Lf)(f:Ef):Ef:=fun ρ=>(g ρ).bind fun ds=>(f ρ).bind fun d=>if ds.length<=100000 then(ixE (fun z=>eqN z d) ds).map fun j=>.int (j:Nat) else none
theorem zRi {k:Nat}(hr:Room k X.A)(ht:PE X c (tBM X.K "list" (zSe X) (zNI X.K ga) (fG (tF X.K fb) zVx))):PF X c (zZX ga fb):=by
 refine PE.to ht ?_
 rintro σ H Q ⟨G0,H0,G,ρ,d,good,hf,k⟩
 unfold zZX at hf
 obtain⟨ds,h1,hf⟩:=Qq.mp hf
 obtain⟨y,h2,hf⟩:=Qq.mp hf
 split at hf
 · rename_i hl
   obtain⟨j,h3,rfl⟩:=Qt.mp hf
   refine⟨G0,H0,G,ρ,_,good,h1,fun q vs H1 G1 s1 hq rs=>⟨.inl ⟨rfl,vs,s1.sub.seq hq⟩,G0,H0,G1,ρ,_,good.step s1,h2,fun v H2 G2 s2 r2=>?_⟩⟩
   exact⟨q,v,G2,ds,vs,y,j,rfl,rfl,s2.sub,(s1.sub.trans s2.hh).seq hq,rs.mono s2.gg,r2,h3,hl,k _ _ G2 (s1.trans s2) (zB.mpr rfl)⟩
 · cases hf
end
def vB (val:Nat->Int):Nat->Int
 | 0=>val 0
 | k+1=>if val (k+1) < vB val k then val (k+1) else vB val k
section
variable {prog:Program} {w:World} {A:Around} {R:Result->Shared->Prop} {I:Addr} {fp wr:List Addr} {n:Nat} {P:Nat->Value->Prop} {St:Nat->Heap->Prop}
theorem zNE {a b:Int}{t u:Tok}{s:Shared}{Q:Value->Shared->Prop}{E:Value->Shared->Prop}(h:Q (.bool (decide (a < b))) s):wpAny (model prog w) A (richCompare .Lt (.int a t) (.int b u)) Q E s :=
 CmpOf.ints_lt (prog:=prog) (w:=w) (A:=A) (P:=fun i v=>∃t,v = .int (if i=0 then a else b) t) (fun i=>if i=0 then a else b) (fun _ _ h=>h) 0 1 _ _ s Q E ⟨t,rfl⟩ ⟨u,rfl⟩ h
theorem zRa (W:Walks prog w A.in1 I fp wr n P St)(val:Nat->Int)(hv:∀i v,P i v->∃t,v = .int (val i) t)(d:Value)(S:Addr)(hSf:S∉fp) :
   ∀(k j:Nat) (s:Shared) (t:Tok) (c:Nat),n - (j+1)=k->j+1<=n->St (j+1) s.heap ->
   s.heap.get? S=some { cls:=.type "list",dict:=none,data:=.seq #[.int (vB val j) t,.int (vB val j) t] c,slots:=#[] } ->
   (∀t' h' tk,(∀b o,b∉wr->b≠S->s.heap.get? b=some o->h'.get? b=some o)->R (.ok (.ret (.int (vB val (n - 1)) t'))) { s with heap:=h',toks:=tk }) ->
   codeAny (model prog w) A (.builtin "min.loop" ⟨[.ref I,.none,.ref S],[("default",d)]⟩) R s:=by
 have hSw:S∉wr:=fun h=>hSf (W.sub _ h)
 have hname:(toString "min"++toString ".loop":String)="min.loop":=by decide
 intro k
 induction k with
 | zero =>
   intro j s t c hk hj hst hS hR
   have hin:j+1=n:=by omega
   refine Ed F.entry_min_loop ?_
   rw[Ew F.plain_min_loop _]
   show wpAny _ A.in1 (seqItems? (.ref S) >>= _) _ _ s
   refine Qw (Ey hS rfl ?_)
   show wpAny _ A.in1 (tryCatch (pyNext (.ref I)) _ >>= _) _ _ s
   refine Qw (Yx (W.done s _ _ (hin ▸ hst) fun h' tk hk'=>?_))
   have hS':=hk' S _ hSw hS
   show wpAny _ A.in1 (updateSeq S (fun _=>#[]) >>= _) _ _ _
   refine Qw (Rl hS' rfl (Qw (Yw (Qi ?_))))
   rw[←hin] at hR
   exact hR t _ tk fun b o hbw hbS e=>(Wz _ _ (Ne.symm hbS)).trans (hk' b o hbw e)
 | succ k ih =>
   intro j s t c hk hj hst hS hR
   have hlt:j+1 < n:=by omega
   refine Ed F.entry_min_loop ?_
   rw[Ew F.plain_min_loop _]
   show wpAny _ A.in1 (seqItems? (.ref S) >>= _) _ _ s
   refine Qw (Ey hS rfl ?_)
   show wpAny _ A.in1 (tryCatch (pyNext (.ref I)) _ >>= _) _ _ s
   refine Qw (Yx (W.item (j+1) s _ _ hlt hst fun v h' tk hP hst' hk'=>?_))
   obtain⟨tv,rfl⟩:=hv _ _ hP
   have hS':=hk' S _ hSw hS
   show wpAny _ A.in1 (tryCatch (holding _ (richCompare .Lt _ _ >>= _)) _ >>= _) _ _ _
   refine Qw (Yx (Ex (Qw (zNE ?_))))
   refine Qw (Ex (Rk ?_))
   refine Qw (Yw (Qi ?_))
   by_cases hb:val (j+1) < vB val j
   · rw[Qc hb]
     simp only[Ri]
     refine Qw (Rl hS' rfl (Qw (Yw ?_)))
     rw[hname]
     have em:vB val (j+1)=val (j+1):=by rw[vB,Qn hb]
     refine Qi ⟨Ej F.plain_min_loop _,ih (j+1) _ tv _ (by omega) hlt (W.frame _ _ _ hst' fun b hbf o e=>?_) (by rw[em];exact Wk _ hS' rfl) fun t' h'' tk'' hk''=>?_⟩
     · exact(Wz _ _ (fun h:S=b=>hSf (by rw[h];exact hbf))).trans e
     · exact hR t' h'' tk'' fun b o hbw hbS e=>hk'' b o hbw hbS ((Wz _ _ (Ne.symm hbS)).trans (hk' b o hbw e))
   · rw[Qv hb]
     simp only[Wp,Rf]
     refine Qw (Yw ?_)
     rw[hname]
     have em:vB val (j+1)=vB val j:=by rw[vB,Wd hb]
     exact Qi ⟨Ej F.plain_min_loop _,ih (j+1) _ t c (by omega) hlt hst' (by rw[em];exact hS') fun t' h'' tk'' hk''=>hR t' h'' tk'' fun b o hbw hbS e=>hk'' b o hbw hbS (hk' b o hbw e)⟩
end
section
variable {prog:Program} {w:World} {A:Around} {E:Value->Shared->Prop} {s:Shared}
theorem zQz {l:Addr}{d:Value}{xs:Array (Int×Tok)}{Q:Value->Shared->Prop}(hh:A.handled=none)(hl:s.heap.IsList l (intItems xs))(hn:0 < xs.size)
   (h:∀t h' tk,(∀b o,s.heap.get? b=some o->h'.get? b=some o)->Q (.int (vB (numAt xs) (xs.size - 1)) t) { s with heap:=h',toks:=tk }) :
   wpAny (model prog w) A (call (.builtin "min") [.ref l] [("default",d)]) Q E s:=by
 have hname:(toString "min"++toString ".loop":String)="min.loop":=by decide
 refine dJ F.kind_min F.plain_min F.entry_min (zX1 _ _) ?_
 show wpAny _ A.in1 (Builtin.Builtins.bindParams "min" ["key","default"] 0 ⟨[],[("default",d)]⟩ >>= _) _ _ s
 refine Qw (Ot (show Builtin.Builtins.bindParams "min" ["key","default"] 0 ⟨[],[("default",d)]⟩=pure [none,some d] from rfl) ?_)
 refine Qw (Qi ?_)
 refine Qw (Yc hl ?_)
 refine Qw (Ry ?_)
 rw[hname]
 have hne:l≠s.heap.objs.size:=by obtain⟨_,e,_⟩:=hl;exact Wu (Qy e)
 have hsz:(intItems xs).size=xs.size:=by simp[intItems]
 have W:=Walks.list (prog:=prog) (w:=w) (A:=A.in1) hh s.heap.objs.size l hne (intItems xs)
 have hll:l < s.heap.objs.size:=by obtain⟨_,e,_⟩:=hl;exact Qy e
 refine Qi ⟨Ej F.plain_min_loop _,Ed F.entry_min_loop ?_⟩
 rw[Ew F.plain_min_loop _]
 show wpAny _ A.in1 (seqItems? (.ref _) >>= _) _ _ _
 refine Qw (Ey (Qa _ rfl) rfl ?_)
 have hps:(s.heap.push { cls:=.type "list_iterator",data:=.fields #[.ref l,.int 0 0] }).objs.size=s.heap.objs.size+1:=Eg _ _
 refine Qw (Yx (W.item 0 _ _ _ (by rw[hsz];exact hn) ⟨⟨_,Qr _ (Qa _ rfl),rfl,rfl⟩,(hl.push _).push _⟩ fun v h' tk hP hst' hk'=>?_))
 obtain⟨tv,rfl⟩:=intItems_at hP
 have hSw:(s.heap.push { cls:=.type "list_iterator",data:=.fields #[.ref l,.int 0 0] }).objs.size∉[s.heap.objs.size]:=fun hm=>by
   rw[Wf] at hm;omega
 have hS':=hk' _ _ hSw (Qa _ rfl)
 show wpAny _ A.in1 (updateSeq _ (fun _=>#[.int (numAt xs 0) tv,.int (numAt xs 0) tv]) >>= _) _ _ _
 refine Qw ?_
 refine Rl hS' rfl ?_
 rw[hname]
 have hSf:(s.heap.push { cls:=.type "list_iterator",data:=.fields #[.ref l,.int 0 0] }).objs.size∉[s.heap.objs.size,l]:=fun hm=>by
   rcases Qj.mp hm with z | z
   · rw[hps] at z;exact Nat.succ_ne_self _ z
   · rw[Wf,hps] at z
     rw[←z] at hll
     exact absurd hll (Nat.not_lt.mpr (Rm _))
 refine Qi ⟨Ej F.plain_min_loop _,zRa W (numAt xs) (fun i v h=>intItems_at h) d _ hSf _ 0 _ tv _ rfl (by rw[hsz];exact hn) (W.frame _ _ _ hst' fun b hbf o e=>?_) (Wk _ hS' rfl) fun t' h'' tk'' hk''=>?_⟩
 · exact(Wz _ _ (fun z=>hSf (by rw[z];exact hbf))).trans e
 · rw[hsz]
   refine h t' h'' tk'' fun b o e=>?_
   have hlt:=Qy e
   have n1:b∉[s.heap.objs.size]:=fun hm=>by rw[Wf] at hm;rw[hm] at hlt;exact Wt _ hlt
   have n2:b≠(s.heap.push { cls:=.type "list_iterator",data:=.fields #[.ref l,.int 0 0] }).objs.size:=fun z=>by rw[hps] at z;rw[z] at hlt;exact absurd hlt (Nat.not_lt.mpr (Rm _))
   exact hk'' b o n1 n2 ((Wz _ _ (Ne.symm n2)).trans (hk' b o n1 (Qr _ (Qr _ e))))
end
section
variable {X:Cx} {a:Expr} {ga:Lf} {pos p:Pos}
def fZ (ns:List Int):Int:=vB (fun i=>ns.getD i 0) (ns.length - 1)
def zZk (g:Lf):Ef:=fun ρ=>(g ρ).bind fun ds=>(jY ds).bind fun ns=>if ns.isEmpty=true then some .non else some (.int (fZ ns))
theorem zNP {kp:Pos}{j}{p2:Pos}(hc:X.calm=true)(hg:Gl X "min")(hm:X.mg "min"=none)(h:zU0 X a ga)(hs:starEach [a] X.env=[(false,eval a X.env)]:=by rfl) :
   PF X (.Call (.Name "min" p) [a] [⟨some "default",.Constant .none j p2,kp⟩] pos) (zZk ga):=by
 refine PE.to (t:=fun σ H Q=>zNI X.K ga σ H fun v H1=>∃q ns,v = .ref q/\SqL X.K H1 q (ns.map V.int)/\Q (if ns.isEmpty=true then .non else .int (fZ ns)) H1) ?_ ?_
 · intro pins s σ H Q I h0
   refine Ra (oO I hg hm (u:=.builtin "min") (by rfl) ?_ (by decide) (by decide))
   refine callWith_kw ?_ (by rw[hs];rfl) (by rw[hs];rfl) (by rfl) (by rfl)
   refine spliced_more (thn (h pins s σ H _ I h0) fun u s1 ⟨v,H1,I1,rv,q,ns,e,sq,q1⟩=>?_) (by rw[hs];rfl)
   subst e
   cases rv
   refine spliced_none ?_
   refine kws_cons (thn (zQr (X:=X) (j:=j) (pos:=p2) pins s1 σ H1 _ I1 (show tC .non σ H1 (fun v H2=>v = .non/\H2=H1) from⟨rfl,rfl⟩)) fun u2 s2 ⟨v2,H2,I2,rv2,e2,e3⟩=>?_)
   subst e2 e3
   cases rv2
   refine kws_nil ?_
   obtain⟨its,rl,pl,_⟩:=I2.list sq
   cases ns with
   | nil =>
     cases rl
     exact zOj (I2.ok.hd hc) pl.isList fun h' tk hk=>⟨.non,H2,I2.kept hk,rfl,q1⟩
   | cons x r =>
     obtain⟨ps,rfl,hps⟩:=bU rl
     have hit:s2.heap.IsList q (intItems ps.toArray):=by
       have:=pl.isList
       unfold intItems
       rw[List.map_toArray]
       exact this
     have hlen:ps.length=r.length+1:=by
       have:=Rp List.length hps
       simpa using this
     have hnum:(fun i=>numAt ps.toArray i)=fun i=>(x::r).getD i 0:=by
       funext i
       rw[←hps]
       unfold numAt
       rw[List.getElem?_toArray,Wo,Wq]
     refine zQz (I2.ok.hd hc) hit (by simp[hlen]) fun t h' tk hk=>⟨.int _,H2,I2.kept hk,⟨t,rfl⟩,?_⟩
     have e:vB (numAt ps.toArray) (ps.toArray.size - 1)=fZ (x::r):=by
       unfold fZ
       rw[←hnum,Qs,hlen,Qp]
     rw[e]
     exact q1
 · rintro σ H Q ⟨G0,H0,G,ρ,d,good,hf,k⟩
   unfold zZk at hf
   obtain⟨ds,h1,hf⟩:=Qq.mp hf
   obtain⟨ns,h2,hf⟩:=Qq.mp hf
   refine⟨G0,H0,G,ρ,ds,good,h1,fun q vs H1 G1 s1 e1 r1=>⟨q,ns,rfl,by rw[←iW h2 r1];exact s1.sub.seq e1,?_⟩⟩
   split at hf
   · rename_i he
     cases hf
     rw[Qn he]
     exact k _ _ G1 s1 (vD.mpr rfl)
   · rename_i he
     cases hf
     rw[Wd he]
     exact k _ _ G1 s1 (zB.mpr rfl)
end
section
variable {X:Cx} {a b c e tg elt iter:Expr} {fa fb:Ef} {pos p:Pos}
end
mutual
def zKc:D->Bool
 | .non=>true
 | .bl _=>true
 | .int _=>true
 | .str _=>true
 | .tup ds=>zMK ds
 | _=>false
def zMK:List D->Bool
 | []=>true
 | d::r=>zKc d&&zMK r
end
section
variable {X:Cx} {e:Expr} {fa:Ef} {ga:Lf} {ta:Tf}
end
section
variable {X:Cx} {pins:List (Addr×Obj)} {σ:St} {H G:Hp} {s:Shared}
end
section
variable {X:Cx} {k:Nat}
end
abbrev Jf:=List B->Option Str
section
variable {X:Cx} {e c a:Expr} {es:List Expr} {fa fb:Ef} {g:Jf} {pos p:Pos}
end
section
variable {prog:Program} {w:World} {A:Around} {E:Value->Shared->Prop} {s:Shared}
end
section
variable {X:Cx} {a b c e tg elt iter:Expr} {fa fb:Ef} {pos p:Pos}
end
section
variable {prog:Program} {w:World} {A:Around} {E:Value->Shared->Prop} {s:Shared}
end
section
variable {X:Cx} {a:Expr} {fa:Ef} {pos p:Pos}
end
end L2
namespace L2
open PySem PySem.Spec PyProof.Rows
open PySem.Builtin PySem.Builtin.Str
theorem zWU:∀l:List (Str×Tok),Vals ((l.map (·.1)).map V.str) (strValues l)
 | []=>.nil
 | (x,t)::r=>.cons ⟨t,rfl⟩ (zWU r)
section
variable {X:Cx} {e c a:Expr} {es:List Expr} {fa fb:Ef} {pos p:Pos}
def zQm:V->List V->Hp->VK->Prop:=fun x vs H Q=>∃z y,x = .str z/\vs=[.str y]/\1<=y.length/\z.length<=100000/\∀p,H p=none->Q (.ref p) (upd H p (.lst ((Txt.split z y).map V.str)))
theorem zYx:MtR X "str.split" zQm:=by
 intro pins s σ H x xs v us Q I rx rv h
 obtain⟨z,y,rfl,rfl,hy1,hz,q⟩:=h
 obtain⟨t,rfl⟩:=rx
 obtain⟨w,rfl,u,rfl⟩:=rv.one
 have hy:(y.length==0)=false:=by rw[Ei];omega
 have hsl:sizeLine=sizeLine:=rfl
 have hlen:=split_le z y
 have go:∀(l:List (Str×Tok)) (k:Nat),l.map (·.1)=Txt.split z y->EP X pins σ Q (.ref s.heap.objs.size) { s with toks:=k,heap:=s.heap.push { cls:=.type "list",data:=.seq (strValues l).toArray } }:=by
   intro l k hl
   refine⟨.ref s.heap.objs.size,_,I.laid (o:=.lst ((Txt.split z y).map V.str)) (fun b o e=>Qr _ e) (Ql _) ?_,rfl,q _ I.fresh⟩
   exact⟨by rw[Qo,Ym];omega,_,_,by rw[←hl];exact zWU l,Qa _ rfl⟩
 have hn:(partsBetween z (occurrences z y 0 z.length (z.length+1)) y.length).length<=sizeLine:=by
   have e1:=StrLaws.occ_length_le z y 0 z.length (z.length+1)
   rw[length_partsBetween,Ym];omega
 cases h1:(decide (z.length < y.length)||decide (strKind z < strKind y))
 · cases hf:(occurrences z y 0 z.length (z.length+1)).isEmpty
   · refine Yy F.slot_str_split (Uz _ _ _) F.entry_str_split (F.args_str_split_2 _ _) (meets_str_split_sep z y t u h1 hy hf (by rw[Ym];omega) hn) ?_
     show wants _ _ _ { s with toks:=_,heap:=s.heap.push { cls:=.type "list",data:=.seq (strsFrom s.toks (partsBetween z (occurrences z y 0 z.length (z.length+1)) y.length)).toArray } }
     rw[strsFrom_eq]
     exact go (PySem.numbered s.toks _) _ ((numbered_texts _ _).trans ((Wd (Iq h1)).trans (Wd (Iq hf))).symm)
   · exact Yy F.slot_str_split (Uz _ _ _) F.entry_str_split (F.args_str_split_2 _ _) (meets_str_split_not_found z y t u h1 hy hf) (go [(z,t)] s.toks ((Wd (Iq h1)).trans (Qn hf)).symm)
 · exact Yy F.slot_str_split (Uz _ _ _) F.entry_str_split (F.args_str_split_2 _ _) (meets_str_split_cannot_occur z y t u h1) (go [(z,t)] s.toks (Qn h1).symm)
theorem zXc {K:PySem.W.Frag}{G:Hp}:∀ys:List Str,Reps K G (ys.map D.str) (ys.map V.str)
 | []=>by rw[Rs,Rs,yR]
 | y::r=>by rw[Qg,Qg];exact z9.mpr ⟨_,_,rfl,yI.mpr rfl,zXc r⟩
def gE (x y:D):Option (List D):=match x,y with | .str z,.str m=>if 1<=m.length/\z.length<=100000 then some ((Txt.split z m).map D.str) else none | _,_=>none
def jT (fa fb:Ef):Lf:=fun ρ=>(fa ρ).bind fun x=>(fb ρ).bind fun y=>gE x y
theorem zYV (ht:PE X c (tBM X.K "str" zQm (tF X.K fa) (fG (tF X.K fb) zVx))):PFr X c (jT fa fb):=by
 refine PE.toR ht ?_
 rintro σ H Q ⟨G0,H0,G,ρ,d,good,hf,k⟩
 unfold jT at hf
 obtain⟨x,h1,hf⟩:=Qq.mp hf
 obtain⟨y,h2,hf⟩:=Qq.mp hf
 unfold gE at hf
 split at hf
 · split at hf
   · rename_i hz
     cases hf
     refine⟨G0,H0,G,ρ,_,good,h1,fun u H1 G1 s1 r1=>?_⟩
     have r1:=yI.mp r1
     subst r1
     refine⟨rfl,G0,H0,G1,ρ,_,good.step s1,h2,fun v H2 G2 s2 r2=>?_⟩
     have r2:=yI.mp r2
     subst r2
     refine⟨_,_,rfl,rfl,hz.1,hz.2,fun l hl=>?_⟩
     exact k l _ _ G2 ((s1.trans s2).trans (Step.own s2.sub hl)) ((s1.trans s2).hh.free hl) zC (s2.sub.free hl) (zXc _)
   · cases hf
 · cases hf
end
theorem zX3 {c:Nat}:∀ {x x' r r':List Nat},c∉x->c∉x'->x++c::r=x'++c::r'->x=x'/\r=r'
 | [],[],_,_,_,_,h=>⟨rfl,(Ip h).2⟩
 | [],b::x',_,_,_,h2,h=>absurd (by rw[(Ip h).1];exact Qf) h2
 | a::x,[],_,_,h1,_,h=>absurd (by rw[←(Ip h).1];exact Qf) h1
 | a::x,b::x',_,_,h1,h2,h=>by
   obtain⟨e1,e2⟩:=Ip h
   obtain⟨e3,e4⟩:=zX3 (fun z=>h1 (Qd _ z)) (fun z=>h2 (Qd _ z)) e2
   exact⟨by rw[e1,e3],e4⟩
def mX (c:Nat)(y:Str):Prop:=c∉y.cps.toList
theorem zZ6 (c:Nat)(x y:Str)(r:List Str):(Str.join ⟨#[c]⟩ (x::y::r)).cps.toList=x.cps.toList++c::(Str.join ⟨#[c]⟩ (y::r)).cps.toList:=by
 show(x++⟨#[c]⟩++Str.join ⟨#[c]⟩ (y::r)).cps.toList=_
 rw[Str.cps_append,Str.cps_append]
 simp
theorem hU {c:Nat}{x:Str}{z y:Str}{r:List Str}(hx:mX c x):x≠Str.join ⟨#[c]⟩ (z::y::r):=fun e=>by
 have:=Rp (fun q:Str=>q.cps.toList) e
 rw[zZ6] at this
 exact hx (by rw[this];simp)
theorem zVv {c:Nat}:∀ {xs ys:List Str},(∀x∈xs,mX c x)->(∀y∈ys,mX c y)->xs≠[]->ys≠[]->Str.join ⟨#[c]⟩ xs=Str.join ⟨#[c]⟩ ys->xs=ys
 | [],_,_,_,h,_,_=>absurd rfl h
 | _,[],_,_,_,h,_=>absurd rfl h
 | [x],[y],_,_,_,_,h=>by rw[show x=y from h]
 | [x],y::z::r,hx,_,_,_,h=>absurd h (hU (hx x Qf))
 | x::z::r,[y],_,hy,_,_,h=>absurd h.symm (hU (hy y Qf))
 | x::z::r,y::w::q,hx,hy,_,_,h=>by
   have e:=Rp (fun q:Str=>q.cps.toList) h
   rw[zZ6,zZ6] at e
   obtain⟨e1,e2⟩:=zX3 (hx x Qf) (hy y Qf) e
   have e3:x=y:=by cases x;cases y;simp at e1;rw[e1]
   have e4:Str.join ⟨#[c]⟩ (z::r)=Str.join ⟨#[c]⟩ (w::q):=by
     generalize Str.join ⟨#[c]⟩ (z::r)=u at e2
     generalize Str.join ⟨#[c]⟩ (w::q)=v at e2
     cases u;cases v;simp at e2;rw[e2]
   rw[e3,zVv (fun x h=>hx x (Qd _ h)) (fun x h=>hy x (Qd _ h)) (Uu _ _) (Uu _ _) e4]
theorem zZp (c:Nat)(ys:List Str)(hy:∀y∈ys,mX c y)(hn:ys≠[]):Txt.split (Str.join ⟨#[c]⟩ ys) ⟨#[c]⟩=ys:=by
 refine zVv (fun x hx=>StrLaws.split_free _ c x hx) hy (fun z=>?_) hn (StrLaws.join_split _ _)
 have:=split_pos (Str.join ⟨#[c]⟩ ys) ⟨#[c]⟩
 rw[z] at this
 simp at this
end L2
namespace L2
open PySem PySem.Spec PyProof.Rows
open PySem.Builtin PySem.Builtin.Str
section
variable {X:Cx} {a c:Expr} {fa fb:Ef} {ga:Lf} {pos p:Pos}
end
section
variable {P:Program} {w:World} {K:PySem.W.Frag} {mg:Str->Option Value} {base:Heap} {k:Nat} {f:Addr} {fd:FuncData} {ps:List Str}
end
end L2
namespace L2
open PySem PySem.Spec PyProof.Rows
section
variable {X:Cx} {a b elt iter tg:Expr} {ifs:List Expr} {gi:Lf} {pos p:Pos} {k:Nat}
end
section
variable {X:Cx} {a b c e tg:Expr} {fa fb:Ef} {pos p:Pos} {k:Nat}
end
def cR:Value->Option D
 | .none=>some .non
 | .bool b=>some (.bl b)
 | .int i _=>some (.int i)
 | .str x _=>some (.str x)
 | _=>none
theorem zPy {u:Value}{d:D}(h:cR u=some d):∃v,RelV v u/\∀K G,Rep K G d v:=by
 cases u<;>first | cases h | skip
 · exact⟨.non,rfl,fun _ _=>vD.mpr rfl⟩
 · exact⟨.bl _,rfl,fun _ _=>wX.mpr rfl⟩
 · exact⟨.int _,⟨_,rfl⟩,fun _ _=>zB.mpr rfl⟩
 · exact⟨.str _,⟨_,rfl⟩,fun _ _=>yI.mpr rfl⟩
def zSW (P:Params)(l:List (Str×Tok×Value)):List DictEntry:=l.map fun p=>⟨PyData.keyHash P p.1,.str p.1 p.2.1,p.2.2⟩
def kvC (l:List (Str×Tok×Value)):List (Str×D):=l.map fun p=>(p.1,(cR p.2.2).getD .non)
structure DictC (w:World)(K:PySem.W.Frag)(a:Addr)(kvs:List (Str×D)):Prop where
 sys:(a==sysModules)=false
 at':∃(l:List (Str×Tok×Value)) (n:Nat),K.lookup a=some ⟨.type "dict",none,.dict (zSW w.params l).toArray n,#[]⟩/\kvs=kvC l/\(l.all fun p=>(cR p.2.2).isSome)=true
theorem zSF {P:Params}:∀l:List (Str×Tok×Value),PySem.W.KeysLit P (zSW P l)
 | []=>trivial
 | (x,t,v)::r=>⟨⟨x,t,rfl,rfl⟩,zSF r⟩
theorem zOU {P:Params}(x:Str):∀l:List (Str×Tok×Value),(l.all fun p=>(cR p.2.2).isSome)=true ->
   match (kvC l).lookup x with
   | some d=>∃u,findBy Value.isStrOf (zSW P l).toArray x=some u/\cR u=some d
   | none=>findBy Value.isStrOf (zSW P l).toArray x=none
 | [],_=>rfl
 | (y,t,v)::r,h=>by
   have h':=Ee.mp (by simpa using h:((cR v).isSome&&(r.all fun p=>(cR p.2.2).isSome))=true)
   have ih:=zOU (P:=P) x r h'.2
   show match ((y,(cR v).getD .non)::kvC r).lookup x with | some d=>_ | none=>_
   unfold findBy at ih ⊢
   rw[List.find?_toArray] at ih ⊢
   show match ((y,(cR v).getD .non)::kvC r).lookup x with
     | some d=>∃u,(((⟨PyData.keyHash P y,.str y t,v⟩:DictEntry)::zSW P r).find? fun e=>Value.isStrOf x e.key).map (·.val)=some u/\cR u=some d
     | none=>(((⟨PyData.keyHash P y,.str y t,v⟩:DictEntry)::zSW P r).find? fun e=>Value.isStrOf x e.key).map (·.val)=none
   by_cases e:y=x
   · subst e
     have q:Value.isStrOf y (.str y t)=true:=Td y
     rw[Er,Td,Yf]
     rw[show(Value.isStrOf y (⟨PyData.keyHash P y,.str y t,v⟩:DictEntry).key)=true from q]
     obtain⟨d,hd⟩:=Rw.mp h'.1
     exact⟨v,rfl,by rw[hd];rfl⟩
   · have q:Value.isStrOf x (.str y t)=false:=Ei.mpr e
     have q2:(x==y)=false:=Ei.mpr (Ne.symm e)
     rw[Er,q2,Yf,show(Value.isStrOf x (⟨PyData.keyHash P y,.str y t,v⟩:DictEntry).key)=false from q]
     exact ih
section
variable {X:Cx} {a b:Expr} {fa fb:Ef} {pos p:Pos} {x:Str} {da:Addr} {kvs:List (Str×D)}
variable {pins:List (Addr×Obj)} {σ:St} {H:Hp} {s:Shared}
theorem DictC.map (h:DictC X.w X.K da kvs)(I:Inv X pins σ H s):∃f:Str->Option Value,s.heap.MapOf (strKind X.prog X.w) da f/\∀y,match kvs.lookup y with | some d=>∃u,f y=some u/\cR u=some d | none=>f y=none:=by
 obtain⟨l,n,h1,h2,h3⟩:=h.at'
 subst h2
 exact⟨_,PySem.W.mapOf_K I.kIn h1 (by simpa using zSF l),fun y=>zOU y l h3⟩
def zK8 (X:Cx)(kvs:List (Str×D))(da:Addr)(c:Bool):R2:=fun v y H Q=>∃z,v = .str z/\y = .ref da/\Q (.bl (c==(kvs.lookup z).isSome)) H
theorem zR3 (h:DictC X.w X.K da kvs):OpR X (compareOp .NotIn) (zK8 X kvs da false):=by
 intro pins s σ H x y v u Q I rx ry ⟨z,e1,e2,q⟩
 subst e1 e2
 obtain⟨t,rfl⟩:=rx
 cases ry
 obtain⟨f,hm,hf⟩:=h.map I
 refine wpAny_notIn_of (strKind_is X.prog X.w z t) h.sys hm ?_
 have e:(!(f z).isSome)=(false==(kvs.lookup z).isSome):=by
   have:=hf z
   cases hk:kvs.lookup z with
   | none=>rw[hk] at this;rw[this];rfl
   | some d=>rw[hk] at this;obtain⟨u,hu,_⟩:=this;rw[hu];rfl
 rw[e]
 exact⟨.bl _,H,I.tok _,rfl,q⟩
def zPJ (c:Bool)(kvs:List (Str×D))(fa:Ef):Tf:=fun ρ=>(fa ρ).bind fun d=>match d with | .str z=>some (c==(kvs.lookup z).isSome) | _=>none
theorem zLJ {c:Bool}{σ:St}{H:Hp}{Q:Bool->Hp->Prop}(q:tFT X.K (zPJ c kvs fa) σ H Q):zMS (tOp (zK8 X kvs da c) (tF X.K fa) (tC (.ref da))) σ H Q:=by
 obtain⟨G0,H0,G,ρ,c',good,hf,kk⟩:=q
 unfold zPJ at hf
 obtain⟨d,h1,hf⟩:=Qq.mp hf
 split at hf
 · rename_i z
   cases hf
   refine⟨G0,H0,G,ρ,_,good,h1,fun u H1 G1 s1 r1=>?_⟩
   exact⟨z,yI.mp r1,rfl,_,rfl,kk _ G1 s1⟩
 · cases hf
theorem zX8 (h:DictC X.w X.K da kvs)(hg:Gl X x)(hx:X.mg x=some (.ref da))(ha:PF X a fa)(hd:(x==("__debug__":Str))=false:=by decide)
   (hm:behindInMarks .NotIn (.Name x p)=false:=by first | exact zZa _ | (with_unfolding_all rfl)):PFT X (.Compare a [.NotIn] [.Name x p] pos) (zPJ false kvs fa) :=
 PT.to (zZU (zR3 h) ha (cU (v:=.ref da) hg hx rfl hd) hm) fun _ _ _=>zLJ
def zKa (X:Cx)(kvs:List (Str×D))(da:Addr):R2:=fun v y H Q=>∃z d,v = .ref da/\y = .str z/\kvs.lookup z=some d/\∀o,(∀G,Rep X.K G d o)->Q o H
theorem zJJ (h:DictC X.w X.K da kvs):IxR X (zKa X kvs da):=by
 intro value slice pins s σ H x y v u Q I rx ry ⟨z,d,e1,e2,e3,q⟩ hs
 subst e1 e2
 cases rx
 obtain⟨t,rfl⟩:=ry
 obtain⟨f,hm,hf⟩:=h.map I
 have:=hf z
 rw[e3] at this
 obtain⟨u,hu,hd⟩:=this
 obtain⟨o,ro,rep⟩:=zPy hd
 exact tail_any hm.typeIs slot_dict_getitem.lookup (wpAny_getItem_of (strKind_is X.prog X.w z t) hm hu ⟨o,H,I.tok _,ro,q o fun G=>rep _ G⟩) hs
def zNM (kvs:List (Str×D))(fb:Ef):Ef:=fun ρ=>(fb ρ).bind fun d=>match d with | .str z=>kvs.lookup z | _=>none
theorem zPC (h:DictC X.w X.K da kvs)(hg:Gl X x)(hx:X.mg x=some (.ref da))(hb:PF X b fb)(hd:(x==("__debug__":Str))=false:=by decide)(hs:zZO b:=by exact fun _ _=>rfl):PF X (.Subscript (.Name x p) b pos) (zNM kvs fb):=by
 refine PE.to (zP9 (zJJ h) (cU (v:=.ref da) hg hx rfl hd) hb hs) ?_
 rintro σ H Q ⟨G0,H0,G,ρ,d,good,hf,k⟩
 unfold zNM at hf
 obtain⟨y,h1,hf⟩:=Qq.mp hf
 split at hf
 · rename_i z
   refine⟨G0,H0,G,ρ,_,good,h1,fun u H1 G1 s1 r1=>⟨z,d,rfl,yI.mp r1,hf,fun o ho=>k _ _ G1 s1 (ho _)⟩⟩
 · cases hf
theorem zUF {w:World}{K:PySem.W.Frag}{n:Nat}(l:List (Str×Tok×Value))(h:K.lookup da=some ⟨.type "dict",none,.dict (zSW w.params l).toArray n,#[]⟩)(hs:(da==sysModules)=false)(hl:(l.all fun p=>(cR p.2.2).isSome)=true:=by rfl):DictC w K da (kvC l) :=
 ⟨hs,l,n,h,rfl,hl⟩
end
def zKh (l:List (Int×Tok×Value)):List DictEntry:=l.map fun p=>⟨hashInt p.1,.int p.1 p.2.1,p.2.2⟩
def kvN (l:List (Int×Tok×Value)):List (Int×D):=l.map fun p=>(p.1,(cR p.2.2).getD .non)
structure DictN (K:PySem.W.Frag)(a:Addr)(kvs:List (Int×D)):Prop where
 at':∃(l:List (Int×Tok×Value)) (n:Nat),K.lookup a=some ⟨.type "dict",none,.dict (zKh l).toArray n,#[]⟩/\kvs=kvN l/\(l.all fun p=>(cR p.2.2).isSome)=true
section
variable {X:Cx} {a b:Expr} {fa fb:Ef} {pos p:Pos} {x:Str} {da:Addr} {kvs:List (Int×D)}
variable {pins:List (Addr×Obj)} {σ:St} {H:Hp} {s:Shared}
end
theorem zZh (o:Option D):(o.map Out.rt).bind wA=o:=by cases o<;>rfl
theorem yT {f g:Sf}{ρ ρ':List B}(h:f ρ=some (.nx ρ')):zJ f g ρ=g ρ':=by unfold zJ;rw[h];rfl
theorem xF {f g:Sf}{ρ ρ':List B}{r:Option D}(h:f ρ=some (.nx ρ'))(k:(g ρ').bind wA=r):(zJ f g ρ).bind wA=r:=by rw[yT h];exact k
theorem zWJ {f g:Sf}{ρ:List B}{d:D}(h:f ρ=some (.rt d)):zJ f g ρ=some (.rt d):=by unfold zJ;rw[h];rfl
theorem iM {g:Gf}{body:Sf}{d:D}{r:List D}{ρ ρ1 ρ2:List B}(h1:g d ρ=some ρ1)(h2:body ρ1=some (.nx ρ2)):nD g body (d::r) ρ=nD g body r ρ2:=by
 rw[nD,h1,Qe,h2,Qe]
theorem yL {f:Ef}{g:Lf}{ρ:List B}{d:D}{ds:List D}(h1:f ρ=some d)(h2:g ρ=some ds):zY f g ρ=some (d::ds):=by unfold zY;rw[h1,h2];rfl
theorem zO7 {g:Lf}{ρ:List B}{ds:List D}(h:g ρ=some ds):eL g ρ=some (.lst ds):=by unfold eL;rw[h];rfl
theorem eU {n:Nat}{f:List D->Option D}{g:Lf}{ρ:List B}{ds:List D}(h:g ρ=some ds)(hl:ds.length=n):zM n f g ρ=f ds:=by unfold zM;rw[h,Qe,Qn hl]
theorem zVq {c:Str}{ns:List Str}{n:Nat}{f:List D->Option (List D)}{g:Lf}{ρ:List B}{ds xs:List D}(h:g ρ=some ds)(hl:ds.length=n)(hf:f ds=some xs)(hn:ns.length=xs.length):mK c ns n f g ρ=some (.obj c ns xs):=by
 unfold mK;rw[h,Qe,Qn hl,hf,Qe,Qn hn]
theorem zY8 {g:Gf}{body:Sf}{P:List B->Prop}:∀(ds:List D),(∀d∈ds,∀ρ,P ρ->∃ρ1 ρ2,g d ρ=some ρ1/\body ρ1=some (.nx ρ2)/\P ρ2)->∀ρ,P ρ->∃ρ',nD g body ds ρ=some (.nx ρ')/\P ρ'
 | [],_,ρ,h=>⟨ρ,rfl,h⟩
 | d::r,hs,ρ,h=>by
   obtain⟨ρ1,ρ2,e1,e2,h2⟩:=hs d Qf ρ h
   obtain⟨ρ',e,h'⟩:=zY8 r (fun d hd=>hs d (Qd _ hd)) ρ2 h2
   exact⟨ρ',by rw[iM e1 e2];exact e,h'⟩
theorem zSM {g:Gf}{body:Sf}{P:Nat->List B->Prop}:∀(ds:List D) (n:Nat),(∀(i:Nat) (d:D),ds[i]?=some d->∀ρ,P (n+i) ρ->∃ρ1 ρ2,g d ρ=some ρ1/\body ρ1=some (.nx ρ2)/\P (n+i+1) ρ2)->∀ρ,P n ρ->∃ρ',nD g body ds ρ=some (.nx ρ')/\P (n+ds.length) ρ'
 | [],_,_,ρ,h=>⟨ρ,rfl,h⟩
 | d::r,n,hs,ρ,h=>by
   obtain⟨ρ1,ρ2,e1,e2,h2⟩:=hs 0 d rfl ρ h
   obtain⟨ρ',e,h'⟩:=zSM r (n+1) (fun i d hd ρ hρ=>by
     have q:=hs (i+1) d (by simpa using hd) ρ (by rw[show n+(i+1)=n+1+i by omega];exact hρ)
     rw[show n+(i+1)+1=n+1+i+1 by omega] at q
     exact q) ρ2 h2
   exact⟨ρ',by rw[iM e1 e2];exact e,by rw[Qp,show n+(r.length+1)=n+1+r.length by omega];exact h'⟩
theorem zVf {lo:Int}{n:Nat}{d:D}(h:d∈vQ lo n):∃i:Nat,i < n/\d = .int (lo+i):=by
 unfold vQ at h
 obtain⟨i,hi,rfl⟩:=Wg.mp h
 exact⟨i,Es.mp hi,rfl⟩
theorem zPw {lo:Int}{n i:Nat}{d:D}(h:(vQ lo n)[i]?=some d):i < n/\d = .int (lo+i):=by
 have hl:(vQ lo n).length=n:=by simp[vQ]
 have hi:i < n:=by rw[←hl];exact(Qk.mp h).1
 unfold vQ at h
 rw[Wq,Tk hi] at h
 exact⟨hi,(Wa h).symm⟩
theorem zZ4 (lo:Int)(n:Nat):(vQ lo n).length=n:=by simp[vQ]
theorem zVz {elt:Ef}{h:D->D}{rest:List B}:∀(ds:List D) (x0:B) (acc:List D),(∀d∈ds,elt (.fz d::rest)=some (h d))->sF (gN 0) tOK elt ds (x0::rest) acc=some (acc++ds.map h)
 | [],_,acc,_=>by simp[sF]
 | d::r,x0,acc,hh=>by
   unfold sF
   have e1:gN 0 d (x0::rest)=some (.fz d::rest):=rfl
   have e2:tOK (.fz d::rest)=some true:=rfl
   rw[e1,Qe,e2,Qe,Qn rfl,hh d Qf,Qe,zVz r _ _ fun q hq=>hh q (Qd _ hq)]
   simp
theorem fQ {t:List D}(h:t.length<=100000):okL t=some t:=by
 unfold okL
 rw[Qn h]
theorem zQu {i j:Int}(h1 : -18446744073709551616 < i)(h2:i < 18446744073709551616):zVL i j=true:=by
 unfold zVL;simp only[En,Qx,Wc];exact .inl ⟨by omega,by omega⟩
theorem zMu {i j:Int}(h1 : -18446744073709551616 < j)(h2:j < 18446744073709551616):zVL i j=true:=by
 unfold zVL;simp only[En,Qx,Wc];exact .inr ⟨by omega,by omega⟩
end L2
noncomputable section
namespace My
open PySem L2
abbrev cC:Stmt:=top 48
abbrev fR:Stmt:=top 54
abbrev lY:Stmt:=top 53
abbrev nR:Stmt:=top 51
abbrev lH:Stmt:=top 52
abbrev qK:Stmt:=top 50
abbrev qM:Stmt:=top 55
abbrev mY:Stmt:=top 58
abbrev mD:Stmt:=top 59
abbrev uH:Stmt:=top 56
abbrev kH:Stmt:=top 57
abbrev kI:Stmt:=top 60
abbrev qC:Stmt:=top 27
abbrev bR:Stmt:=top 26
abbrev jN:Stmt:=top 44
abbrev gB:Stmt:=top 43
abbrev oJ:Stmt:=top 10
abbrev mL:Stmt:=top 8
abbrev kE:Stmt:=top 45
abbrev zUb:Stmt:=top 29
abbrev lL:Stmt:=top 42
abbrev zZH:Stmt:=top 5
abbrev nJ:Stmt:=top 14
abbrev zZf:Stmt:=top 16
abbrev zZW:Stmt:=top 6
abbrev eM:Stmt:=top 4
abbrev bI:Stmt:=top 15
abbrev iU:Stmt:=top 31
abbrev dF:Stmt:=top 30
abbrev fV:Stmt:=top 33
abbrev sP:Stmt:=top 34
abbrev zYB:Stmt:=top 46
abbrev gC:Stmt:=top 41
abbrev rO:Stmt:=top 9
abbrev nV:Stmt:=top 7
abbrev fO:Stmt:=top 40
abbrev qH:Stmt:=top 39
abbrev lZ:Stmt:=top 38
abbrev lG:Stmt:=top 67
abbrev fX:Stmt:=top 49
abbrev jJ:Stmt:=top 68
abbrev nS:Stmt:=top 61
abbrev mU:Stmt:=top 62
abbrev oN:Stmt:=top 63
abbrev kF:Stmt:=top 64
abbrev oG:Stmt:=top 65
abbrev jE:Stmt:=top 66
abbrev zQA:Stmt:=top 69
abbrev iQ:Stmt:=vW (top 12) 0
abbrev mH:Stmt:=vW (top 13) 0
abbrev mM:Stmt:=vW (top 22) 0
set_option genInjectivity false
set_option genSizeOf false
set_option genSizeOfSpec false
structure Txt (w:World)(K:PySem.W.Frag)(mg:Str->Option Value) where
 q0:FnT K mg "_law_mix" cC ["_law_cell","_law_factor"]
 q1:FnT K mg "_law_base" fR ["_law_dims"]
 q2:FnT K mg "_law_turn" lY ["_law_number","_law_dims"]
 q3:FnT K mg "_law_after" nR ["_law_one","_law_other"]
 q4:FnT K mg "_law_undone" lH ["_law_turn_here"]
 q5:FnT K mg "_law_turned" qK ["_law_turn_here","_law_corner"]
 q6:FnT K mg "_law_joined" qM ["_law_dims","_law_number"]
 q7:FnT K mg "_law_altered" mY ["_law_dims","_law_cell"]
 q8:FnT K mg "_law_fourth" mD ["_law_number"]
 q9:FnT K mg "_law_corners" uH ["_law_dims"]
 q10:FnT K mg "_law_loose" kH ["_law_dims","_law_cell"]
 q11:FnT K mg "_law_drawn" kI ["_law_dims","_law_cell"]
 q12:FnT K mg "is_made_of" qC ["text","signs","longest"]
 q13:FnT K mg "is_word" bR ["text"]
 q14:FnT K mg "read_head" jN ["words"]
 q15:FnT K mg "words_at" gB ["rows","row"]
 q16:FnT K mg "corner_of" oJ ["text","dims"]
 q17:FnT K mg "turn_of" mL ["text","dims"]
 q18:FnT K mg "read_part" kE ["words","dims","row"]
 q19:FnT K mg "full" zUb ["dims","level"]
 q20:FnT K mg "curve_from" lL ["rows"]
 q21:FnT K mg "still" zZH ["dims"]
 q22:FnT K mg "first_state" nJ ["dims"]
 q23:FnT K mg "walked" zZf ["curve","back","number"]
 q24:FnT K mg "after" zZW ["one","other"]
 q25:FnT K mg "turned" eM ["turn","corner"]
 q26:FnT K mg "part_at" bI ["curve","state","digit"]
 q27:FnT K mg "next_to" iU ["one","other"]
 q28:FnT K mg "deeper" dF ["place","corner"]
 q29:FnT K mg "unmet_at" fV ["curve","first"]
 q30:FnT K mg "meeting_of" sP ["curve"]
 q31:FnT K mg "fitted" zYB ["curve"]
 q32:FnT K mg "curve_of" gC ["text"]
 q33:FnT K mg "corner_text" rO ["corner"]
 q34:FnT K mg "turn_text" nV ["turn"]
 q35:FnT K mg "part_row" fO ["part"]
 q36:FnT K mg "curve_rows" qH ["curve"]
 q37:FnT K mg "curve_text" lZ ["curve"]
 q38:FnT K mg "_law_caught" lG ["_law_curve_here","_law_by_text"]
 q39:FnT K mg "_law_same" fX ["_law_found","_law_due"]
 q40:FnT K mg "_law_asked" jJ ["_law_curve_here","_law_least_here"]
 q41:FnT K mg "_law_curve" nS ["_law_dims","_law_joined_here","_law_parts"]
 q42:FnT K mg "_law_part_at" mU ["_law_parts","_law_state_here","_law_digit"]
 q43:FnT K mg "_law_state" oN ["_law_dims"]
 q44:FnT K mg "_law_faces" kF ["_law_one","_law_other","_law_axis","_law_up"]
 q45:FnT K mg "_law_unmet" oG ["_law_parts","_law_dims","_law_first","_law_most"]
 q46:FnT K mg "_law_least" jE ["_law_parts","_law_dims"]
 q47:FnT K mg "law" zQA ["_law_script"]
 C_Part:Addr
 fi_Part:Addr
 fdi_Part:FuncData
 ca_Part:ClsAt K "Part" C_Part
 cl_Part:Cls K C_Part
 mc_Part:mg "Part"=some (.ref C_Part)
 Fi_Part:Fun K "__init__" "Part.__init__" iQ fi_Part fdi_Part
 bi_Part:Binds K fdi_Part ["self","corner","turn","back"] []
 mk_Part:Mk K C_Part fi_Part
 n_Part_back:NoAttr K C_Part "back"
 n_Part_corner:NoAttr K C_Part "corner"
 n_Part_turn:NoAttr K C_Part "turn"
 C_Curve:Addr
 fi_Curve:Addr
 fdi_Curve:FuncData
 ca_Curve:ClsAt K "Curve" C_Curve
 cl_Curve:Cls K C_Curve
 mc_Curve:mg "Curve"=some (.ref C_Curve)
 Fi_Curve:Fun K "__init__" "Curve.__init__" mH fi_Curve fdi_Curve
 bi_Curve:Binds K fdi_Curve ["self","name","dims","joined","parts"] []
 mk_Curve:Mk K C_Curve fi_Curve
 n_Curve_dims:NoAttr K C_Curve "dims"
 n_Curve_joined:NoAttr K C_Curve "joined"
 n_Curve_name:NoAttr K C_Curve "name"
 n_Curve_parts:NoAttr K C_Curve "parts"
 fi_Unmet:Addr
 fdi_Unmet:FuncData
 Fi_Unmet:Fun K "__init__" "Unmet.__init__" mM fi_Unmet fdi_Unmet
 bi_Unmet:Binds K fdi_Unmet ["self","first","second","level"] []
 C_Unmet:Addr
 ca_Unmet:ClsAt K "Unmet" C_Unmet
 mc_Unmet:mg "Unmet"=some (.ref C_Unmet)
 xk_Unmet:XKit K C_Unmet
 xs_Unmet:XSt K C_Unmet
 xm_Unmet:XMk K C_Unmet fi_Unmet
 n_Unmet_first:NoAttr K C_Unmet "first"
 n_Unmet_second:NoAttr K C_Unmet "second"
 n_Unmet_level:NoAttr K C_Unmet "level"
 C_TextError:Addr
 ca_TextError:ClsAt K "TextError" C_TextError
 mc_TextError:mg "TextError"=some (.ref C_TextError)
 C_YardError:Addr
 ca_YardError:ClsAt K "YardError" C_YardError
 mc_YardError:mg "YardError"=some (.ref C_YardError)
 ix_Unmet:dP K (.ref C_Unmet) [(C_Unmet,true)]=true
 ix_TextError:dP K (.ref C_TextError) [(C_Unmet,false)]=true
 ix_ValueError:dP K (.type "ValueError") [(C_Unmet,true)]=true
 em_YardError_Unmet:PySem.W.exmOne K (.ref C_Unmet) (.ref C_YardError)=some true
 t_BITS:Tok
 c_BITS:mg "BITS"=some (.str "01" t_BITS)
 t_FLIPS:Tok
 c_FLIPS:mg "FLIPS"=some (.str "+-" t_FLIPS)
 t_AXES:Tok
 c_AXES:mg "AXES"=some (.str "xyz" t_AXES)
 t_LETTERS:Tok
 c_LETTERS:mg "LETTERS"=some (.str "abcdefghijklmnopqrstuvwxyz" t_LETTERS)
 t_LONGEST_WORD:Tok
 c_LONGEST_WORD:mg "LONGEST_WORD"=some (.int 12 t_LONGEST_WORD)
 da_PROMISES:Addr
 c_PROMISES:mg "PROMISES"=some (.ref da_PROMISES)
 dc_PROMISES:DictC w K da_PROMISES [("joined",.bl true),("loose",.bl false)]
 da_DIMS:Addr
 c_DIMS:mg "DIMS"=some (.ref da_DIMS)
 dc_DIMS:DictC w K da_DIMS [("2",.int 2),("3",.int 3)]
 z_ValueError:mg "ValueError"=none
 z_abs:mg "abs"=none
 z_all:mg "all"=none
 z_bool:mg "bool"=none
 z_int:mg "int"=none
 z_isinstance:mg "isinstance"=none
 z_len:mg "len"=none
 z_list:mg "list"=none
 z_min:mg "min"=none
 z_range:mg "range"=none
 z_reversed:mg "reversed"=none
 z_sorted:mg "sorted"=none
 z_str:mg "str"=none
 z_sum:mg "sum"=none
 z_tuple:mg "tuple"=none
 z_zip:mg "zip"=none
set_option genInjectivity true
set_option genSizeOf true
set_option genSizeOfSpec true
section
seal PySem.Sem.wp
variable {P:Program} {w:World} {K:PySem.W.Frag} {mg:Str->Option Value} {base:Heap}
theorem zRM:FnScope ["self","first","second","level"] ["self","first","second","level"] (zV mM):=yB (by decide +kernel)
def zOJ:Lf:=(zY (eV 1) (zY (eV 2) (zY (eV 3) zR)))
def zUN:List D->Option (List D):=fun ds=>zOJ (lR 4 ds)
theorem zRf (T:Txt w K mg):FnOk P w K mg base CX0 1 T.fi_Unmet T.fdi_Unmet ["self","first","second","level"] (spN K T.C_Unmet ["first","second","level"] 3 zUN) :=
 zPe (k:=0) T.Fi_Unmet zRM (by decide +kernel) (by decide) fun cdv A outer s H E hr =>
   (bO T.xs_Unmet T.n_Unmet_first rfl (Or.inl rfl) (zT 1) (bO T.xs_Unmet T.n_Unmet_second rfl (Or.inl rfl) (zT 2) (bO T.xs_Unmet T.n_Unmet_level rfl (Or.inl rfl) (zT 3) zPo)))
def zUV:List (Str×Bool):=[("Unmet",true)]
theorem zQZ (T:Txt w K mg):IsxOk K (.ref T.C_Unmet) zUV:=have h:=T.ix_Unmet;(zYT T.ca_Unmet T.xk_Unmet h fun h=>zWK)
def dZ:List (Str×Bool):=[("Unmet",false)]
theorem zXK (T:Txt w K mg):IsxOk K (.ref T.C_TextError) dZ:=have h:=T.ix_TextError;(zYT T.ca_Unmet T.xk_Unmet h fun h=>zWK)
def iA:List (Str×Bool):=[("Unmet",true)]
theorem zY2 (T:Txt w K mg):IsxOk K (.type "ValueError") iA:=have h:=T.ix_ValueError;(zYT T.ca_Unmet T.xk_Unmet h fun h=>zWK)
theorem zYc (T:Txt w K mg):ExOk K T.C_YardError ["Unmet"]:=⟨⟨T.C_Unmet,T.ca_Unmet,T.em_YardError_Unmet⟩,True.intro⟩
def zXa:List Str:=["Unmet"]
theorem zPz (T:Txt w K mg):XfOk K "level" zXa:=⟨⟨T.C_Unmet,T.ca_Unmet,T.xk_Unmet,T.xs_Unmet.ob,T.n_Unmet_level⟩,True.intro⟩
def zYI:List Str:=["Unmet"]
theorem zQT (T:Txt w K mg):XfOk K "second" zYI:=⟨⟨T.C_Unmet,T.ca_Unmet,T.xk_Unmet,T.xs_Unmet.ob,T.n_Unmet_second⟩,True.intro⟩
def zX6:List Str:=["Unmet"]
theorem zQa (T:Txt w K mg):XfOk K "first" zX6:=⟨⟨T.C_Unmet,T.ca_Unmet,T.xk_Unmet,T.xs_Unmet.ob,T.n_Unmet_first⟩,True.intro⟩
theorem zPg:FnScope ["self","corner","turn","back"] ["self","corner","turn","back"] (zV iQ):=yB (by decide +kernel)
def zOa:Lf:=(zY (eV 1) (zY (eV 2) (zY (eV 3) zR)))
def iY:List D->Option (List D):=fun ds=>zOa (lR 4 ds)
theorem zV6 (T:Txt w K mg):FnOk P w K mg base CX0 1 T.fi_Part T.fdi_Part ["self","corner","turn","back"] (spI K T.C_Part ["corner","turn","back"] 3 iY) :=
 zSc (k:=0) T.Fi_Part zPg (by decide +kernel) (by decide) fun cdv A outer s H E hr =>
   (pH T.cl_Part T.n_Part_corner rfl (Or.inl rfl) (zT 1) (pH T.cl_Part T.n_Part_turn rfl (Or.inl rfl) (zT 2) (pH T.cl_Part T.n_Part_back rfl (Or.inl rfl) (zT 3) zSb)))
theorem zRn:FnScope ["self","name","dims","joined","parts"] ["self","name","dims","joined","parts"] (zV mH):=yB (by decide +kernel)
def zPB:Lf:=(zY (eV 1) (zY (eV 2) (zY (eV 3) (zY (eL (zWL (eV 4))) zR))))
def oU:List D->Option (List D):=fun ds=>zPB (lR 5 ds)
theorem zXp (T:Txt w K mg):FnOk P w K mg base CX0 1 T.fi_Curve T.fdi_Curve ["self","name","dims","joined","parts"] (spI K T.C_Curve ["name","dims","joined","parts"] 4 oU) :=
 zSc (k:=0) T.Fi_Curve zRn (by decide +kernel) (by decide) fun cdv A outer s H E hr =>
   (pH T.cl_Curve T.n_Curve_name rfl (Or.inl rfl) (zT 1) (pH T.cl_Curve T.n_Curve_dims rfl (Or.inl rfl) (zT 2) (pH T.cl_Curve T.n_Curve_joined rfl (Or.inl rfl) (zT 3) (pH T.cl_Curve T.n_Curve_parts rfl (Or.inl rfl) (vN (zRO rfl T.z_list (zT 4))) zSb))))
theorem zYL:FnScope ["_law_cell","_law_factor","_law_mixed"] ["_law_cell","_law_factor"] (zV cC):=yB (by decide +kernel)
def bD:Sf:=(yC (rZ (uC (zYd (eV 2) (eV 2)) (eC (.int 2147483629))) (eC (.int 3))))
def kK:Sf:=(zJ (yK 2 (uC (lW (zYd (eV 0) (eV 1)) (eC (.int 12345))) (eC (.int 2147483647))))
   (bD))
def zXk:Sf :=
   (kK)
def vI:List D->Option D:=fnF 3 zXk
theorem oQ (T:Txt w K mg):OkT P w base T.q0 1 2 vI :=
 xD (k:=0) T.q0.F zYL fun cdv A outer s H E hr =>
   (zU kK rfl (zD 2 zYL.nd (vG (rB (fW (zT 0) (zT 1)) zW) zW))
     (zS (zG (uK (vG (fW (zT 2) (zT 2)) zW) zW))))
theorem uZ:FnScope ["_law_dims","_law_plain","_law_parts"] ["_law_dims"] (zV fR):=yB (by decide +kernel)
def zWf:Sf:=(fL 2 (sL (fS (iL (eV 2)) (xS (zY (yX (zY (yX (zY (eC (.int 1)) (zY (eC (.int 0)) (zY (eC (.int 0)) zR)))) (zY (yX (zY (yX (zY (eC (.int 1)) (zY (eC (.int 1)) zR))) (zY (yX (zY (eC (.int 0)) (zY (eC (.int 1)) zR))) (zY (yX (zY (eC (.int 2)) (zY (eC (.int 0)) zR))) zR)))) zR))) zR)))))
def dW:Sf:=(zJ (fL 2 (tV 2 (fS (iL (eV 2)) (xS (zY (yX (zY (yX (zY (eC (.int 1)) (zY (eC (.int 1)) (zY (eC (.int 1)) zR)))) (zY (eV 1) zR))) (zY (yX (zY (yX (zY (eC (.int 1)) (zY (eC (.int 1)) (zY (eC (.int 0)) zR)))) (zY (yX (zY (yX (zY (eC (.int 1)) (zY (eC (.int 1)) zR))) (zY (yX (zY (eC (.int 2)) (zY (eC (.int 0)) zR))) (zY (yX (zY (eC (.int 0)) (zY (eC (.int 1)) zR))) zR)))) zR))) zR))))))
   (zWf))
def eO:Sf:=(zJ (fL 2 (tV 2 (fS (iL (eV 2)) (xS (zY (yX (zY (yX (zY (eC (.int 0)) (zY (eC (.int 0)) (zY (eC (.int 1)) zR)))) (zY (yX (zY (yX (zY (eC (.int 1)) (zY (eC (.int 1)) zR))) (zY (yX (zY (eC (.int 2)) (zY (eC (.int 1)) zR))) (zY (yX (zY (eC (.int 0)) (zY (eC (.int 0)) zR))) zR)))) zR))) (zY (yX (zY (yX (zY (eC (.int 1)) (zY (eC (.int 0)) (zY (eC (.int 1)) zR)))) (zY (yX (zY (yX (zY (eC (.int 1)) (zY (eC (.int 0)) zR))) (zY (yX (zY (eC (.int 2)) (zY (eC (.int 1)) zR))) (zY (yX (zY (eC (.int 0)) (zY (eC (.int 1)) zR))) zR)))) zR))) zR))))))
   (dW))
def cQ:Sf:=(zJ (tV 2 (xS (zY (yX (zY (yX (zY (eC (.int 0)) (zY (eC (.int 0)) (zY (eC (.int 0)) zR)))) (zY (yX (zY (yX (zY (eC (.int 1)) (zY (eC (.int 0)) zR))) (zY (yX (zY (eC (.int 0)) (zY (eC (.int 0)) zR))) (zY (yX (zY (eC (.int 2)) (zY (eC (.int 0)) zR))) zR)))) zR))) (zY (yX (zY (yX (zY (eC (.int 0)) (zY (eC (.int 1)) (zY (eC (.int 0)) zR)))) (zY (yX (zY (yX (zY (eC (.int 1)) (zY (eC (.int 0)) zR))) (zY (yX (zY (eC (.int 2)) (zY (eC (.int 0)) zR))) (zY (yX (zY (eC (.int 0)) (zY (eC (.int 0)) zR))) zR)))) zR))) (zY (yX (zY (yX (zY (eC (.int 0)) (zY (eC (.int 1)) (zY (eC (.int 1)) zR)))) (zY (eV 1) zR))) zR)))))
   (eO))
def eJ:Sf:=(zJ (yK 1 (yX (zY (yX (zY (eC (.int 0)) (zY (eC (.int 0)) zR))) (zY (yX (zY (eC (.int 1)) (zY (eC (.int 0)) zR))) (zY (yX (zY (eC (.int 2)) (zY (eC (.int 0)) zR))) zR)))))
   (cQ))
def dX:Sf:=(zJ (sIf (eB2 gEq (eV 0) (eC (.int 2))) (zJ (yK 1 (yX (zY (yX (zY (eC (.int 0)) (zY (eC (.int 0)) zR))) (zY (yX (zY (eC (.int 1)) (zY (eC (.int 0)) zR))) zR))))
   (zJ (tV 2 (xS (zY (yX (zY (yX (zY (eC (.int 0)) (zY (eC (.int 0)) zR))) (zY (yX (zY (yX (zY (eC (.int 1)) (zY (eC (.int 0)) zR))) (zY (yX (zY (eC (.int 0)) (zY (eC (.int 0)) zR))) zR))) zR))) (zY (yX (zY (yX (zY (eC (.int 0)) (zY (eC (.int 1)) zR))) (zY (eV 1) zR))) (zY (yX (zY (yX (zY (eC (.int 1)) (zY (eC (.int 1)) zR))) (zY (eV 1) zR))) (zY (yX (zY (yX (zY (eC (.int 1)) (zY (eC (.int 0)) zR))) (zY (yX (zY (yX (zY (eC (.int 1)) (zY (eC (.int 1)) zR))) (zY (yX (zY (eC (.int 0)) (zY (eC (.int 1)) zR))) zR))) zR))) zR))))))
   (aP 2))) xL)
   (eJ))
def zUe:Sf :=
   (dX)
def fK:List D->Option (List D):=fnL 3 zUe
theorem zUx (T:Txt w K mg):zWO P w base T.q1 1 1 fK :=
 lC (k:=0) T.q1.F uZ fun cdv A outer s H E hr =>
   (zU dX rfl (yM (yU uI (zT 0) zW) (wP (zD 1 uZ.nd (zQ (zZ (zQ (zZ zW (zZ zW zX))) (zZ (zQ (zZ zW (zZ zW zX))) zX))))
     (wP (sT 2 uZ.nd (yD (zZ (zQ (zZ (zQ (zZ zW (zZ zW zX))) (zZ (zQ (zZ (zQ (zZ zW (zZ zW zX))) (zZ (zQ (zZ zW (zZ zW zX))) zX))) zX))) (zZ (zQ (zZ (zQ (zZ zW (zZ zW zX))) (zZ (zT 1) zX))) (zZ (zQ (zZ (zQ (zZ zW (zZ zW zX))) (zZ (zT 1) zX))) (zZ (zQ (zZ (zQ (zZ zW (zZ zW zX))) (zZ (zQ (zZ (zQ (zZ zW (zZ zW zX))) (zZ (zQ (zZ zW (zZ zW zX))) zX))) zX))) zX))))))
     (zS (iX 2)))) yY)
     (zU eJ rfl (zD 1 uZ.nd (zQ (zZ (zQ (zZ zW (zZ zW zX))) (zZ (zQ (zZ zW (zZ zW zX))) (zZ (zQ (zZ zW (zZ zW zX))) zX)))))
     (zU cQ rfl (sT 2 uZ.nd (yD (zZ (zQ (zZ (zQ (zZ zW (zZ zW (zZ zW zX)))) (zZ (zQ (zZ (zQ (zZ zW (zZ zW zX))) (zZ (zQ (zZ zW (zZ zW zX))) (zZ (zQ (zZ zW (zZ zW zX))) zX)))) zX))) (zZ (zQ (zZ (zQ (zZ zW (zZ zW (zZ zW zX)))) (zZ (zQ (zZ (zQ (zZ zW (zZ zW zX))) (zZ (zQ (zZ zW (zZ zW zX))) (zZ (zQ (zZ zW (zZ zW zX))) zX)))) zX))) (zZ (zQ (zZ (zQ (zZ zW (zZ zW (zZ zW zX)))) (zZ (zT 1) zX))) zX)))))
     (zU eO rfl (qQ 2 (sT 2 uZ.nd (zZV (eF (zT 2)) (gI (yD (zZ (zQ (zZ (zQ (zZ zW (zZ zW (zZ zW zX)))) (zZ (zQ (zZ (zQ (zZ zW (zZ zW zX))) (zZ (zQ (zZ zW (zZ zW zX))) (zZ (zQ (zZ zW (zZ zW zX))) zX)))) zX))) (zZ (zQ (zZ (zQ (zZ zW (zZ zW (zZ zW zX)))) (zZ (zQ (zZ (zQ (zZ zW (zZ zW zX))) (zZ (zQ (zZ zW (zZ zW zX))) (zZ (zQ (zZ zW (zZ zW zX))) zX)))) zX))) zX)))))))
     (zU dW rfl (qQ 2 (sT 2 uZ.nd (zZV (eF (zT 2)) (gI (yD (zZ (zQ (zZ (zQ (zZ zW (zZ zW (zZ zW zX)))) (zZ (zT 1) zX))) (zZ (zQ (zZ (zQ (zZ zW (zZ zW (zZ zW zX)))) (zZ (zQ (zZ (zQ (zZ zW (zZ zW zX))) (zZ (zQ (zZ zW (zZ zW zX))) (zZ (zQ (zZ zW (zZ zW zX))) zX)))) zX))) zX)))))))
     (zS (qQ 2 (lV (zZV (eF (zT 2)) (gI (yD (zZ (zQ (zZ (zQ (zZ zW (zZ zW (zZ zW zX)))) (zZ (zQ (zZ (zQ (zZ zW (zZ zW zX))) (zZ (zQ (zZ zW (zZ zW zX))) (zZ (zQ (zZ zW (zZ zW zX))) zX)))) zX))) zX))))))))))))
theorem nY:FnScope ["_law_number","_law_dims","_law_axes"] ["_law_number","_law_dims"] (zV lY):=yB (by decide +kernel)
def sU:Sf:=(yC (vX (eL (xY (iR (eV 1)) 1 [2,0] (gN 0) tOK (yX (zY (eIx (eV 1) (eV 0)) (zY (uC (rZ (eV 2) (eIx (eL (xS (zY (eC (.int 1)) (zY (eC (.int 2)) (zY (eC (.int 4)) zR))))) (eV 0))) (eC (.int 2))) zR)))))))
def sQ:Sf:=(zJ (sIf (eB2 gEq (eV 1) (eC (.int 3))) (yK 2 (eIx (eL (xS (zY (eL (xS (zY (eC (.int 0)) (zY (eC (.int 1)) (zY (eC (.int 2)) zR))))) (zY (eL (xS (zY (eC (.int 0)) (zY (eC (.int 2)) (zY (eC (.int 1)) zR))))) (zY (eL (xS (zY (eC (.int 1)) (zY (eC (.int 0)) (zY (eC (.int 2)) zR))))) (zY (eL (xS (zY (eC (.int 1)) (zY (eC (.int 2)) (zY (eC (.int 0)) zR))))) (zY (eL (xS (zY (eC (.int 2)) (zY (eC (.int 0)) (zY (eC (.int 1)) zR))))) (zY (eL (xS (zY (eC (.int 2)) (zY (eC (.int 1)) (zY (eC (.int 0)) zR))))) zR)))))))) (uC (rZ (eV 0) (eC (.int 8))) (eC (.int 6))))) (sIf (eB2 gEq (uC (rZ (eV 0) (eC (.int 8))) (eC (.int 2))) (eC (.int 1))) (yK 2 (eL (xS (zY (eC (.int 1)) (zY (eC (.int 0)) zR))))) xL))
   (sU))
def tU:Sf:=(zJ (yK 2 (eL (xS (zY (eC (.int 0)) (zY (eC (.int 1)) zR)))))
   (sQ))
def lU:Sf :=
   (tU)
def xC:List D->Option D:=fnF 3 lU
theorem nX (T:Txt w K mg):OkT P w base T.q2 1 2 xC :=
 xD (k:=0) T.q2.F nY fun cdv A outer s H E hr =>
   (zU tU rfl (zD 2 nY.nd (vN (yD (zZ zW (zZ zW zX)))))
     (zU sQ rfl (yM (yU uI (zT 1) zW) (zS (zD 2 nY.nd (xX (vN (yD (zZ (vN (yD (zZ zW (zZ zW (zZ zW zX))))) (zZ (vN (yD (zZ zW (zZ zW (zZ zW zX))))) (zZ (vN (yD (zZ zW (zZ zW (zZ zW zX))))) (zZ (vN (yD (zZ zW (zZ zW (zZ zW zX))))) (zZ (vN (yD (zZ zW (zZ zW (zZ zW zX))))) (zZ (vN (yD (zZ zW (zZ zW (zZ zW zX))))) zX)))))))) (vG (uK (zT 0) zW) zW)))) (zS (yM (yU uI (vG (uK (zT 0) zW) zW) zW) (zS (zD 2 nY.nd (vN (yD (zZ zW (zZ zW zX)))))) yY)))
     (zS (zG (uY rfl T.z_tuple (vN (wM (zV lY) ["_law_number","_law_dims","_law_axes"] ["_law_k"] ["_law_axes","_law_number"] [2,0] (uQ 0) (zYz rfl T.z_range (zT 1)) rfl rfl rfl (by decide +kernel) (fun _ _ _ _=>(yF 0 (show(List.Nodup (α:=PySem.Str) ["_law_k","_law_axes","_law_number"]) from by decide +kernel))) (fun _ _ _ _=>y0) (fun _ _ _ _=>(zQ (zZ (xX (zT 1) (zT 0)) (zZ (vG (uK (zT 2) (xX (vN (yD (zZ zW (zZ zW (zZ zW zX))))) (zT 0))) zW) zX)))))))))))
theorem zWG:FnScope ["_law_one","_law_other"] ["_law_one","_law_other"] (zV nR):=yB (by decide +kernel)
def zXW:Sf:=(yC (vX (eL (xY (iT (eV 0)) 2 [1] (gT (zP (gN 0) (zP (gN 1) xZ))) tOK (yX (zY (eIx (eIx (eV 2) (eV 0)) (eC (.int 0))) (zY (zW6 (eIx (eIx (eV 2) (eV 0)) (eC (.int 1))) (eV 1)) zR)))))))
def zUH:Sf :=
   (zXW)
def wZ:List D->Option D:=fnF 2 zUH
theorem wE (T:Txt w K mg):OkT P w base T.q3 1 2 wZ :=
 xD (k:=0) T.q3.F zWG fun cdv A outer s H E hr =>
   (zS (zG (uY rfl T.z_tuple (vN (wM (zV nR) ["_law_one","_law_other"] ["_law_axis","_law_flip"] ["_law_other"] [1] (zYi (xP (uQ 0) (xP (uQ 1) rS))) (zQM (zT 0)) rfl rfl rfl (by decide +kernel) (fun _ _ _ _=>(sA 2 rfl (zN (yF 0 (show(List.Nodup (α:=PySem.Str) ["_law_axis","_law_flip","_law_other"]) from by decide +kernel)) (zN (yF 1 (show(List.Nodup (α:=PySem.Str) ["_law_axis","_law_flip","_law_other"]) from by decide +kernel)) yG)) (zE (zE xU)))) (fun _ _ _ _=>y0) (fun _ _ _ _=>(zQ (zZ (xX (xX (zT 2) (zT 0)) zW) (zZ (zW7 (xX (xX (zT 2) (zT 0)) zW) (zT 1)) zX)))))))))
theorem nE:FnScope ["_law_turn_here","_law_back","_law_k"] ["_law_turn_here"] (zV lH):=yB (by decide +kernel)
def zZZ:Sf:=(zZE 1 (eIx (eIx (eV 0) (eV 2)) (eC (.int 0))) (yX (zY (eV 2) (zY (eIx (eIx (eV 0) (eV 2)) (eC (.int 1))) zR))))
def zYG:Sf:=(fL 1 (yC (vX (eV 1))))
def jL:Sf:=(zJ (qP (iR (wT (eV 0))) (gN 2) (zZZ))
   (zYG))
def jF:Sf:=(zJ (tV 1 (zM0 (xS (zY (eC .non) zR)) (wT (eV 0))))
   (jL))
def zVS:Sf :=
   (jF)
def vR:List D->Option D:=fnF 3 zVS
theorem nN (T:Txt w K mg):OkT P w base T.q4 1 1 vR :=
 xD (k:=0) T.q4.F nE fun cdv A outer s H E hr =>
   (zU jF rfl (sT 1 nE.nd (zLi (yD (zZ wU zX)) (wI rfl T.z_len (zT 0))))
     (zU jL rfl (sW Eo rfl (zYz rfl T.z_range (wI rfl T.z_len (zT 0))) (yF 2 nE.nd) (zS (zWa 1 (zQ (zZ (zT 2) (zZ (xX (xX (zT 0) (zT 2)) zW) zX))) (xX (xX (zT 0) (zT 2)) zW))))
     (zS (qQ 1 (zG (uY rfl T.z_tuple (zT 1)))))))
theorem zYb:FnScope ["_law_turn_here","_law_corner"] ["_law_turn_here","_law_corner"] (zV qK):=yB (by decide +kernel)
def zZ0:Sf:=(yC (vX (eL (xY (iT (eV 0)) 2 [1] (gT (zP (gN 0) (zP (gN 1) xZ))) tOK (zW6 (eIx (eV 2) (eV 0)) (eV 1))))))
def zVJ:Sf :=
   (zZ0)
def vV:List D->Option D:=fnF 2 zVJ
theorem nH (T:Txt w K mg):OkT P w base T.q5 1 2 vV :=
 xD (k:=0) T.q5.F zYb fun cdv A outer s H E hr =>
   (zS (zG (uY rfl T.z_tuple (vN (wM (zV qK) ["_law_turn_here","_law_corner"] ["_law_axis","_law_flip"] ["_law_corner"] [1] (zYi (xP (uQ 0) (xP (uQ 1) rS))) (zQM (zT 0)) rfl rfl rfl (by decide +kernel) (fun _ _ _ _=>(sA 2 rfl (zN (yF 0 (show(List.Nodup (α:=PySem.Str) ["_law_axis","_law_flip","_law_corner"]) from by decide +kernel)) (zN (yF 1 (show(List.Nodup (α:=PySem.Str) ["_law_axis","_law_flip","_law_corner"]) from by decide +kernel)) yG)) (zE (zE xU)))) (fun _ _ _ _=>y0) (fun _ _ _ _=>(zW7 (xX (zT 2) (zT 0)) (zT 1))))))))
theorem yA:FnScope ["_law_dims","_law_number","_law_base_here","_law_turn_here","_law_mirror","_law_parts","_law_bits","_law_corner","_law_inner","_law_lies"] ["_law_dims","_law_number"] (zV qM):=yB (by decide +kernel)
def aG:Sf:=(yK 6 (rZ (eV 6) (eC (.int 2))))
def uE:Sf:=(zJ (aF 5 (yX (zY (zM 2 vV (zY (eV 3) (zY (eV 7) zR))) (zY (eV 9) (zY (uL (eB2 gEq (uC (eV 6) (eC (.int 2))) (eC (.int 1)))) zR)))))
   (aG))
def qW:Sf:=(zJ (sIf (eB2 gEq (uC (eV 6) (eC (.int 2))) (eC (.int 1))) (yK 9 (zM 2 wZ (zY (eV 9) (zY (eV 4) zR)))) xL)
   (uE))
def wH:Sf:=(zJ (yK 9 (zM 2 wZ (zY (eV 3) (zY (zM 2 wZ (zY (eV 8) (zY (zM 1 vR (zY (eV 3) zR)) zR))) zR))))
   (qW))
def zZ1:Sf:=(aP 5)
def pT:Sf:=(zJ (qP (iL (eV 2)) (gT (zP (gN 7) (zP (gN 8) xZ))) (wH))
   (zZ1))
def pN:Sf:=(zJ (yK 6 (rZ (eV 1) (eC (.int 96))))
   (pT))
def pL:Sf:=(zJ (tV 5 (xS zR))
   (pN))
def oY:Sf:=(zJ (yK 4 (zM 2 wZ (zY (eV 3) (zY (zM 2 wZ (zY (eV 4) (zY (zM 1 vR (zY (eV 3) zR)) zR))) zR))))
   (pL))
def sX:Sf:=(zJ (yK 4 (vX (eL (xY (iR (eV 0)) 1 [] (gN 0) tOK (yX (zY (eV 0) (zY (zVG (uL (eB2 gEq (eV 0) (eC (.int 0))))) zR)))))))
   (oY))
def pC:Sf:=(zJ (sIf (eB2 gEq (uC (rZ (eV 1) (eC (.int 48))) (eC (.int 2))) (eC (.int 1))) (yK 2 (eL (zWz (iL (eV 2))))) xL)
   (sX))
def oR:Sf:=(zJ (yK 3 (zM 2 xC (zY (eV 1) (zY (eV 0) zR))))
   (pC))
def tM:Sf:=(zJ (yK 2 (eL (vY 1 fK (zY (eV 0) zR))))
   (oR))
def zVN:Sf :=
   (tM)
def tL:List D->Option (List D):=fnL 10 zVN
theorem gL (T:Txt w K mg):zWO P w base T.q6 2 2 tL :=
 lC (k:=1) T.q6.F yA fun cdv A outer s H E hr =>
   (zU tM rfl (zD 2 yA.nd (vN (zYN (zUx T) hr (zZ (zT 0) zX))))
     (zU oR rfl (zD 3 yA.nd (xT (nX T) hr (zZ (zT 1) (zZ (zT 0) zX))))
     (zU pC rfl (yM (yU uI (vG (uK (zT 1) zW) zW) zW) (zS (zD 2 yA.nd (vN (zYR rfl rfl T.z_list rfl T.z_reversed (eF (zT 2)))))) yY)
     (zU sX rfl (zD 4 yA.nd (uY rfl T.z_tuple (vN (wM (zV qM) ["_law_dims","_law_number","_law_base_here","_law_turn_here","_law_mirror","_law_parts","_law_bits","_law_corner","_law_inner","_law_lies"] ["_law_axis"] [] [] (uQ 0) (zYz rfl T.z_range (zT 0)) rfl rfl rfl (by decide +kernel) (fun _ _ _ _=>(yF 0 (show(List.Nodup (α:=PySem.Str) ["_law_axis"]) from by decide +kernel))) (fun _ _ _ _=>y0) (fun _ _ _ _=>(zQ (zZ (zT 0) (zZ (zOK rfl T.z_int (sZ uI (zT 0) zW)) zX))))))))
     (zU oY rfl (zD 4 yA.nd (xT (wE T) hr (zZ (zT 3) (zZ (xT (wE T) hr (zZ (zT 4) (zZ (xT (nN T) hr (zZ (zT 3) zX)) zX))) zX))))
     (zU pL rfl (sT 5 yA.nd (yD zX))
     (zU pN rfl (zD 6 yA.nd (uK (zT 1) zW))
     (zU pT rfl (sW Eo rfl (zTP (zT 2)) (sA 2 rfl (zN (yF 7 yA.nd) (zN (yF 8 yA.nd) yG)) (zE (zE xU))) (zU wH rfl (zD 9 yA.nd (xT (wE T) hr (zZ (zT 3) (zZ (xT (wE T) hr (zZ (zT 8) (zZ (xT (nN T) hr (zZ (zT 3) zX)) zX))) zX))))
     (zU qW rfl (yM (yU uI (vG (zT 6) zW) zW) (zS (zD 9 yA.nd (xT (wE T) hr (zZ (zT 9) (zZ (zT 4) zX))))) yY)
     (zU uE rfl (zZv 5 (sC El Rz Rx pZ (pv 5) (yV (zQ (zZ (xT (nH T) hr (zZ (zT 3) (zZ (zT 7) zX))) (zZ (zT 9) (zZ (sZ uI (vG (zT 6) zW) zW) zX)))) yE)))
     (zS (zD 6 yA.nd (uK (zT 6) zW)))))))
     (zS (iX 5))))))))))
theorem xA:FnScope ["_law_dims","_law_cell","_law_number","_law_parts","_law_at","_law_other","_law_corner","_law_turn_here","_law_back"] ["_law_dims","_law_cell"] (zV mY):=yB (by decide +kernel)
def aD:Sf:=(aP 3)
def qS:Sf:=(zJ (sIf (eB2 gEq (uC (eV 5) (eC (.int 3))) (eC (.int 0))) (zZE 3 (eV 4) (yX (zY (eV 6) (zY (eV 7) (zY (uL (vM (tB1 (eV 8)))) zR))))) (zZE 3 (eV 4) (yX (zY (eV 6) (zY (zM 2 xC (zY (rZ (eV 5) (eC (.int 3))) (zY (eV 0) zR))) (zY (uL (eB2 gEq (uC (rZ (eV 5) (eC (.int 200))) (eC (.int 2))) (eC (.int 1)))) zR))))))
   (aD))
def qU:Sf:=(zJ (uU (zNL 3 (eV 4)) (gT (zP (gN 6) (zP (gN 7) (zP (gN 8) xZ)))))
   (qS))
def qZ:Sf:=(zJ (yK 5 (zM 2 vI (zY (eV 1) (zY (eC (.int 39373)) zR))))
   (qU))
def rA:Sf:=(zJ (yK 4 (uC (eV 2) (jW 3)))
   (qZ))
def rE:Sf:=(zJ (tV 3 (vY 2 tL (zY (eV 0) (zY (rZ (eV 2) (eC (.int 8))) zR))))
   (rA))
def uF:Sf:=(zJ (yK 2 (zM 2 vI (zY (eV 1) (zY (eC (.int 16807)) zR))))
   (rE))
def zXO:Sf :=
   (uF)
def mV:List D->Option (List D):=fnL 9 zXO
theorem zY7 (T:Txt w K mg):zWO P w base T.q7 3 2 mV :=
 lC (k:=2) T.q7.F xA fun cdv A outer s H E hr =>
   (zU uF rfl (zD 2 xA.nd (xT (oQ T) hr (zZ (zT 1) (zZ zW zX))))
     (zU rE rfl (sT 3 xA.nd (zYN (gL T) hr (zZ (zT 0) (zZ (uK (zT 2) zW) zX))))
     (zU rA rfl (zD 4 xA.nd (vG (zT 2) (zZI 3 rfl T.z_len)))
     (zU qZ rfl (zD 5 xA.nd (xT (oQ T) hr (zZ (zT 1) (zZ zW zX))))
     (zU qU rfl (vU (zL6 3 (zT 4)) (sA 3 rfl (zN (yF 6 xA.nd) (zN (yF 7 xA.nd) (zN (yF 8 xA.nd) yG))) (zE (zE (zE xU)))))
     (zU qS rfl (yM (yU uI (vG (zT 5) zW) zW) (zS (zWa 3 (zQ (zZ (zT 6) (zZ (zT 7) (zZ (zP4 (zT 8)) zX)))) (zT 4))) (zS (zWa 3 (zQ (zZ (zT 6) (zZ (xT (nX T) hr (zZ (uK (zT 5) zW) (zZ (zT 0) zX))) (zZ (sZ uI (vG (uK (zT 5) zW) zW) zW) zX)))) (zT 4))))
     (zS (iX 3))))))))
theorem xJ:FnScope ["_law_number","_law_parts","_law_turn_here","_law_found","_law_corner","_law_inner","_law_back","_law_lies"] ["_law_number"] (zV mD):=yB (by decide +kernel)
def kW:Sf:=(aF 3 (yX (zY (zM 2 vV (zY (eV 2) (zY (eV 4) zR))) (zY (eV 7) (zY (eV 6) zR)))))
def vP:Sf:=(zJ (yK 7 (zM 2 wZ (zY (eV 2) (zY (zM 2 wZ (zY (eV 5) (zY (zM 1 vR (zY (eV 2) zR)) zR))) zR))))
   (kW))
def zYY:Sf:=(aP 3)
def pO:Sf:=(zJ (qP (iL (eV 1)) (gT (zP (gN 4) (zP (gN 5) (zP (gN 6) xZ)))) (vP))
   (zYY))
def oP:Sf:=(zJ (tV 3 (xS zR))
   (pO))
def tT:Sf:=(zJ (yK 2 (zM 2 xC (zY (eV 0) (zY (eC (.int 2)) zR))))
   (oP))
def sJ:Sf:=(zJ (sIf (eB2 gEq (uC (rZ (eV 0) (eC (.int 48))) (eC (.int 2))) (eC (.int 1))) (yK 1 (eL (zWz (iL (eV 1))))) xL)
   (tT))
def jO:Sf:=(zJ (yK 1 (eL (fS (iL (eV 1)) (xS (zY (yX (zY (yX (zY (eC (.int 0)) (zY (eC (.int 0)) zR))) (zY (yX (zY (yX (zY (eC (.int 1)) (zY (eC (.int 0)) zR))) (zY (yX (zY (eC (.int 0)) (zY (eC (.int 0)) zR))) zR))) (zY (eC (.bl true)) zR)))) (zY (yX (zY (yX (zY (eC (.int 1)) (zY (eC (.int 0)) zR))) (zY (yX (zY (yX (zY (eC (.int 1)) (zY (eC (.int 1)) zR))) (zY (yX (zY (eC (.int 0)) (zY (eC (.int 0)) zR))) zR))) (zY (eC (.bl false)) zR)))) zR))))))
   (sJ))
def sY:Sf:=(zJ (yK 1 (eL (xS (zY (yX (zY (yX (zY (eC (.int 1)) (zY (eC (.int 1)) zR))) (zY (yX (zY (yX (zY (eC (.int 0)) (zY (eC (.int 1)) zR))) (zY (yX (zY (eC (.int 1)) (zY (eC (.int 0)) zR))) zR))) (zY (eC (.bl false)) zR)))) (zY (yX (zY (yX (zY (eC (.int 0)) (zY (eC (.int 1)) zR))) (zY (yX (zY (yX (zY (eC (.int 1)) (zY (eC (.int 0)) zR))) (zY (yX (zY (eC (.int 0)) (zY (eC (.int 1)) zR))) zR))) (zY (eC (.bl false)) zR)))) zR)))))
   (jO))
def zVX:Sf :=
   (sY)
def tG:List D->Option (List D):=fnL 8 zVX
theorem zXQ (T:Txt w K mg):zWO P w base T.q8 2 1 tG :=
 lC (k:=1) T.q8.F xJ fun cdv A outer s H E hr =>
   (zU sY rfl (zD 1 xJ.nd (vN (yD (zZ (zQ (zZ (zQ (zZ zW (zZ zW zX))) (zZ (zQ (zZ (zQ (zZ zW (zZ zW zX))) (zZ (zQ (zZ zW (zZ zW zX))) zX))) (zZ wN zX)))) (zZ (zQ (zZ (zQ (zZ zW (zZ zW zX))) (zZ (zQ (zZ (zQ (zZ zW (zZ zW zX))) (zZ (zQ (zZ zW (zZ zW zX))) zX))) (zZ wN zX)))) zX)))))
     (zU jO rfl (zD 1 xJ.nd (vN (zZV (eF (zT 1)) (gI (yD (zZ (zQ (zZ (zQ (zZ zW (zZ zW zX))) (zZ (zQ (zZ (zQ (zZ zW (zZ zW zX))) (zZ (zQ (zZ zW (zZ zW zX))) zX))) (zZ wN zX)))) (zZ (zQ (zZ (zQ (zZ zW (zZ zW zX))) (zZ (zQ (zZ (zQ (zZ zW (zZ zW zX))) (zZ (zQ (zZ zW (zZ zW zX))) zX))) (zZ wN zX)))) zX)))))))
     (zU sJ rfl (yM (yU uI (vG (uK (zT 0) zW) zW) zW) (zS (zD 1 xJ.nd (vN (zYR rfl rfl T.z_list rfl T.z_reversed (eF (zT 1)))))) yY)
     (zU tT rfl (zD 2 xJ.nd (xT (nX T) hr (zZ (zT 0) (zZ zW zX))))
     (zU oP rfl (sT 3 xJ.nd (yD zX))
     (zU pO rfl (sW Eo rfl (zTP (zT 1)) (sA 3 rfl (zN (yF 4 xJ.nd) (zN (yF 5 xJ.nd) (zN (yF 6 xJ.nd) yG))) (zE (zE (zE xU)))) (zU vP rfl (zD 7 xJ.nd (xT (wE T) hr (zZ (zT 2) (zZ (xT (wE T) hr (zZ (zT 5) (zZ (xT (nN T) hr (zZ (zT 2) zX)) zX))) zX))))
     (zS (zZv 3 (sC El Rz Rx pZ (pv 3) (yV (zQ (zZ (xT (nH T) hr (zZ (zT 2) (zZ (zT 4) zX))) (zZ (zT 7) (zZ (zT 6) zX)))) yE))))))
     (zS (iX 3))))))))
theorem pA:FnScope ["_law_dims","_law_corners_here"] ["_law_dims"] (zV uH):=yB (by decide +kernel)
def aA:Sf:=(aP 1)
def kU:Sf:=(zJ (sIf (eB2 gEq (eV 0) (eC (.int 3))) (fL 1 (tV 1 (fS (xY (iL (eV 1)) 2 [] (gT (zP (gN 0) (zP (gN 1) xZ))) tOK (yX (zY (eV 0) (zY (eV 1) (zY (eC (.int 0)) zR))))) (xY (iL (eV 1)) 2 [] (gT (zP (gN 0) (zP (gN 1) xZ))) tOK (yX (zY (eV 0) (zY (eV 1) (zY (eC (.int 1)) zR)))))))) xL)
   (aA))
def kY:Sf:=(zJ (tV 1 (xS (zY (yX (zY (eC (.int 0)) (zY (eC (.int 0)) zR))) (zY (yX (zY (eC (.int 1)) (zY (eC (.int 0)) zR))) (zY (yX (zY (eC (.int 0)) (zY (eC (.int 1)) zR))) (zY (yX (zY (eC (.int 1)) (zY (eC (.int 1)) zR))) zR))))))
   (kU))
def zXZ:Sf :=
   (kY)
def rW:List D->Option (List D):=fnL 2 zXZ
theorem zZt (T:Txt w K mg):zWO P w base T.q9 1 1 rW :=
 lC (k:=0) T.q9.F pA fun cdv A outer s H E hr =>
   (zU kY rfl (sT 1 pA.nd (yD (zZ (zQ (zZ zW (zZ zW zX))) (zZ (zQ (zZ zW (zZ zW zX))) (zZ (zQ (zZ zW (zZ zW zX))) (zZ (zQ (zZ zW (zZ zW zX))) zX))))))
     (zU kU rfl (yM (yU uI (zT 0) zW) (zS (qQ 1 (sT 1 pA.nd (zTO (wM (zV uH) ["_law_dims","_law_corners_here"] ["_law_x","_law_y"] [] [] (zYi (xP (uQ 0) (xP (uQ 1) rS))) (zTP (zT 1)) rfl rfl rfl (by decide +kernel) (fun _ _ _ _=>(sA 2 rfl (zN (yF 0 (show(List.Nodup (α:=PySem.Str) ["_law_x","_law_y"]) from by decide +kernel)) (zN (yF 1 (show(List.Nodup (α:=PySem.Str) ["_law_x","_law_y"]) from by decide +kernel)) yG)) (zE (zE xU)))) (fun _ _ _ _=>y0) (fun _ _ _ _=>(zQ (zZ (zT 0) (zZ (zT 1) (zZ zW zX)))))) (wM (zV uH) ["_law_dims","_law_corners_here"] ["_law_x","_law_y"] [] [] (zYi (xP (uQ 0) (xP (uQ 1) rS))) (zTP (zT 1)) rfl rfl rfl (by decide +kernel) (fun _ _ _ _=>(sA 2 rfl (zN (yF 0 (show(List.Nodup (α:=PySem.Str) ["_law_x","_law_y"]) from by decide +kernel)) (zN (yF 1 (show(List.Nodup (α:=PySem.Str) ["_law_x","_law_y"]) from by decide +kernel)) yG)) (zE (zE xU)))) (fun _ _ _ _=>y0) (fun _ _ _ _=>(zQ (zZ (zT 0) (zZ (zT 1) (zZ zW zX)))))))))) yY)
     (zS (iX 1))))
theorem tW:FnScope ["_law_dims","_law_cell","_law_left","_law_parts","_law_number","_law_corner"] ["_law_dims","_law_cell"] (zV kH):=yB (by decide +kernel)
def zXU:Sf:=(aP 3)
def nQ:Sf:=(zJ (uM (bK 2) (zJ (yK 4 (zM 2 vI (zY (eV 1) (zY (lW (eC (.int 48271)) (zYd (eC (.int 997)) (jW 2))) zR))))
   (zJ (zRj 5 2 (uC (eV 4) (jW 2)))
   (aF 3 (yX (zY (eV 5) (zY (zM 2 xC (zY (rZ (eV 4) (eC (.int 8))) (zY (eV 0) zR))) (zY (uL (eB2 gEq (uC (rZ (eV 4) (eC (.int 800))) (eC (.int 2))) (eC (.int 1)))) zR))))))) 100)
   (zXU))
def nO:Sf:=(zJ (tV 3 (xS zR))
   (nQ))
def rP:Sf:=(zJ (tV 2 (vY 1 rW (zY (eV 0) zR)))
   (nO))
def zVk:Sf :=
   (rP)
def nZ:List D->Option (List D):=fnL 6 zVk
theorem zWM (T:Txt w K mg):zWO P w base T.q10 2 2 nZ :=
 lC (k:=1) T.q10.F tW fun cdv A outer s H E hr =>
   (zU rP rfl (sT 2 tW.nd (zYN (zZt T) hr (zZ (zT 0) zX)))
     (zU nO rfl (sT 3 tW.nd (yD zX))
     (zU nQ rfl (zWR 100 Eo (zPd 2 hr) (wP (zD 4 tW.nd (xT (oQ T) hr (zZ (zT 1) (zZ (rB zW (fW zW (zZI 2 rfl T.z_len))) zX))))
     (wP (zNY 5 2 tW.nd (sC El PySem.F.slot_list_pop PySem.F.type_list_pop zPc (pv 2) (yV (vG (zT 4) (zZI 2 rfl T.z_len)) yE)))
     (zS (zZv 3 (sC El Rz Rx pZ (pv 3) (yV (zQ (zZ (zT 5) (zZ (xT (nX T) hr (zZ (uK (zT 4) zW) (zZ (zT 0) zX))) (zZ (sZ uI (vG (uK (zT 4) zW) zW) zW) zX)))) yE)))))))
     (zS (iX 3)))))
theorem eT:FnScope ["_law_dims","_law_cell","_law_number"] ["_law_dims","_law_cell"] (zV kI):=yB (by decide +kernel)
def nL:Sf:=(sL (vY 2 mV (zY (eV 0) (zY (eV 1) zR))))
def rM:Sf:=(zJ (sIf (eB2 gEq (uC (eV 2) (eC (.int 4))) (eC (.int 1))) (sL (vY 2 tL (zY (eV 0) (zY (rZ (eV 2) (eC (.int 4))) zR)))) xL)
   (nL))
def nI:Sf:=(zJ (sIf (eB2 gEq (uC (eV 2) (eC (.int 4))) (eC (.int 0))) (sL (vY 2 nZ (zY (eV 0) (zY (eV 1) zR)))) xL)
   (rM))
def nK:Sf:=(zJ (sIf (kX (eB2 gEq (eV 0) (eC (.int 2))) (eB2 gEq (uC (rZ (eV 2) (eC (.int 7))) (eC (.int 4))) (eC (.int 0)))) (sL (vY 1 tG (zY (rZ (eV 2) (eC (.int 28))) zR))) xL)
   (nI))
def rR:Sf:=(zJ (yK 2 (zM 2 vI (zY (eV 1) (zY (eC (.int 40692)) zR))))
   (nK))
def zVu:Sf :=
   (rR)
def jK:List D->Option (List D):=fnL 3 zVu
theorem zWE (T:Txt w K mg):zWO P w base T.q11 4 2 jK :=
 lC (k:=3) T.q11.F eT fun cdv A outer s H E hr =>
   (zU rR rfl (zD 2 eT.nd (xT (oQ T) hr (zZ (zT 1) (zZ zW zX))))
     (zU nK rfl (yM (bJ (zZS (yU uI (zT 0) zW) (eN (yU uI (vG (uK (zT 2) zW) zW) zW)))) (zS (lV (zYN (zXQ T) hr (zZ (uK (zT 2) zW) zX)))) yY)
     (zU nI rfl (yM (yU uI (vG (zT 2) zW) zW) (zS (lV (zYN (zWM T) hr (zZ (zT 0) (zZ (zT 1) zX))))) yY)
     (zU rM rfl (yM (yU uI (vG (zT 2) zW) zW) (zS (lV (zYN (gL T) hr (zZ (zT 0) (zZ (uK (zT 2) zW) zX))))) yY)
     (zS (lV (zYN (zY7 T) hr (zZ (zT 0) (zZ (zT 1) zX)))))))))
theorem zYn:FnScope ["text","signs","longest"] ["text","signs","longest"] (zV qC):=yB (by decide +kernel)
def zZi:Sf:=(yC (zYW (uL (eB3 gLe gLe (eC (.int 1)) (wT (eV 0)) (eV 2))) (zLh (eL (xY (iS (eV 0)) 1 [1] (gN 0) tOK (uL (eB2 gIn (eV 0) (eV 1))))))))
def zWt:Sf :=
   (zZi)
def dC:List D->Option D:=fnF 3 zWt
theorem zYq (T:Txt w K mg):OkT P w base T.q12 1 3 dC :=
 xD (k:=0) T.q12.F zYn fun cdv A outer s H E hr =>
   (zS (zG (zVQ (zQy zMQ zMQ zW (wI rfl T.z_len (zT 0)) (zT 2)) (zTT (zMw rfl rfl T.z_all (vN (wM (zV qC) ["text","signs","longest"] ["sign"] ["signs"] [1] (uQ 0) (zOh (zT 0)) rfl rfl rfl (by decide +kernel) (fun _ _ _ _=>(yF 0 (show(List.Nodup (α:=PySem.Str) ["sign","signs"]) from by decide +kernel))) (fun _ _ _ _=>y0) (fun _ _ _ _=>(sZ zKG (zT 0) (zT 1))))))))))
theorem zTJ:FnScope ["text"] ["text"] (zV bR):=yB (by decide +kernel)
def zUT:Sf:=(yC (zM 3 dC (zY (eV 0) (zY (eC (.str "abcdefghijklmnopqrstuvwxyz")) (zY (eC (.int 12)) zR)))))
def zRX:Sf :=
   (zUT)
def zXq:List D->Option D:=fnF 1 zRX
theorem zT0 (T:Txt w K mg):OkT P w base T.q13 2 1 zXq :=
 xD (k:=1) T.q13.F zTJ fun cdv A outer s H E hr =>
   (zS (zG (xT (zYq T) hr (zZ (zT 0) (zZ (lA rfl T.c_LETTERS) (zZ (zNr rfl T.c_LONGEST_WORD) zX))))))
theorem zW8:FnScope ["words"] ["words"] (zV jN):=yB (by decide +kernel)
def zXM:Sf:=(yC (yX (zY (eIx (eV 0) (eC (.int 1))) (zY (zNM [("joined",.bl true),("loose",.bl false)] (eIx (eV 0) (eC (.int 2)))) (zY (zNM [("2",.int 2),("3",.int 3)] (eIx (eV 0) (eC (.int 3)))) zR)))))
def gY:Sf:=(zJ (sIf (eR (zPJ false [("joined",.bl true),("loose",.bl false)] (eIx (eV 0) (eC (.int 2)))) (zPJ false [("2",.int 2),("3",.int 3)] (eIx (eV 0) (eC (.int 3))))) (fun _=>none) xL)
   (zXM))
def iI:Sf:=(zJ (sIf (eR (eB2 gNe (wT (eV 0)) (eC (.int 4))) (eR (eB2 gNe (eIx (eV 0) (eC (.int 0))) (eC (.str "curve"))) (vM (tB1 (zM 1 zXq (zY (eIx (eV 0) (eC (.int 1))) zR)))))) (fun _=>none) xL)
   (gY))
def zUJ:Sf :=
   (iI)
def oH:List D->Option D:=fnF 1 zUJ
theorem zWs (T:Txt w K mg):OkT P w base T.q14 3 1 oH :=
 xD (k:=2) T.q14.F zW8 fun cdv A outer s H E hr =>
   (zU iI rfl (yM (bJ (oX (yU gW (wI rfl T.z_len (zT 0)) zW) (oX (yU gW (xX (zT 0) zW) uX) (qO (rQ (xN (xT (zT0 T) hr (zZ (xX (zT 0) zW) zX)))))))) (zS sN) yY)
     (zU gY rfl (yM (bJ (oX (zX8 T.dc_PROMISES rfl T.c_PROMISES (xX (zT 0) zW)) (qO (zX8 T.dc_DIMS rfl T.c_DIMS (xX (zT 0) zW))))) (zS sN) yY)
     (zS (zG (zQ (zZ (xX (zT 0) zW) (zZ (zPC T.dc_PROMISES rfl T.c_PROMISES (xX (zT 0) zW)) (zZ (zPC T.dc_DIMS rfl T.c_DIMS (xX (zT 0) zW)) zX))))))))
theorem zV8:FnScope ["rows","row"] ["rows","row"] (zV gB):=yB (by decide +kernel)
def dY:Sf:=(sL (jT (eIx (eV 0) (rF (eV 1) (eC (.int 1)))) (eC (.str " "))))
def qB:Sf:=(zJ (sIf (eB2 gGt (eV 1) (wT (eV 0))) (fun _=>none) xL)
   (dY))
def zTR:Sf :=
   (qB)
def uD:List D->Option (List D):=fnL 2 zTR
theorem bF (T:Txt w K mg):zWO P w base T.q15 3 2 uD :=
 lC (k:=2) T.q15.F zV8 fun cdv A outer s H E hr =>
   (zU qB rfl (yM (yU zOC (zT 1) (wI rfl T.z_len (zT 0))) (zS sN) yY)
     (zS (lV (zYV (sC Wx Up Ua zYx (xX (zT 0) (nF (zT 1) zW)) (yV uX yE))))))
theorem eB:FnScope ["text","dims","bits"] ["text","dims"] (zV oJ):=yB (by decide +kernel)
def zYk:Sf:=(yC (vX (eV 2)))
def iH:Sf:=(zJ (fL 2 (sIf (eR (eB2 gNe (wT (eV 2)) (eV 1)) (eB2 zPk (zNe (eC (.int 1))) (eV 2))) (yC (eC .non)) xL))
   (zYk))
def gU:Sf:=(zJ (tV 2 (xY (iS (eV 0)) 1 [] (gN 0) tOK (zU6 (eC (.str "01")) (eV 0))))
   (iH))
def zVp:Sf :=
   (gU)
def bG:List D->Option D:=fnF 3 zVp
theorem zWr (T:Txt w K mg):OkT P w base T.q16 1 2 bG :=
 xD (k:=0) T.q16.F eB fun cdv A outer s H E hr =>
   (zU gU rfl (pF (zV oJ) ["text","dims","bits"] ["sign"] [] [] (uQ 0) 2 eB.nd rfl rfl (zOh (zT 0)) rfl rfl rfl (by decide +kernel) (fun _ _ _ _=>(yF 0 (show(List.Nodup (α:=PySem.Str) ["sign"]) from by decide +kernel))) (fun _ _ _ _=>y0) (fun _ _ _ _=>(zVW (sC Wx Uj Uk zVY (lA rfl T.c_BITS) (yV (zT 0) yE)))))
     (zU iH rfl (qQ 2 (yM (bJ (oX (yU gW (wI rfl T.z_len (zT 2)) (zT 1)) (qO (yU zPM (zPW zW) (zT 2))))) (zS (zG wU)) yY))
     (zS (zG (uY rfl T.z_tuple (zT 2))))))
theorem fT:FnScope ["text","dims","flips","axes"] ["text","dims"] (zV mL):=yB (by decide +kernel)
def zVF:Sf:=(yC (zWw (eV 3) (eV 2)))
def aK:Sf:=(zJ (fL 2 (fL 3 (sIf (eR (eB2 zPk (zNe (eC (.int 1))) (eV 2)) (eB2 zQS (eL (zWk (iL (eV 3)))) (eL (zTG (eV 1))))) (yC (eC .non)) xL)))
   (zVF))
def aT:Sf:=(zJ (tV 3 (xY (iS (zSE (eV 0) (eC (.int 1)) (eC (.int 2)))) 1 [] (gN 0) tOK (zU6 (eC (.str "xyz")) (eV 0))))
   (aK))
def aO:Sf:=(zJ (tV 2 (xY (iS (zSE (eV 0) (eC (.int 0)) (eC (.int 2)))) 1 [] (gN 0) tOK (zU6 (eC (.str "+-")) (eV 0))))
   (aT))
def aY:Sf:=(zJ (sIf (eB2 zQS (wT (eV 0)) (zYd (eC (.int 2)) (eV 1))) (yC (eC .non)) xL)
   (aO))
def zRs:Sf :=
   (aY)
def zX7:List D->Option D:=fnF 4 zRs
theorem zUa (T:Txt w K mg):OkT P w base T.q17 1 2 zX7 :=
 xD (k:=0) T.q17.F fT fun cdv A outer s H E hr =>
   (zU aY rfl (yM (yU (zWi hr) (wI rfl T.z_len (zT 0)) (fW zW (zT 1))) (zS (zG wU)) yY)
     (zU aO rfl (pF (zV mL) ["text","dims","flips","axes"] ["sign"] [] [] (uQ 0) 2 fT.nd rfl rfl (zOh (zVB (zT 0) zW zW)) rfl rfl rfl (by decide +kernel) (fun _ _ _ _=>(yF 0 (show(List.Nodup (α:=PySem.Str) ["sign"]) from by decide +kernel))) (fun _ _ _ _=>y0) (fun _ _ _ _=>(zVW (sC Wx Uj Uk zVY (lA rfl T.c_FLIPS) (yV (zT 0) yE)))))
     (zU aT rfl (pF (zV mL) ["text","dims","flips","axes"] ["letter"] [] [] (uQ 0) 3 fT.nd rfl rfl (zOh (zVB (zT 0) zW zW)) rfl rfl rfl (by decide +kernel) (fun _ _ _ _=>(yF 0 (show(List.Nodup (α:=PySem.Str) ["letter"]) from by decide +kernel))) (fun _ _ _ _=>y0) (fun _ _ _ _=>(zVW (sC Wx Uj Uk zVY (lA rfl T.c_AXES) (yV (zT 0) yE)))))
     (zU aK rfl (qQ 2 (qQ 3 (yM (bJ (oX (yU zPM (zPW zW) (zT 2)) (qO (yU (zWi hr) (vN (zRo rfl T.z_sorted (eF (zT 3)))) (vN (zPY rfl rfl T.z_list rfl T.z_range (zT 1))))))) (zS (zG wU)) yY)))
     (zS (zG (zRw rfl rfl T.z_tuple rfl T.z_zip (zT 3) (zT 2))))))))
theorem qN:FnScope ["words","dims","row","back","corner","turn"] ["words","dims","row"] (zV kE):=yB (by decide +kernel)
def zXS:Sf:=(yC (mK "Part" ["corner","turn","back"] 3 iY (zY (eV 4) (zY (eV 5) (zY (eV 3) zR)))))
def gK:Sf:=(zJ (sIf (eR (eB2 kA (eV 4) (eC .non)) (eB2 kA (eV 5) (eC .non))) (fun _=>none) xL)
   (zXS))
def gO:Sf:=(zJ (yK 5 (zM 2 zX7 (zY (eIx (eV 0) (eC (.int 2))) (zY (eV 1) zR))))
   (gK))
def gM:Sf:=(zJ (yK 4 (zM 2 bG (zY (eIx (eV 0) (eC (.int 1))) (zY (eV 1) zR))))
   (gO))
def hV:Sf:=(zJ (sIf (eR (eB2 zQS (eIx (eV 0) (eC (.int 0))) (eC (.str "part"))) (eB2 zQS (wT (eV 0)) (eIf (tB1 (eV 3)) (eC (.int 4)) (eC (.int 3))))) (fun _=>none) xL)
   (gM))
def hW:Sf:=(zJ (yK 3 (uL (eB2 zKq (eL (kJ (eV 0) (gQ (eC (.int 3))) oNo)) (eL (xS (zY (eC (.str "back")) zR))))))
   (hV))
def zUu:Sf :=
   (hW)
def xR:List D->Option D:=fnF 6 zUu
theorem zWI (T:Txt w K mg):OkT P w base T.q18 3 3 xR :=
 xD (k:=2) T.q18.F qN fun cdv A outer s H E hr =>
   (zU hW rfl (zD 3 qN.nd (sZ (zLw hr) (vN (zVe (zT 0) (zRZ zW) zMP)) (vN (yD (zZ uX zX)))))
     (zU hV rfl (yM (bJ (oX (yU (zWi hr) (xX (zT 0) zW) uX) (qO (yU (zWi hr) (wI rfl T.z_len (zT 0)) (zVw (xN (zT 3)) zW zW))))) (zS sN) yY)
     (zU gM rfl (zD 4 qN.nd (xT (zWr T) hr (zZ (xX (zT 0) zW) (zZ (zT 1) zX))))
     (zU gO rfl (zD 5 qN.nd (xT (zUa T) hr (zZ (xX (zT 0) zW) (zZ (zT 1) zX))))
     (zU gK rfl (yM (bJ (oX (yU pG (zT 4) wU) (qO (yU pG (zT 5) wU)))) (zS sN) yY)
     (zS (zG (zZT T.ca_Part T.mk_Part (zV6 T) (hr.mono (by omega)) T.mc_Part T.bi_Part rfl (zZ (zT 4) (zZ (zT 5) (zZ (zT 3) zX)))))))))))
theorem zZG:FnScope ["dims","level","places","halving"] ["dims","level"] (zV zUb):=yB (by decide +kernel)
def zRH:Sf:=(yK 2 (zYd (eV 2) (eC (.int 2))))
def zQj:Sf:=(yC (eV 2))
def zUB:Sf:=(zJ (qP (iR (zYd (eV 0) (eV 1))) (gN 3) (zRH))
   (zQj))
def zV3:Sf:=(zJ (yK 2 (eC (.int 1)))
   (zUB))
def zM7:Sf :=
   (zV3)
def zYt:List D->Option D:=fnF 4 zM7
theorem zNq (T:Txt w K mg):OkT P w base T.q19 1 2 zYt :=
 xD (k:=0) T.q19.F zZG fun cdv A outer s H E hr =>
   (zU zV3 rfl (zD 2 zZG.nd zW)
     (zU zUB rfl (sW Eo rfl (zYz rfl T.z_range (fW (zT 0) (zT 1))) (yF 3 zZG.nd) (zS (zD 2 zZG.nd (fW (zT 2) zW))))
     (zS (zG (zT 2)))))
theorem wR:FnScope ["rows","name","joined","dims","parts","seen","row","part"] ["rows"] (zV lL):=yB (by decide +kernel)
def kQ:Sf:=(aF 4 (eV 7))
def qV:Sf:=(zJ (aL 5 (xE "Part" "corner" (eV 7)) (eC (.bl true)))
   (kQ))
def qR:Sf:=(zJ (sIf (zWg 5 (xE "Part" "corner" (eV 7))) (fun _=>none) xL)
   (qV))
def vO:Sf:=(zJ (yK 7 (zM 3 xR (zY (eL (vY 2 uD (zY (eV 0) (zY (eV 6) zR)))) (zY (eV 3) (zY (eV 6) zR)))))
   (qR))
def zZ5:Sf:=(fL 4 (yC (mK "Curve" ["name","dims","joined","parts"] 4 oU (zY (eV 1) (zY (eV 3) (zY (eV 2) (zY (eV 4) zR)))))))
def pS:Sf:=(zJ (qP (iR2 (eC (.int 2)) (lW (eC (.int 2)) (zM 2 zYt (zY (eV 3) (zY (eC (.int 1)) zR))))) (gN 6) (vO))
   (zZ5))
def pU:Sf:=(zJ (zQ9 5)
   (pS))
def pQ:Sf:=(zJ (tV 4 (xS zR))
   (pU))
def tQ:Sf:=(zJ (uU (zM 1 oH (zY (eL (vY 2 uD (zY (eV 0) (zY (eC (.int 1)) zR)))) zR)) (gT (zP (gN 1) (zP (gN 2) (zP (gN 3) xZ)))))
   (pQ))
def zW9:Sf :=
   (tQ)
def sK:List D->Option D:=fnF 8 zW9
theorem hG (T:Txt w K mg):OkT P w base T.q20 4 1 sK :=
 xD (k:=3) T.q20.F wR fun cdv A outer s H E hr =>
   (zU tQ rfl (vU (xT (zWs T) hr (zZ (vN (zYN (bF T) hr (zZ (zT 0) (zZ zW zX)))) zX)) (sA 3 rfl (zN (yF 1 wR.nd) (zN (yF 2 wR.nd) (zN (yF 3 wR.nd) yG))) (zE (zE (zE xU)))))
     (zU pQ rfl (sT 4 wR.nd (yD zX))
     (zU pU rfl (zSz 5 wR.nd)
     (zU pS rfl (sW Eo rfl (zMT rfl T.z_range zW (rB zW (xT (zNq T) hr (zZ (zT 3) (zZ zW zX))))) (yF 6 wR.nd) (zU vO rfl (zD 7 wR.nd (xT (zWI T) hr (zZ (vN (zYN (bF T) hr (zZ (zT 0) (zZ (zT 6) zX)))) (zZ (zT 3) (zZ (zT 6) zX)))))
     (zU qR rfl (yM (zOW 5 hr (wC T.ca_Part T.cl_Part T.n_Part_corner (zT 7))) (zS sN) yY)
     (zU qV rfl (zSH 5 hr wN (wC T.ca_Part T.cl_Part T.n_Part_corner (zT 7)))
     (zS (zZv 4 (sC El Rz Rx pZ (pv 4) (yV (zT 7) yE))))))))
     (zS (qQ 4 (zG (zZT T.ca_Curve T.mk_Curve (zXp T) (hr.mono (by omega)) T.mc_Curve T.bi_Curve rfl (zZ (zT 1) (zZ (zT 3) (zZ (zT 2) (zZ (zT 4) zX))))))))))))
theorem zP7:FnScope ["dims"] ["dims"] (zV zZH):=yB (by decide +kernel)
def zRT:Sf:=(yC (vX (eL (xY (iR (eV 0)) 1 [] (gN 0) tOK (yX (zY (eV 0) (zY (eC (.int 0)) zR)))))))
def zNz:Sf :=
   (zRT)
def zSh:List D->Option D:=fnF 1 zNz
theorem zQt (T:Txt w K mg):OkT P w base T.q21 1 1 zSh :=
 xD (k:=0) T.q21.F zP7 fun cdv A outer s H E hr =>
   (zS (zG (uY rfl T.z_tuple (vN (wM (zV zZH) ["dims"] ["axis"] [] [] (uQ 0) (zYz rfl T.z_range (zT 0)) rfl rfl rfl (by decide +kernel) (fun _ _ _ _=>(yF 0 (show(List.Nodup (α:=PySem.Str) ["axis"]) from by decide +kernel))) (fun _ _ _ _=>y0) (fun _ _ _ _=>(zQ (zZ (zT 0) (zZ zW zX)))))))))
theorem zYD:FnScope ["dims"] ["dims"] (zV nJ):=yB (by decide +kernel)
def aB:Sf:=(yC (yX (zY (zM 1 zSh (zY (eV 0) zR)) (zY (eC (.bl false)) zR))))
def zXT:Sf :=
   (aB)
def nP:List D->Option D:=fnF 1 zXT
theorem zZl (T:Txt w K mg):OkT P w base T.q22 2 1 nP :=
 xD (k:=1) T.q22.F zYD fun cdv A outer s H E hr =>
   (zS (zG (zQ (zZ (xT (zQt T) hr (zZ (zT 0) zX)) (zZ wN zX)))))
theorem zRW:FnScope ["curve","back","number"] ["curve","back","number"] (zV zZf):=yB (by decide +kernel)
def zTk:Sf:=(yC (eIf (tB1 (eV 1)) (rF (rF (wT (xE "Curve" "parts" (eV 0))) (eC (.int 1))) (eV 2)) (eV 2)))
def zOH:Sf :=
   (zTk)
def jX:List D->Option D:=fnF 3 zOH
theorem zQF (T:Txt w K mg):OkT P w base T.q23 1 3 jX :=
 xD (k:=0) T.q23.F zRW fun cdv A outer s H E hr =>
   (zS (zG (zVw (xN (zT 1)) (nF (nF (wI rfl T.z_len (wC T.ca_Curve T.cl_Curve T.n_Curve_parts (zT 0))) zW) (zT 2)) (zT 2))))
theorem zO4:FnScope ["one","other"] ["one","other"] (zV zZW):=yB (by decide +kernel)
def zXG:Sf:=(yC (vX (eL (xY (iT (eV 0)) 2 [1] (gT (zP (gN 0) (zP (gN 1) xZ))) tOK (yX (zY (eIx (eIx (eV 2) (eV 0)) (eC (.int 0))) (zY (zW6 (eIx (eIx (eV 2) (eV 0)) (eC (.int 1))) (eV 1)) zR)))))))
def zSI:Sf :=
   (zXG)
def lI:List D->Option D:=fnF 2 zSI
theorem zOP (T:Txt w K mg):OkT P w base T.q24 1 2 lI :=
 xD (k:=0) T.q24.F zO4 fun cdv A outer s H E hr =>
   (zS (zG (uY rfl T.z_tuple (vN (wM (zV zZW) ["one","other"] ["axis","flip"] ["other"] [1] (zYi (xP (uQ 0) (xP (uQ 1) rS))) (zQM (zT 0)) rfl rfl rfl (by decide +kernel) (fun _ _ _ _=>(sA 2 rfl (zN (yF 0 (show(List.Nodup (α:=PySem.Str) ["axis","flip","other"]) from by decide +kernel)) (zN (yF 1 (show(List.Nodup (α:=PySem.Str) ["axis","flip","other"]) from by decide +kernel)) yG)) (zE (zE xU)))) (fun _ _ _ _=>y0) (fun _ _ _ _=>(zQ (zZ (xX (xX (zT 2) (zT 0)) zW) (zZ (zW7 (xX (xX (zT 2) (zT 0)) zW) (zT 1)) zX)))))))))
theorem zQH:FnScope ["turn","corner"] ["turn","corner"] (zV eM):=yB (by decide +kernel)
def zZ9:Sf:=(yC (vX (eL (xY (iT (eV 0)) 2 [1] (gT (zP (gN 0) (zP (gN 1) xZ))) tOK (zW6 (eIx (eV 2) (eV 0)) (eV 1))))))
def zUA:Sf :=
   (zZ9)
def pP:List D->Option D:=fnF 2 zUA
theorem zRP (T:Txt w K mg):OkT P w base T.q25 1 2 pP :=
 xD (k:=0) T.q25.F zQH fun cdv A outer s H E hr =>
   (zS (zG (uY rfl T.z_tuple (vN (wM (zV eM) ["turn","corner"] ["axis","flip"] ["corner"] [1] (zYi (xP (uQ 0) (xP (uQ 1) rS))) (zQM (zT 0)) rfl rfl rfl (by decide +kernel) (fun _ _ _ _=>(sA 2 rfl (zN (yF 0 (show(List.Nodup (α:=PySem.Str) ["axis","flip","corner"]) from by decide +kernel)) (zN (yF 1 (show(List.Nodup (α:=PySem.Str) ["axis","flip","corner"]) from by decide +kernel)) yG)) (zE (zE xU)))) (fun _ _ _ _=>y0) (fun _ _ _ _=>(zW7 (xX (zT 2) (zT 0)) (zT 1))))))))
theorem pM:FnScope ["curve","state","digit","turn","back","part","inner"] ["curve","state","digit"] (zV bI):=yB (by decide +kernel)
def aQ:Sf:=(yC (yX (zY (zM 2 pP (zY (eV 3) (zY (xE "Part" "corner" (eV 5)) zR))) (zY (eV 6) zR))))
def jA:Sf:=(zJ (yK 6 (yX (zY (zM 2 lI (zY (eV 3) (zY (xE "Part" "turn" (eV 5)) zR))) (zY (uL (eB2 gNe (eV 4) (xE "Part" "back" (eV 5)))) zR))))
   (aQ))
def jG:Sf:=(zJ (yK 5 (eIx (xE "Curve" "parts" (eV 0)) (zM 3 jX (zY (eV 0) (zY (eV 4) (zY (eV 2) zR))))))
   (jA))
def aH:Sf:=(zJ (uU (eV 1) (gT (zP (gN 3) (zP (gN 4) xZ))))
   (jG))
def zQU:Sf :=
   (aH)
def w6:List D->Option D:=fnF 7 zQU
theorem lX (T:Txt w K mg):OkT P w base T.q26 2 3 w6 :=
 xD (k:=1) T.q26.F pM fun cdv A outer s H E hr =>
   (zU aH rfl (vU (zT 1) (sA 2 rfl (zN (yF 3 pM.nd) (zN (yF 4 pM.nd) yG)) (zE (zE xU))))
     (zU jG rfl (zD 5 pM.nd (xX (wC T.ca_Curve T.cl_Curve T.n_Curve_parts (zT 0)) (xT (zQF T) hr (zZ (zT 0) (zZ (zT 4) (zZ (zT 2) zX))))))
     (zU jA rfl (zD 6 pM.nd (zQ (zZ (xT (zOP T) hr (zZ (zT 3) (zZ (wC T.ca_Part T.cl_Part T.n_Part_turn (zT 5)) zX))) (zZ (sZ gW (zT 4) (wC T.ca_Part T.cl_Part T.n_Part_back (zT 5))) zX))))
     (zS (zG (zQ (zZ (xT (zRP T) hr (zZ (zT 3) (zZ (wC T.ca_Part T.cl_Part T.n_Part_corner (zT 5)) zX))) (zZ (zT 6) zX))))))))
theorem zSV:FnScope ["one","other"] ["one","other"] (zV iU):=yB (by decide +kernel)
def zU2:Sf:=(yC (uL (eB2 gEq (zQB (xY (zNi (eV 0) (eV 1)) 2 [] (gT (zP (gN 0) (zP (gN 1) xZ))) tOK (zLm (rF (eV 0) (eV 1))))) (eC (.int 1)))))
def zRU:Sf :=
   (zU2)
def rX:List D->Option D:=fnF 2 zRU
theorem zTc (T:Txt w K mg):OkT P w base T.q27 1 2 rX :=
 xD (k:=0) T.q27.F zSV fun cdv A outer s H E hr =>
   (zS (zG (sZ uI (zNm rfl rfl T.z_sum (gI (wM (zV iU) ["one","other"] ["along","across"] [] [] (zYi (xP (uQ 0) (xP (uQ 1) rS))) (zPt rfl T.z_zip (zT 0) (zT 1)) rfl rfl rfl (by decide +kernel) (fun _ _ _ _=>(sA 2 rfl (zN (yF 0 (show(List.Nodup (α:=PySem.Str) ["along","across"]) from by decide +kernel)) (zN (yF 1 (show(List.Nodup (α:=PySem.Str) ["along","across"]) from by decide +kernel)) yG)) (zE (zE xU)))) (fun _ _ _ _=>y0) (fun _ _ _ _=>(zMx rfl T.z_abs (nF (zT 0) (zT 1))))))) zW)))
theorem zRD:FnScope ["place","corner"] ["place","corner"] (zV dF):=yB (by decide +kernel)
def zTq:Sf:=(yC (vX (eL (xY (zNi (eV 0) (eV 1)) 2 [] (gT (zP (gN 0) (zP (gN 1) xZ))) tOK (lW (zYd (eC (.int 2)) (eV 0)) (eV 1))))))
def zOF:Sf :=
   (zTq)
def tD:List D->Option D:=fnF 2 zOF
theorem zXC (T:Txt w K mg):OkT P w base T.q28 1 2 tD :=
 xD (k:=0) T.q28.F zRD fun cdv A outer s H E hr =>
   (zS (zG (uY rfl T.z_tuple (vN (wM (zV dF) ["place","corner"] ["along","bit"] [] [] (zYi (xP (uQ 0) (xP (uQ 1) rS))) (zPt rfl T.z_zip (zT 0) (zT 1)) rfl rfl rfl (by decide +kernel) (fun _ _ _ _=>(sA 2 rfl (zN (yF 0 (show(List.Nodup (α:=PySem.Str) ["along","bit"]) from by decide +kernel)) (zN (yF 1 (show(List.Nodup (α:=PySem.Str) ["along","bit"]) from by decide +kernel)) yG)) (zE (zE xU)))) (fun _ _ _ _=>y0) (fun _ _ _ _=>(rB (fW zW (zT 0)) (zT 1))))))))
theorem xV:FnScope ["curve","first","whole","end","ending","start","starting","level","seen","corner"] ["curve","first"] (zV fV):=yB (by decide +kernel)
def dG:Sf:=(yC (eV 7))
def fB:Sf:=(zJ (uM (tB1 (zM 2 rX (zY (eV 3) (zY (eV 5) zR)))) (zJ (sIf (zWg 8 (yX (zY (eV 4) (zY (eV 6) zR)))) (yC (eC .non)) xL)
   (zJ (aL 8 (yX (zY (eV 4) (zY (eV 6) zR))) (eC (.bl true)))
   (zJ (uU (zM 3 w6 (zY (eV 0) (zY (eV 4) (zY (rF (wT (xE "Curve" "parts" (eV 0))) (eC (.int 1))) zR)))) (gT (zP (gN 9) (zP (gN 4) xZ))))
   (zJ (yK 3 (zM 2 tD (zY (eV 3) (zY (eV 9) zR))))
   (zJ (uU (zM 3 w6 (zY (eV 0) (zY (eV 6) (zY (eC (.int 0)) zR)))) (gT (zP (gN 9) (zP (gN 6) xZ))))
   (zJ (yK 5 (zM 2 tD (zY (eV 5) (zY (eV 9) zR))))
   (yK 7 (lW (eV 7) (eC (.int 1)))))))))) 10000)
   (dG))
def kZ:Sf:=(zJ (zQ9 8)
   (fB))
def mG:Sf:=(zJ (yK 7 (eC (.int 1)))
   (kZ))
def lM:Sf:=(zJ (uU (zM 3 w6 (zY (eV 0) (zY (eV 2) (zY (lW (eV 1) (eC (.int 1))) zR)))) (gT (zP (gN 5) (zP (gN 6) xZ))))
   (mG))
def mC:Sf:=(zJ (uU (zM 3 w6 (zY (eV 0) (zY (eV 2) (zY (eV 1) zR)))) (gT (zP (gN 3) (zP (gN 4) xZ))))
   (lM))
def qE:Sf:=(zJ (yK 2 (zM 1 nP (zY (xE "Curve" "dims" (eV 0)) zR)))
   (mC))
def zTA:Sf :=
   (qE)
def uV:List D->Option D:=fnF 10 zTA
theorem zV7 (T:Txt w K mg):OkT P w base T.q29 3 2 uV :=
 xD (k:=2) T.q29.F xV fun cdv A outer s H E hr =>
   (zU qE rfl (zD 2 xV.nd (xT (zZl T) hr (zZ (wC T.ca_Curve T.cl_Curve T.n_Curve_dims (zT 0)) zX)))
     (zU mC rfl (vU (xT (lX T) hr (zZ (zT 0) (zZ (zT 2) (zZ (zT 1) zX)))) (sA 2 rfl (zN (yF 3 xV.nd) (zN (yF 4 xV.nd) yG)) (zE (zE xU))))
     (zU lM rfl (vU (xT (lX T) hr (zZ (zT 0) (zZ (zT 2) (zZ (rB (zT 1) zW) zX)))) (sA 2 rfl (zN (yF 5 xV.nd) (zN (yF 6 xV.nd) yG)) (zE (zE xU))))
     (zU mG rfl (zD 7 xV.nd zW)
     (zU kZ rfl (zSz 8 xV.nd)
     (zU fB rfl (zWR 10000 Eo (xN (xT (zTc T) hr (zZ (zT 3) (zZ (zT 5) zX)))) (wP (yM (zOW 8 hr (zQ (zZ (zT 4) (zZ (zT 6) zX)))) (zS (zG wU)) yY)
     (wP (zSH 8 hr wN (zQ (zZ (zT 4) (zZ (zT 6) zX))))
     (wP (vU (xT (lX T) hr (zZ (zT 0) (zZ (zT 4) (zZ (nF (wI rfl T.z_len (wC T.ca_Curve T.cl_Curve T.n_Curve_parts (zT 0))) zW) zX)))) (sA 2 rfl (zN (yF 9 xV.nd) (zN (yF 4 xV.nd) yG)) (zE (zE xU))))
     (wP (zD 3 xV.nd (xT (zXC T) hr (zZ (zT 3) (zZ (zT 9) zX))))
     (wP (vU (xT (lX T) hr (zZ (zT 0) (zZ (zT 6) (zZ zW zX)))) (sA 2 rfl (zN (yF 9 xV.nd) (zN (yF 6 xV.nd) yG)) (zE (zE xU))))
     (wP (zD 5 xV.nd (xT (zXC T) hr (zZ (zT 5) (zZ (zT 9) zX))))
     (zS (zD 7 xV.nd (rB (zT 7) zW))))))))))
     (zS (zG (zT 7)))))))))
theorem nM:FnScope ["curve","levels","least"] ["curve"] (zV sP):=yB (by decide +kernel)
def jI:Sf:=(yC (yX (zY (zZX (iL (eV 1)) (eV 2)) (zY (eV 2) zR))))
def tR:Sf:=(zJ (sIf (eB2 kA (eV 2) (eC .non)) (yC (eC .non)) xL)
   (jI))
def pR:Sf:=(zJ (fL 1 (yK 2 (zZk (xY (iL (eV 1)) 1 [] (gN 0) (eB2 uB (eV 0) (eC .non)) (eV 0)))))
   (tR))
def sH:Sf:=(zJ (tV 1 (xY (iR (rF (wT (xE "Curve" "parts" (eV 0))) (eC (.int 1)))) 1 [0] (gN 0) tOK (zM 2 uV (zY (eV 1) (zY (eV 0) zR)))))
   (pR))
def zWe:Sf :=
   (sH)
def xM:List D->Option D:=fnF 3 zWe
theorem iE (T:Txt w K mg):OkT P w base T.q30 4 1 xM :=
 xD (k:=3) T.q30.F nM fun cdv A outer s H E hr =>
   (zU sH rfl (pF (zV sP) ["curve","levels","least"] ["first"] ["curve"] [0] (uQ 0) 1 nM.nd rfl rfl (zYz rfl T.z_range (nF (wI rfl T.z_len (wC T.ca_Curve T.cl_Curve T.n_Curve_parts (zT 0))) zW)) rfl rfl rfl (by decide +kernel) (fun _ _ _ _=>(yF 0 (show(List.Nodup (α:=PySem.Str) ["first","curve"]) from by decide +kernel))) (fun _ _ _ _=>y0) (fun _ _ _ _=>(xT (zV7 T) hr (zZ (zT 1) (zZ (zT 0) zX)))))
     (zU pR rfl (qQ 1 (zD 2 nM.nd (zNP rfl rfl T.z_min (gI (wM (zV sP) ["curve","levels","least"] ["level"] [] [] (uQ 0) (zTP (zT 1)) rfl rfl rfl (by decide +kernel) (fun _ _ _ _=>(yF 0 (show(List.Nodup (α:=PySem.Str) ["level"]) from by decide +kernel))) (fun _ _ _ _=>(zWY (yU jS (zT 0) wU))) (fun _ _ _ _=>(zT 0)))))))
     (zU tR rfl (yM (yU pG (zT 2) wU) (zS (zG wU)) yY)
     (zS (zG (zQ (zZ (zRi hr (sC El PySem.F.slot_list_index PySem.F.type_list_index (zRF hr) (eF (zT 1)) (yV (zT 2) yE))) (zZ (zT 2) zX))))))))
theorem rY:FnScope ["curve","unmet","first","level"] ["curve"] (zV zYB):=yB (by decide +kernel)
def zTW:Sf:=(yC (eV 0))
def zYH:Sf:=(zJ (sIf (eB2 uB (eV 1) (eC .non)) (zJ (uU (eV 1) (gT (zP (gN 2) (zP (gN 3) xZ))))
   (fun _=>none)) xL)
   (zTW))
def lK:Sf:=(zJ (yK 1 (eIf (tB1 (xE "Curve" "joined" (eV 0))) (zM 1 xM (zY (eV 0) zR)) (eC .non)))
   (zYH))
def zV4:Sf :=
   (lK)
def mO:List D->Option D:=fnF 4 zV4
def pW:Ef:=(zYj zZz (yK 1 (eIf (tB1 (xE "Curve" "joined" (eV 0))) (zM 1 xM (zY (eV 0) zR)) (eC .non))) (vIf (eB2 uB (eV 1) (eC .non)) (zYj zZz (uU (eV 1) (gT (zP (gN 2) (zP (gN 3) xZ)))) (zTl "Unmet" ["first","second","level"] 3 zUN (zY (eV 2) (zY (lW (eV 2) (eC (.int 1))) (zY (eV 3) zR))))) zZz))
def rK:List D->Option D:=fnV 4 pW
theorem iN (T:Txt w K mg):FnOk P w K mg base (CXv P w) 5 T.q31.f T.q31.fd ["curve"] (spV K 1 mO rK) :=
 zP1 (N:=["curve","unmet","first","level"]) (ps:=["curve"]) (k:=4) (body:=zV4) (xb:=pW) T.q31.F rY (fun cdv A outer s H E hr =>
   (zU lK rfl (zD 1 rY.nd (zVw (xN (wC T.ca_Curve T.cl_Curve T.n_Curve_joined (zT 0))) (xT (iE T) hr (zZ (zT 0) zX)) wU))
     (zU zYH rfl (yM (yU jS (zT 1) wU) (wP (vU (zT 1) (sA 2 rfl (zN (yF 2 rY.nd) (zN (yF 3 rY.nd) yG)) (zE (zE xU))))
     (zS sN)) yY)
     (zS (zG (zT 0))))))
   (fun cdv A outer s H E hr=>(cE zXx (PFS.nox (zD 1 rY.nd (zVw (xN (wC T.ca_Curve T.cl_Curve T.n_Curve_joined (zT 0))) (xT (iE T) hr (zZ (zT 0) zX)) wU))) (zWh (zK0 (yU jS (zT 1) wU) (cE zXx (PFS.nox (vU (zT 1) (sA 2 rfl (zN (yF 2 rY.nd) (zN (yF 3 rY.nd) yG)) (zE (zE xU))))) (zWh (zPn T.ca_Unmet T.xm_Unmet (zRf T) rfl (hr.mono (by omega)) T.mc_Unmet T.bi_Unmet rfl rfl zOv (zZ (zT 2) (zZ (rB (zT 2) zW) (zZ (zT 3) zX)))))) zMm))))
theorem vA:FnScope ["text","rows","curve","told"] ["text"] (zV gC):=yB (by decide +kernel)
def dU:Sf:=(yC (zM 1 mO (zY (eV 2) zR)))
def lP:Sf:=(zJ (sIf (eB2 gGt (wT (eV 1)) (eV 3)) (fun _=>none) xL)
   (dU))
def lJ:Sf:=(zJ (yK 3 (lW (eC (.int 1)) (wT (xE "Curve" "parts" (eV 2)))))
   (lP))
def lD:Sf:=(zJ (yK 2 (zM 1 sK (zY (eV 1) zR)))
   (lJ))
def qJ:Sf:=(zJ (yK 1 (eL (jT (eV 0) (eC (.str "\n")))))
   (lD))
def zZg:Sf :=
   (qJ)
def fP:List D->Option D:=fnF 4 zZg
def nU:Ef:=(zYj zZz (yK 1 (eL (jT (eV 0) (eC (.str "\n"))))) (zYj zZz (yK 2 (zM 1 sK (zY (eV 1) zR))) (zYj zZz (yK 3 (lW (eC (.int 1)) (wT (xE "Curve" "parts" (eV 2))))) (zYj zZz (sIf (eB2 gGt (wT (eV 1)) (eV 3)) (fun _=>none) xL) (zM 1 rK (zY (eV 2) zR))))))
def fH:List D->Option D:=fnV 4 nU
theorem aU (T:Txt w K mg):FnOk P w K mg base (CXv P w) 6 T.q32.f T.q32.fd ["text"] (spV K 1 fP fH) :=
 zP1 (N:=["text","rows","curve","told"]) (ps:=["text"]) (k:=5) (body:=zZg) (xb:=nU) T.q32.F vA (fun cdv A outer s H E hr =>
   (zU qJ rfl (zD 1 vA.nd (vN (zYV (sC Wx Up Ua zYx (zT 0) (yV uX yE)))))
     (zU lD rfl (zD 2 vA.nd (xT (hG T) hr (zZ (zT 1) zX)))
     (zU lJ rfl (zD 3 vA.nd (rB zW (wI rfl T.z_len (wC T.ca_Curve T.cl_Curve T.n_Curve_parts (zT 2)))))
     (zU lP rfl (yM (yU zOC (wI rfl T.z_len (zT 1)) (zT 3)) (zS sN) yY)
     (zS (zG (zZd (iN T) (hr.mono (by omega)) T.q31.m T.q31.F.kp T.q31.b rfl (zZ (zT 2) zX)))))))))
   (fun cdv A outer s H E hr=>(cE zXx (PFS.nox (zD 1 vA.nd (vN (zYV (sC Wx Up Ua zYx (zT 0) (yV uX yE)))))) (cE zXx (PFS.nox (zD 2 vA.nd (xT (hG T) hr (zZ (zT 1) zX)))) (cE zXx (PFS.nox (zD 3 vA.nd (rB zW (wI rfl T.z_len (wC T.ca_Curve T.cl_Curve T.n_Curve_parts (zT 2)))))) (cE zXx (PFS.nox (yM (yU zOC (wI rfl T.z_len (zT 1)) (zT 3)) (zS sN) yY)) (zWh (zLR (zOi (iN T) zOr (hr.mono (by omega)) T.q31.m T.q31.F.kp T.q31.b rfl (zZ (zT 2) zX)))))))))
theorem zZ2:FnScope ["corner"] ["corner"] (zV rO):=yB (by decide +kernel)
def aC:Sf:=(yC (gR (eC (.str "")) (xY (iT (eV 0)) 1 [] (gN 0) tOK (eIx (eC (.str "01")) (eV 0)))))
def zYs:Sf :=
   (aC)
def hZ:List D->Option D:=fnF 1 zYs
theorem zYC (T:Txt w K mg):OkT P w base T.q33 1 1 hZ :=
 xD (k:=0) T.q33.F zZ2 fun cdv A outer s H E hr =>
   (zS (zG (eY (sC Wx Te Tt cX uX (yV (gI (wM (zV rO) ["corner"] ["bit"] [] [] (uQ 0) (zQM (zT 0)) rfl rfl rfl (by decide +kernel) (fun _ _ _ _=>(yF 0 (show(List.Nodup (α:=PySem.Str) ["bit"]) from by decide +kernel))) (fun _ _ _ _=>y0) (fun _ _ _ _=>(xX (lA rfl T.c_BITS) (zT 0))))) yE)))))
theorem zWy:FnScope ["turn"] ["turn"] (zV nV):=yB (by decide +kernel)
def zYa:Sf:=(yC (gR (eC (.str "")) (xY (iT (eV 0)) 2 [] (gT (zP (gN 0) (zP (gN 1) xZ))) tOK (zPh (eIx (eC (.str "+-")) (eV 1)) (eIx (eC (.str "xyz")) (eV 0))))))
def zVj:Sf :=
   (zYa)
def aS:List D->Option D:=fnF 1 zVj
theorem zWp (T:Txt w K mg):OkT P w base T.q34 1 1 aS :=
 xD (k:=0) T.q34.F zWy fun cdv A outer s H E hr =>
   (zS (zG (eY (sC Wx Te Tt cX uX (yV (gI (wM (zV nV) ["turn"] ["axis","flip"] [] [] (zYi (xP (uQ 0) (xP (uQ 1) rS))) (zQM (zT 0)) rfl rfl rfl (by decide +kernel) (fun _ _ _ _=>(sA 2 rfl (zN (yF 0 (show(List.Nodup (α:=PySem.Str) ["axis","flip"]) from by decide +kernel)) (zN (yF 1 (show(List.Nodup (α:=PySem.Str) ["axis","flip"]) from by decide +kernel)) yG)) (zE (zE xU)))) (fun _ _ _ _=>y0) (fun _ _ _ _=>(zNh (xX (lA rfl T.c_FLIPS) (zT 1)) (xX (lA rfl T.c_AXES) (zT 0)))))) yE)))))
theorem bC:FnScope ["part","words"] ["part"] (zV fO):=yB (by decide +kernel)
def zWj:Sf:=(fL 1 (yC (gR (eC (.str " ")) (iL (eV 1)))))
def dL:Sf:=(zJ (sIf (tB1 (xE "Part" "back" (eV 0))) (aF 1 (eC (.str "back"))) xL)
   (zWj))
def dR:Sf:=(zJ (tV 1 (xS (zY (eC (.str "part")) (zY (zM 1 hZ (zY (xE "Part" "corner" (eV 0)) zR)) (zY (zM 1 aS (zY (xE "Part" "turn" (eV 0)) zR)) zR)))))
   (dL))
def zTj:Sf :=
   (dR)
def xW:List D->Option D:=fnF 2 zTj
theorem zVs (T:Txt w K mg):OkT P w base T.q35 2 1 xW :=
 xD (k:=1) T.q35.F bC fun cdv A outer s H E hr =>
   (zU dR rfl (sT 1 bC.nd (yD (zZ uX (zZ (xT (zYC T) hr (zZ (wC T.ca_Part T.cl_Part T.n_Part_corner (zT 0)) zX)) (zZ (xT (zWp T) hr (zZ (wC T.ca_Part T.cl_Part T.n_Part_turn (zT 0)) zX)) zX)))))
     (zU dL rfl (yM (xN (wC T.ca_Part T.cl_Part T.n_Part_back (zT 0))) (zS (zZv 1 (sC El Rz Rx pZ (pv 1) (yV uX yE)))) yY)
     (zS (qQ 1 (zG (eY (sC Wx Te Tt cX uX (yV (eF (zT 1)) yE))))))))
theorem nA:FnScope ["curve","promise","head"] ["curve"] (zV qH):=yB (by decide +kernel)
def jR:Sf:=(sL (fS (xS (zY (eV 2) zR)) (xY (iL (xE "Curve" "parts" (eV 0))) 1 [] (gN 0) tOK (zM 1 xW (zY (eV 0) zR)))))
def oW:Sf:=(zJ (yK 2 (gR (eC (.str " ")) (xS (zY (eC (.str "curve")) (zY (xE "Curve" "name" (eV 0)) (zY (eV 1) (zY (bX (xE "Curve" "dims" (eV 0))) zR)))))))
   (jR))
def sM:Sf:=(zJ (yK 1 (eIf (tB1 (xE "Curve" "joined" (eV 0))) (eC (.str "joined")) (eC (.str "loose"))))
   (oW))
def zWB:Sf :=
   (sM)
def lE:List D->Option (List D):=fnL 3 zWB
theorem zXY (T:Txt w K mg):zWO P w base T.q36 3 1 lE :=
 lC (k:=2) T.q36.F nA fun cdv A outer s H E hr =>
   (zU sM rfl (zD 1 nA.nd (zVw (xN (wC T.ca_Curve T.cl_Curve T.n_Curve_joined (zT 0))) uX uX))
     (zU oW rfl (zD 2 nA.nd (eY (sC Wx Te Tt cX uX (yV (gI (yD (zZ uX (zZ (wC T.ca_Curve T.cl_Curve T.n_Curve_name (zT 0)) (zZ (zT 1) (zZ (zOS rfl T.z_str (wC T.ca_Curve T.cl_Curve T.n_Curve_dims (zT 0))) zX)))))) yE))))
     (zS (lV (zTO (yD (zZ (zT 2) zX)) (wM (zV qH) ["curve","promise","head"] ["part"] [] [] (uQ 0) (zTP (wC T.ca_Curve T.cl_Curve T.n_Curve_parts (zT 0))) rfl rfl rfl (by decide +kernel) (fun _ _ _ _=>(yF 0 (show(List.Nodup (α:=PySem.Str) ["part"]) from by decide +kernel))) (fun _ _ _ _=>y0) (fun _ _ _ _=>(xT (zVs T) hr (zZ (zT 0) zX)))))))))
theorem zYe:FnScope ["curve"] ["curve"] (zV lZ):=yB (by decide +kernel)
def zY9:Sf:=(yC (gR (eC (.str "\n")) (vY 1 lE (zY (eV 0) zR))))
def zWu:Sf :=
   (zY9)
def uS:List D->Option D:=fnF 1 zWu
theorem hJ (T:Txt w K mg):OkT P w base T.q37 4 1 uS :=
 xD (k:=3) T.q37.F zYe fun cdv A outer s H E hr =>
   (zS (zG (eY (sC Wx Te Tt cX uX (yV (gI (zYN (zXY T) hr (zZ (zT 0) zX))) yE)))))
theorem rT:FnScope ["_law_curve_here","_law_by_text","_law_caught_here","e"] ["_law_curve_here","_law_by_text"] (zV lG):=yB (by decide +kernel)
def zZA:Sf:=(yC (eV 2))
def tN:Sf:=(zJ (zUK ["Unmet"] (vIf (tB1 (eV 1)) (zM 1 fH (zY (zM 1 uS (zY (eV 0) zR)) zR)) (zM 1 rK (zY (eV 0) zR))) (sIf (tB1 (eV 1)) (zXB (zM 1 fP (zY (zM 1 uS (zY (eV 0) zR)) zR))) (zXB (zM 1 mO (zY (eV 0) zR)))) 3 (yK 2 (eV 3)))
   (zZA))
def w8:Sf:=(zJ (yK 2 (eC .non))
   (tN))
def zWN:Sf :=
   (w8)
def uO:List D->Option D:=fnF 4 zWN
theorem zYm (T:Txt w K mg):OkT P w base T.q38 7 2 uO :=
 xD (k:=6) T.q38.F rT fun cdv A outer s H E hr =>
   (zU w8 rfl (zD 2 rT.nd wU)
     (zU tN rfl (zOm (i:=3) (zYc T) (zMg zLq (xN (zT 1)) (zVa (zUU zLq (aU T) (hr.mono (by omega)) T.q32.m T.q32.F.kp T.q32.b rfl (zZ (xT (hJ T) hr (zZ (zT 0) zX)) zX))) (zVa (zUU zLq (iN T) (hr.mono (by omega)) T.q31.m T.q31.F.kp T.q31.b rfl (zZ (zT 0) zX)))) (yM (xN (zT 1)) (zS (zUl (zZd (aU T) (hr.mono (by omega)) T.q32.m T.q32.F.kp T.q32.b rfl (zZ (xT (hJ T) hr (zZ (zT 0) zX)) zX)))) (zS (zUl (zZd (iN T) (hr.mono (by omega)) T.q31.m T.q31.F.kp T.q31.b rfl (zZ (zT 0) zX))))) rfl rfl rfl T.mc_YardError rT.nd (fun _=>(zS (zD 2 rT.nd (zT 3)))))
     (zS (zG (zT 2)))))
theorem bB:FnScope ["_law_found","_law_due","_law_k"] ["_law_found","_law_due"] (zV fX):=yB (by decide +kernel)
def rL (self:List D->Option D):Sf:=(sIf (vM (tB1 (zM 2 self (zY (eIx (eV 0) (eV 2)) (zY (eIx (eV 1) (eV 2)) zR))))) (yC (eC (.bl false))) xL)
def dM (self:List D->Option D):Sf:=(yC (eC (.bl true)))
def sR (self:List D->Option D):Sf:=(zJ (qP (iR (wT (eV 1))) (gN 2) (rL self))
   (dM self))
def qD (self:List D->Option D):Sf:=(zJ (sIf (eB2 gNe (wT (eV 0)) (wT (eV 1))) (yC (eC (.bl false))) xL)
   (sR self))
def qF (self:List D->Option D):Sf:=(zJ (sIf (kX (tB1 (gA iB (eV 1))) (vM (tB1 (gA iB (eV 0))))) (yC (eC (.bl false))) xL)
   (qD self))
def qL (self:List D->Option D):Sf:=(zJ (sIf (kX (tB1 (gA iF (eV 1))) (vM (tB1 (gA iF (eV 0))))) (yC (eC (.bl false))) xL)
   (qF self))
def tP (self:List D->Option D):Sf:=(zJ (sIf (tB1 (gA isStr (eV 1))) (yC (zYW (gA isStr (eV 0)) (uL (eB2 gEq (eV 0) (eV 1))))) xL)
   (qL self))
def uR (self:List D->Option D):Sf:=(zJ (sIf (tB1 (gA isInt (eV 1))) (yC (zYW (gA isInt (eV 0)) (zYW (uL (vM (tB1 (gA kD (eV 0))))) (uL (eB2 gEq (eV 0) (eV 1)))))) xL)
   (tP self))
def uT (self:List D->Option D):Sf:=(zJ (sIf (eB2 kA (eV 1) (eC (.bl false))) (yC (uL (eB2 kA (eV 0) (eC (.bl false))))) xL)
   (uR self))
def uP (self:List D->Option D):Sf:=(zJ (sIf (eB2 kA (eV 1) (eC (.bl true))) (yC (uL (eB2 kA (eV 0) (eC (.bl true))))) xL)
   (uT self))
def xB (self:List D->Option D):Sf:=(zJ (sIf (eB2 kA (eV 1) (eC .non)) (yC (uL (eB2 kA (eV 0) (eC .non)))) xL)
   (uP self))
def zYF (self:List D->Option D):Sf :=
   (xB self)
def yN:Nat->List D->Option D
 | 0,_=>none
 | n+1,ds=>fnF 3 (zYF (yN n)) ds
abbrev fY:List D->Option D:=yN 3
theorem dA (T:Txt w K mg):∀n:Nat,FnOk P w K mg base CX0 (1+n) T.q39.f T.q39.fd ["_law_found","_law_due"] (spF K 2 (yN n))
 | 0=>zOG
 | n+1=>by
   have IH:=dA T n
   exact xD (k:=1+n) (body:=zYF (yN n)) T.q39.F bB fun cdv A outer s H E hr=>(zU (xB (yN n)) rfl (yM (yU pG (zT 1) wU) (zS (zG (sZ pG (zT 0) wU))) yY)
     (zU (uP (yN n)) rfl (yM (yU pG (zT 1) wN) (zS (zG (sZ pG (zT 0) wN))) yY)
     (zU (uT (yN n)) rfl (yM (yU pG (zT 1) wN) (zS (zG (sZ pG (zT 0) wN))) yY)
     (zU (uR (yN n)) rfl (yM (xN (lB (T:="int") (TT:="int") rfl zQl rfl T.z_isinstance rfl T.z_int (zT 1))) (zS (zG (zVQ (lB (T:="int") (TT:="int") rfl zQl rfl T.z_isinstance rfl T.z_int (zT 0)) (zVQ (zP4 (lB (T:="bool") (TT:="bool") rfl zNC rfl T.z_isinstance rfl T.z_bool (zT 0))) (zTT (sZ uI (zT 0) (zT 1))))))) yY)
     (zU (tP (yN n)) rfl (yM (xN (lB (T:="str") (TT:="str") rfl zPl rfl T.z_isinstance rfl T.z_str (zT 1))) (zS (zG (zVQ (lB (T:="str") (TT:="str") rfl zPl rfl T.z_isinstance rfl T.z_str (zT 0)) (zTT (sZ uI (zT 0) (zT 1)))))) yY)
     (zU (qL (yN n)) rfl (yM (bJ (zZS (xN (lB (T:="list") (TT:="list") rfl zPx rfl T.z_isinstance rfl T.z_list (zT 1))) (eN (rQ (xN (lB (T:="list") (TT:="list") rfl zPx rfl T.z_isinstance rfl T.z_list (zT 0))))))) (zS (zG wN)) yY)
     (zU (qF (yN n)) rfl (yM (bJ (zZS (xN (lB (T:="tuple") (TT:="tuple") rfl zQ7 rfl T.z_isinstance rfl T.z_tuple (zT 1))) (eN (rQ (xN (lB (T:="tuple") (TT:="tuple") rfl zQ7 rfl T.z_isinstance rfl T.z_tuple (zT 0))))))) (zS (zG wN)) yY)
     (zU (qD (yN n)) rfl (yM (yU gW (wI rfl T.z_len (zT 0)) (wI rfl T.z_len (zT 1))) (zS (zG wN)) yY)
     (zU (sR (yN n)) rfl (sW Eo rfl (zYz rfl T.z_range (wI rfl T.z_len (zT 1))) (yF 2 bB.nd) (zS (yM (rQ (xN (xT IH hr (zZ (xX (zT 0) (zT 2)) (zZ (xX (zT 1) (zT 2)) zX))))) (zS (zG wN)) yY)))
     (zS (zG wN)))))))))))
theorem zUX (T:Txt w K mg):OkT P w base T.q39 4 2 fY:=dA T 3
theorem lQ:FnScope ["_law_curve_here","_law_least_here","_law_by_text","_law_caught_here"] ["_law_curve_here","_law_least_here"] (zV jJ):=yB (by decide +kernel)
def jP:Sf:=(sIf (vM (tB1 (zM 2 fY (zY (eL (xS (zY (zUZ zX6 "first" (eV 3)) (zY (zUZ zYI "second" (eV 3)) (zY (zUZ zXa "level" (eV 3)) zR))))) (zY (eL (xS (zY (eIx (eV 1) (eC (.int 0))) (zY (lW (eIx (eV 1) (eC (.int 0))) (eC (.int 1))) (zY (eIx (eV 1) (eC (.int 1))) zR))))) zR))))) (yC (eC (.bl false))) xL)
def pE:Sf:=(zJ (sIf (eR (vM (tB1 (zTi zUV (eV 3)))) (eR (tB1 (zTi dZ (eV 3))) (vM (tB1 (zTi iA (eV 3)))))) (yC (eC (.bl false))) xL)
   (jP))
def oV:Sf:=(zJ (sIf (eB2 kA (eV 1) (eC .non)) (zJ (sIf (eB2 uB (eV 3) (eC .non)) (yC (eC (.bl false))) xL)
   (fun ρ=>some (.ct ρ))) xL)
   (pE))
def w4:Sf:=(zJ (yK 3 (zM 2 uO (zY (eV 0) (zY (eV 2) zR))))
   (oV))
def mZ:Sf:=(yC (eC (.bl true)))
def vJ:Sf:=(zJ (qP (xS (zY (eC (.bl true)) (zY (eC (.bl false)) zR))) (gN 2) (w4))
   (mZ))
def zVn:Sf :=
   (vJ)
def uW:List D->Option D:=fnF 4 zVn
theorem eH (T:Txt w K mg):OkT P w base T.q40 8 2 uW :=
 xD (k:=7) T.q40.F lQ fun cdv A outer s H E hr =>
   (zU vJ rfl (sW Eo rfl (zMU (yD (zZ wN (zZ wN zX)))) (yF 2 lQ.nd) (zU w4 rfl (zD 3 lQ.nd (xT (zYm T) hr (zZ (zT 0) (zZ (zT 2) zX))))
     (zU oV rfl (yM (yU pG (zT 1) wU) (wP (yM (yU jS (zT 3) wU) (zS (zG wN)) yY)
     (zS zWC)) yY)
     (zU pE rfl (yM (bJ (oX (rQ (xN (zPR (zQZ T) T.mc_Unmet rfl rfl T.z_isinstance (zT 3)))) (oX (xN (zPR (zXK T) T.mc_TextError rfl rfl T.z_isinstance (zT 3))) (qO (rQ (xN (zNd (T:="ValueError") (TT:="ValueError") rfl (zY2 T) T.z_ValueError rfl rfl T.z_isinstance (zT 3)))))))) (zS (zG wN)) yY)
     (zS (yM (rQ (xN (xT (zUX T) hr (zZ (vN (yD (zZ (zW5 (zQa T) (zT 3)) (zZ (zW5 (zQT T) (zT 3)) (zZ (zW5 (zPz T) (zT 3)) zX))))) (zZ (vN (yD (zZ (xX (zT 1) zW) (zZ (rB (xX (zT 1) zW) zW) (zZ (xX (zT 1) zW) zX))))) zX))))) (zS (zG wN)) yY))))))
     (zS (zG wN)))
theorem zWP:FnScope ["_law_dims","_law_joined_here","_law_parts"] ["_law_dims","_law_joined_here","_law_parts"] (zV nS):=yB (by decide +kernel)
def zXV:Sf:=(yC (mK "Curve" ["name","dims","joined","parts"] 4 oU (zY (eC (.str "fold")) (zY (eV 0) (zY (eV 1) (zY (eL (xY (iL (eV 2)) 3 [] (gT (zP (gN 0) (zP (gN 1) (zP (gN 2) xZ)))) tOK (mK "Part" ["corner","turn","back"] 3 iY (zY (eV 0) (zY (eV 1) (zY (eV 2) zR)))))) zR))))))
def zUC:Sf :=
   (zXV)
def oC:List D->Option D:=fnF 3 zUC
theorem fE (T:Txt w K mg):OkT P w base T.q41 3 3 oC :=
 xD (k:=2) T.q41.F zWP fun cdv A outer s H E hr =>
   (zS (zG (zZT T.ca_Curve T.mk_Curve (zXp T) (hr.mono (by omega)) T.mc_Curve T.bi_Curve rfl (zZ uX (zZ (zT 0) (zZ (zT 1) (zZ (vN (wM (zV nS) ["_law_dims","_law_joined_here","_law_parts"] ["_law_corner","_law_turn_here","_law_back"] [] [] (zYi (xP (uQ 0) (xP (uQ 1) (xP (uQ 2) rS)))) (zTP (zT 2)) rfl rfl rfl (by decide +kernel) (fun _ _ _ _=>(sA 3 rfl (zN (yF 0 (show(List.Nodup (α:=PySem.Str) ["_law_corner","_law_turn_here","_law_back"]) from by decide +kernel)) (zN (yF 1 (show(List.Nodup (α:=PySem.Str) ["_law_corner","_law_turn_here","_law_back"]) from by decide +kernel)) (zN (yF 2 (show(List.Nodup (α:=PySem.Str) ["_law_corner","_law_turn_here","_law_back"]) from by decide +kernel)) yG))) (zE (zE (zE xU))))) (fun _ _ _ _=>y0) (fun _ _ _ _=>(zZT T.ca_Part T.mk_Part (zV6 T) (hr.mono (by omega)) T.mc_Part T.bi_Part rfl (zZ (zT 0) (zZ (zT 1) (zZ (zT 2) zX))))))) zX)))))))
theorem wO:FnScope ["_law_parts","_law_state_here","_law_digit","_law_turn_here","_law_back","_law_corner","_law_inner","_law_turned_back"] ["_law_parts","_law_state_here","_law_digit"] (zV mU):=yB (by decide +kernel)
def rD:Sf:=(yC (yX (zY (zM 2 vV (zY (eV 3) (zY (eV 5) zR))) (zY (yX (zY (zM 2 wZ (zY (eV 3) (zY (eV 6) zR))) (zY (uL (eB2 gNe (eV 4) (eV 7))) zR))) zR))))
def qY:Sf:=(zJ (uU (eIx (eV 0) (eV 2)) (gT (zP (gN 5) (zP (gN 6) (zP (gN 7) xZ)))))
   (rD))
def qX:Sf:=(zJ (sIf (tB1 (eV 4)) (yK 2 (rF (rF (wT (eV 0)) (eC (.int 1))) (eV 2))) xL)
   (qY))
def kR:Sf:=(zJ (uU (eV 1) (gT (zP (gN 3) (zP (gN 4) xZ))))
   (qX))
def zXN:Sf :=
   (kR)
def xQ:List D->Option D:=fnF 8 zXN
theorem tJ (T:Txt w K mg):OkT P w base T.q42 2 3 xQ :=
 xD (k:=1) T.q42.F wO fun cdv A outer s H E hr =>
   (zU kR rfl (vU (zT 1) (sA 2 rfl (zN (yF 3 wO.nd) (zN (yF 4 wO.nd) yG)) (zE (zE xU))))
     (zU qX rfl (yM (xN (zT 4)) (zS (zD 2 wO.nd (nF (nF (wI rfl T.z_len (zT 0)) zW) (zT 2)))) yY)
     (zU qY rfl (vU (xX (zT 0) (zT 2)) (sA 3 rfl (zN (yF 5 wO.nd) (zN (yF 6 wO.nd) (zN (yF 7 wO.nd) yG))) (zE (zE (zE xU)))))
     (zS (zG (zQ (zZ (xT (nH T) hr (zZ (zT 3) (zZ (zT 5) zX))) (zZ (zQ (zZ (xT (wE T) hr (zZ (zT 3) (zZ (zT 6) zX))) (zZ (sZ gW (zT 4) (zT 7)) zX))) zX))))))))
theorem zWq:FnScope ["_law_dims"] ["_law_dims"] (zV oN):=yB (by decide +kernel)
def zXI:Sf:=(yC (yX (zY (vX (eL (xY (iR (eV 0)) 1 [] (gN 0) tOK (yX (zY (eV 0) (zY (eC (.int 0)) zR)))))) (zY (eC (.bl false)) zR))))
def zUn:Sf :=
   (zXI)
def oA:List D->Option D:=fnF 1 zUn
theorem dQ (T:Txt w K mg):OkT P w base T.q43 1 1 oA :=
 xD (k:=0) T.q43.F zWq fun cdv A outer s H E hr =>
   (zS (zG (zQ (zZ (uY rfl T.z_tuple (vN (wM (zV oN) ["_law_dims"] ["_law_axis"] [] [] (uQ 0) (zYz rfl T.z_range (zT 0)) rfl rfl rfl (by decide +kernel) (fun _ _ _ _=>(yF 0 (show(List.Nodup (α:=PySem.Str) ["_law_axis"]) from by decide +kernel))) (fun _ _ _ _=>y0) (fun _ _ _ _=>(zQ (zZ (zT 0) (zZ zW zX))))))) (zZ wN zX)))))
theorem cZ:FnScope ["_law_one","_law_other","_law_axis","_law_up","_law_k"] ["_law_one","_law_other","_law_axis","_law_up"] (zV kF):=yB (by decide +kernel)
def zZ7:Sf:=(sIf (eB2 gEq (eV 4) (eV 2)) (sIf (eR (eB2 gNe (eIx (eV 0) (eV 4)) (eV 3)) (eB2 gEq (eIx (eV 1) (eV 4)) (eV 3))) (yC (eC (.bl false))) xL) (sIf (eB2 gNe (eIx (eV 0) (eV 4)) (eIx (eV 1) (eV 4))) (yC (eC (.bl false))) xL))
def zYh:Sf:=(yC (eC (.bl true)))
def iC:Sf:=(zJ (qP (iR (wT (eV 0))) (gN 4) (zZ7))
   (zYh))
def zV1:Sf :=
   (iC)
def tZ:List D->Option D:=fnF 5 zV1
theorem zWo (T:Txt w K mg):OkT P w base T.q44 1 4 tZ :=
 xD (k:=0) T.q44.F cZ fun cdv A outer s H E hr =>
   (zU iC rfl (sW Eo rfl (zYz rfl T.z_range (wI rfl T.z_len (zT 0))) (yF 4 cZ.nd) (zS (yM (yU uI (zT 4) (zT 2)) (zS (yM (bJ (oX (yU gW (xX (zT 0) (zT 4)) (zT 3)) (qO (yU uI (xX (zT 1) (zT 4)) (zT 3))))) (zS (zG wN)) yY)) (zS (yM (yU gW (xX (zT 0) (zT 4)) (xX (zT 1) (zT 4))) (zS (zG wN)) yY)))))
     (zS (zG wN)))
theorem xO:FnScope ["_law_parts","_law_dims","_law_first","_law_most","_law_last","_law_here","_law_end","_law_there","_law_begin","_law_unlike","_law_level","_law_one","_law_other"] ["_law_parts","_law_dims","_law_first","_law_most"] (zV oG):=yB (by decide +kernel)
def jC:Sf:=(sIf (vM (tB1 (zM 4 tZ (zY (eV 11) (zY (eV 12) (zY (eIx (eV 9) (eC (.int 0))) (zY (eIx (eV 7) (eIx (eV 9) (eC (.int 0)))) zR))))))) (yC (eV 10)) xL)
def pV:Sf:=(zJ (uU (zM 3 xQ (zY (eV 0) (zY (eV 8) (zY (eC (.int 0)) zR)))) (gT (zP (gN 12) (zP (gN 8) xZ))))
   (jC))
def xG:Sf:=(zJ (uU (zM 3 xQ (zY (eV 0) (zY (eV 6) (zY (eV 4) zR)))) (gT (zP (gN 11) (zP (gN 6) xZ))))
   (pV))
def gX:Sf:=(yC (eC .non))
def mW:Sf:=(zJ (fL 9 (qP (iR2 (eC (.int 2)) (eV 3)) (gN 10) (xG)))
   (gX))
def uG:Sf:=(zJ (sIf (eB2 gNe (jW 9) (eC (.int 1))) (yC (eC (.int 1))) xL)
   (mW))
def nB:Sf:=(zJ (tV 9 (xY (iR (eV 1)) 1 [5,7] (gN 0) (eB2 gNe (eIx (eV 1) (eV 0)) (eIx (eV 2) (eV 0))) (eV 0)))
   (uG))
def mS:Sf:=(zJ (uU (zM 3 xQ (zY (eV 0) (zY (zM 1 oA (zY (eV 1) zR)) (zY (lW (eV 2) (eC (.int 1))) zR)))) (gT (zP (gN 7) (zP (gN 8) xZ))))
   (nB))
def nG:Sf:=(zJ (uU (zM 3 xQ (zY (eV 0) (zY (zM 1 oA (zY (eV 1) zR)) (zY (eV 2) zR)))) (gT (zP (gN 5) (zP (gN 6) xZ))))
   (mS))
def rN:Sf:=(zJ (yK 4 (rF (wT (eV 0)) (eC (.int 1))))
   (nG))
def zUP:Sf :=
   (rN)
def vZ:List D->Option D:=fnF 13 zUP
theorem zVT (T:Txt w K mg):OkT P w base T.q45 3 4 vZ :=
 xD (k:=2) T.q45.F xO fun cdv A outer s H E hr =>
   (zU rN rfl (zD 4 xO.nd (nF (wI rfl T.z_len (zT 0)) zW))
     (zU nG rfl (vU (xT (tJ T) hr (zZ (zT 0) (zZ (xT (dQ T) hr (zZ (zT 1) zX)) (zZ (zT 2) zX)))) (sA 2 rfl (zN (yF 5 xO.nd) (zN (yF 6 xO.nd) yG)) (zE (zE xU))))
     (zU mS rfl (vU (xT (tJ T) hr (zZ (zT 0) (zZ (xT (dQ T) hr (zZ (zT 1) zX)) (zZ (rB (zT 2) zW) zX)))) (sA 2 rfl (zN (yF 7 xO.nd) (zN (yF 8 xO.nd) yG)) (zE (zE xU))))
     (zU nB rfl (pF (zV oG) ["_law_parts","_law_dims","_law_first","_law_most","_law_last","_law_here","_law_end","_law_there","_law_begin","_law_unlike","_law_level","_law_one","_law_other"] ["_law_k"] ["_law_here","_law_there"] [5,7] (uQ 0) 9 xO.nd rfl rfl (zYz rfl T.z_range (zT 1)) rfl rfl rfl (by decide +kernel) (fun _ _ _ _=>(yF 0 (show(List.Nodup (α:=PySem.Str) ["_law_k","_law_here","_law_there"]) from by decide +kernel))) (fun _ _ _ _=>(zWY (yU gW (xX (zT 1) (zT 0)) (xX (zT 2) (zT 0))))) (fun _ _ _ _=>(zT 0)))
     (zU uG rfl (yM (yU gW (zZI 9 rfl T.z_len) zW) (zS (zG zW)) yY)
     (zU mW rfl (qQ 9 (sW Eo rfl (zMT rfl T.z_range zW (zT 3)) (yF 10 xO.nd) (zU xG rfl (vU (xT (tJ T) hr (zZ (zT 0) (zZ (zT 6) (zZ (zT 4) zX)))) (sA 2 rfl (zN (yF 11 xO.nd) (zN (yF 6 xO.nd) yG)) (zE (zE xU))))
     (zU pV rfl (vU (xT (tJ T) hr (zZ (zT 0) (zZ (zT 8) (zZ zW zX)))) (sA 2 rfl (zN (yF 12 xO.nd) (zN (yF 8 xO.nd) yG)) (zE (zE xU))))
     (zS (yM (rQ (xN (xT (zWo T) hr (zZ (zT 11) (zZ (zT 12) (zZ (xX (zT 9) zW) (zZ (xX (zT 7) (xX (zT 9) zW)) zX))))))) (zS (zG (zT 10))) yY))))))
     (zS (zG wU))))))))
theorem tH:FnScope ["_law_parts","_law_dims","_law_least_here","_law_first","_law_due"] ["_law_parts","_law_dims"] (zV jE):=yB (by decide +kernel)
def jU:Sf:=(sIf (kX (eB2 uB (eV 4) (eC .non)) (eR (eB2 kA (eV 2) (eC .non)) (eB2 gLt (eV 4) (eIx (eV 2) (eC (.int 1)))))) (yK 2 (yX (zY (eV 3) (zY (eV 4) zR)))) xL)
def tI:Sf:=(zJ (yK 4 (zM 4 vZ (zY (eV 0) (zY (eV 1) (zY (eV 3) (zY (eC (.int 40)) zR))))))
   (jU))
def zYl:Sf:=(yC (eV 2))
def nC:Sf:=(zJ (qP (iR (rF (wT (eV 0)) (eC (.int 1)))) (gN 3) (tI))
   (zYl))
def rV:Sf:=(zJ (yK 2 (eC .non))
   (nC))
def zUj:Sf :=
   (rV)
def jM:List D->Option D:=fnF 5 zUj
theorem zW2 (T:Txt w K mg):OkT P w base T.q46 4 2 jM :=
 xD (k:=3) T.q46.F tH fun cdv A outer s H E hr =>
   (zU rV rfl (zD 2 tH.nd wU)
     (zU nC rfl (sW Eo rfl (zYz rfl T.z_range (nF (wI rfl T.z_len (zT 0)) zW)) (yF 3 tH.nd) (zU tI rfl (zD 4 tH.nd (xT (zVT T) hr (zZ (zT 0) (zZ (zT 1) (zZ (zT 3) (zZ zW zX))))))
     (zS (yM (bJ (zZS (yU jS (zT 4) wU) (eN (bJ (oX (yU pG (zT 2) wU) (qO (yU zKv (zT 4) (xX (zT 2) zW)))))))) (zS (zD 2 tH.nd (zQ (zZ (zT 3) (zZ (zT 4) zX))))) yY))))
     (zS (zG (zT 2)))))
theorem zWd:FnScope ["_law_script","_law_cell","_law_dims","_law_parts"] ["_law_script"] (zV zQA):=yB (by decide +kernel)
def zU4:Sf:=(sIf (vM (tB1 (zM 2 uW (zY (zM 3 oC (zY (eV 2) (zY (eC (.bl false)) (zY (eV 3) zR)))) (zY (eC .non) zR))))) (yC (eC (.bl false))) xL)
def zYv:Sf:=(zJ (sIf (vM (tB1 (zM 2 uW (zY (zM 3 oC (zY (eV 2) (zY (eC (.bl true)) (zY (eV 3) zR)))) (zY (zM 2 jM (zY (eV 3) (zY (eV 2) zR))) zR))))) (yC (eC (.bl false))) xL)
   (zU4))
def zZs:Sf:=(zJ (yK 3 (eL (vY 2 jK (zY (eV 2) (zY (eV 1) zR)))))
   (zYv))
def mI:Sf:=(zJ (yK 2 (lW (eC (.int 2)) (uC (zM 2 vI (zY (eV 1) (zY (eC (.int 69621)) zR))) (eC (.int 2)))))
   (zZs))
def zSC:Sf:=(yC (eC (.bl true)))
def zSD:Sf:=(zJ (qP (fS (kJ (eV 0) oNo (gQ (eC (.int 6)))) (xS (zY (eC (.int 21)) zR))) (gN 1) (mI))
   (zSC))
def zKE:Sf :=
   (zSD)
def zWZ:List D->Option D:=fnF 4 zKE
theorem zMD (T:Txt w K mg):OkT P w base T.q47 9 1 zWZ :=
 xD (k:=8) T.q47.F zWd fun cdv A outer s H E hr =>
   (zU zSD rfl (sW Eo rfl (zMU (zTO (zVe (zT 0) zMP (zRZ zW)) (yD (zZ zW zX)))) (yF 1 zWd.nd) (zU mI rfl (zD 2 zWd.nd (rB zW (vG (xT (oQ T) hr (zZ (zT 1) (zZ zW zX))) zW)))
     (zU zZs rfl (zD 3 zWd.nd (vN (zYN (zWE T) hr (zZ (zT 2) (zZ (zT 1) zX)))))
     (zU zYv rfl (yM (rQ (xN (xT (eH T) hr (zZ (xT (fE T) hr (zZ (zT 2) (zZ wN (zZ (zT 3) zX)))) (zZ (xT (zW2 T) hr (zZ (zT 3) (zZ (zT 2) zX))) zX))))) (zS (zG wN)) yY)
     (zS (yM (rQ (xN (xT (eH T) hr (zZ (xT (fE T) hr (zZ (zT 2) (zZ wN (zZ (zT 3) zX)))) (zZ wU zX))))) (zS (zG wN)) yY))))))
     (zS (zG wN)))
end
open PySem.W
theorem zMz {l:OpenLaw}{w:World}{K:Frag}{h:Heap}{mg:Str->Option Value}{fa:Addr}
   {cC0 cF0:Addr} {codi0 cani0:Option Addr} {csl0:Array (Option Value)} {coc0 ckV0 cdc0 cpm0 ccd0 cct0:Value}
   {cC1 cF1:Addr} {codi1 cani1:Option Addr} {csl1:Array (Option Value)} {coc1 ckV1 cdc1 cpm1 ccd1 cct1:Value}
   {yF0:Addr} {yodi0 yani0:Option Addr} {ysl0:Array (Option Value)} {yoc0 ykV0 ydc0 ypm0 ycd0 yct0:Value}
   {xC0:Addr}
   {xC1:Addr}
   {xC2:Addr}
   {t_BITS:Tok}
   {t_FLIPS:Tok}
   {t_AXES:Tok}
   {t_LETTERS:Tok}
   {t_LONGEST_WORD:Tok}
   {da_PROMISES:Addr} {dn_PROMISES:Nat} {dt_PROMISES_0  dt_PROMISES_1  : Tok}
   {da_DIMS:Addr} {dn_DIMS:Nat} {dt_DIMS_0 dv_DIMS_0 dt_DIMS_1 dv_DIMS_1:Tok} (X:K.In h) (G:h.Ns mainGlobals mg) (hfa:mg "law"=some (.ref fa))
   (g0:wV K "_law_mix" cC)
   (g1:wV K "_law_base" fR)
   (g2:wV K "_law_turn" lY)
   (g3:wV K "_law_after" nR)
   (g4:wV K "_law_undone" lH)
   (g5:wV K "_law_turned" qK)
   (g6:wV K "_law_joined" qM)
   (g7:wV K "_law_altered" mY)
   (g8:wV K "_law_fourth" mD)
   (g9:wV K "_law_corners" uH)
   (g10:wV K "_law_loose" kH)
   (g11:wV K "_law_drawn" kI)
   (g12:wV K "is_made_of" qC)
   (g13:wV K "is_word" bR)
   (g14:wV K "read_head" jN)
   (g15:wV K "words_at" gB)
   (g16:wV K "corner_of" oJ)
   (g17:wV K "turn_of" mL)
   (g18:wV K "read_part" kE)
   (g19:wV K "full" zUb)
   (g20:wV K "curve_from" lL)
   (g21:wV K "still" zZH)
   (g22:wV K "first_state" nJ)
   (g23:wV K "walked" zZf)
   (g24:wV K "after" zZW)
   (g25:wV K "turned" eM)
   (g26:wV K "part_at" bI)
   (g27:wV K "next_to" iU)
   (g28:wV K "deeper" dF)
   (g29:wV K "unmet_at" fV)
   (g30:wV K "meeting_of" sP)
   (g31:wV K "fitted" zYB)
   (g32:wV K "curve_of" gC)
   (g33:wV K "corner_text" rO)
   (g34:wV K "turn_text" nV)
   (g35:wV K "part_row" fO)
   (g36:wV K "curve_rows" qH)
   (g37:wV K "curve_text" lZ)
   (g38:wV K "_law_caught" lG)
   (g39:wV K "_law_same" fX)
   (g40:wV K "_law_asked" jJ)
   (g41:wV K "_law_curve" nS)
   (g42:wV K "_law_part_at" mU)
   (g43:wV K "_law_state" oN)
   (g44:wV K "_law_faces" kF)
   (g45:wV K "_law_unmet" oG)
   (g46:wV K "_law_least" jE)
   (g47:wV K "law" zQA)
   (ca0:nsIn K mainGlobals "Part"=some (some (.ref cC0))) (ci0:findIn K (.ref cC0) "__init__"=some (some (.ref cF0))) (cn0:isFn K (.ref cF0)=true) (cl0:K.lookup cF0=some ⟨coc0,codi0,.func (fnOf "__init__" "Part.__init__" (zF iQ) (zK iQ) (zV iQ) .none ckV0 cdc0 cpm0 cani0 ccd0 cct0),csl0⟩) (cc0:codeIn K ccd0 "Part.__init__"=true) (ck0:keepIn K (.ref cF0)=true)
   (cpg0:plainGet K cC0 Str.empty=true) (chd0:hasDictIn K cC0=true) (cpo0:plainOver K cC0=true) (csa0:findIn K (.ref cC0) "__setattr__"=some (some (.builtin "object.__setattr__"))) (cmk0:makesIn K cC0=true) (ckc0:keepIn K (.ref cC0)=true)
   (cf0_back:findIn K (.ref cC0) "back"=some none)
   (cf0_corner:findIn K (.ref cC0) "corner"=some none)
   (cf0_turn:findIn K (.ref cC0) "turn"=some none)
   (ca1:nsIn K mainGlobals "Curve"=some (some (.ref cC1))) (ci1:findIn K (.ref cC1) "__init__"=some (some (.ref cF1))) (cn1:isFn K (.ref cF1)=true) (cl1:K.lookup cF1=some ⟨coc1,codi1,.func (fnOf "__init__" "Curve.__init__" (zF mH) (zK mH) (zV mH) .none ckV1 cdc1 cpm1 cani1 ccd1 cct1),csl1⟩) (cc1:codeIn K ccd1 "Curve.__init__"=true) (ck1:keepIn K (.ref cF1)=true)
   (cpg1:plainGet K cC1 Str.empty=true) (chd1:hasDictIn K cC1=true) (cpo1:plainOver K cC1=true) (csa1:findIn K (.ref cC1) "__setattr__"=some (some (.builtin "object.__setattr__"))) (cmk1:makesIn K cC1=true) (ckc1:keepIn K (.ref cC1)=true)
   (cf1_dims:findIn K (.ref cC1) "dims"=some none)
   (cf1_joined:findIn K (.ref cC1) "joined"=some none)
   (cf1_name:findIn K (.ref cC1) "name"=some none)
   (cf1_parts:findIn K (.ref cC1) "parts"=some none)
   (xa0:nsIn K mainGlobals "Unmet"=some (some (.ref xC0)))
   (xk0:zTz K xC0=true)
   (xe0:keepIn K (.ref xC0)=true)
   (xo0:zTQ K xC0=true)
   (xi0:findIn K (.ref xC0) "__init__"=some (some (.ref yF0)))
   (xn0:isFn K (.ref yF0)=true)
   (xt0:findIn K (.ref xC0) "__setattr__"=some (some (.builtin "object.__setattr__")))
   (xf0_first:findIn K (.ref xC0) "first"=some none)
   (xf0_second:findIn K (.ref xC0) "second"=some none)
   (xf0_level:findIn K (.ref xC0) "level"=some none)
   (xa1:nsIn K mainGlobals "TextError"=some (some (.ref xC1)))
   (xa2:nsIn K mainGlobals "YardError"=some (some (.ref xC2)))
   (yl0:K.lookup yF0=some ⟨yoc0,yodi0,.func (fnOf "__init__" "Unmet.__init__" (zF mM) (zK mM) (zV mM) .none ykV0 ydc0 ypm0 yani0 ycd0 yct0),ysl0⟩) (yc0:codeIn K ycd0 "Unmet.__init__"=true) (yk0:keepIn K (.ref yF0)=true)
   (ix_Unmet:dP K (.ref xC0) [(xC0,true)]=true)
   (ix_TextError:dP K (.ref xC1) [(xC0,false)]=true)
   (ix_ValueError:dP K (.type "ValueError") [(xC0,true)]=true)
   (em_YardError_Unmet:exmOne K (.ref xC0) (.ref xC2)=some true)
   (g_BITS:nsIn K mainGlobals "BITS"=some (some (.str "01" t_BITS)))
   (g_FLIPS:nsIn K mainGlobals "FLIPS"=some (some (.str "+-" t_FLIPS)))
   (g_AXES:nsIn K mainGlobals "AXES"=some (some (.str "xyz" t_AXES)))
   (g_LETTERS:nsIn K mainGlobals "LETTERS"=some (some (.str "abcdefghijklmnopqrstuvwxyz" t_LETTERS)))
   (g_LONGEST_WORD:nsIn K mainGlobals "LONGEST_WORD"=some (some (.int 12 t_LONGEST_WORD)))
   (g_PROMISES:nsIn K mainGlobals "PROMISES"=some (some (.ref da_PROMISES))) (dl_PROMISES:K.lookup da_PROMISES=some ⟨.type "dict",none,.dict #[⟨PyData.keyHash w.params "joined",.str "joined" dt_PROMISES_0,.bool true⟩,⟨PyData.keyHash w.params "loose",.str "loose" dt_PROMISES_1,.bool false⟩] dn_PROMISES,#[]⟩) (ds_PROMISES:(da_PROMISES==sysModules)=false)
   (g_DIMS:nsIn K mainGlobals "DIMS"=some (some (.ref da_DIMS))) (dl_DIMS:K.lookup da_DIMS=some ⟨.type "dict",none,.dict #[⟨PyData.keyHash w.params "2",.str "2" dt_DIMS_0,.int 2 dv_DIMS_0⟩,⟨PyData.keyHash w.params "3",.str "3" dt_DIMS_1,.int 3 dv_DIMS_1⟩] dn_DIMS,#[]⟩) (ds_DIMS:(da_DIMS==sysModules)=false)
   (z_ValueError:nsIn K mainGlobals "ValueError"=some none)
   (z_abs:nsIn K mainGlobals "abs"=some none)
   (z_all:nsIn K mainGlobals "all"=some none)
   (z_bool:nsIn K mainGlobals "bool"=some none)
   (z_int:nsIn K mainGlobals "int"=some none)
   (z_isinstance:nsIn K mainGlobals "isinstance"=some none)
   (z_len:nsIn K mainGlobals "len"=some none)
   (z_list:nsIn K mainGlobals "list"=some none)
   (z_min:nsIn K mainGlobals "min"=some none)
   (z_range:nsIn K mainGlobals "range"=some none)
   (z_reversed:nsIn K mainGlobals "reversed"=some none)
   (z_sorted:nsIn K mainGlobals "sorted"=some none)
   (z_str:nsIn K mainGlobals "str"=some none)
   (z_sum:nsIn K mainGlobals "sum"=some none)
   (z_tuple:nsIn K mainGlobals "tuple"=some none)
   (z_zip:nsIn K mainGlobals "zip"=some none) :
   ∃fd:FuncData,(∀(s:Shared) (v:Value),BindsTo s fd ⟨[v],[]⟩ [("_law_script",v)])/\∀base:Heap,K.In base->base.Ns mainGlobals mg->FnOk l.prog w K mg base CX0 9 fa fd ["_law_script"] (spF K 1 zWZ):=by
 have cFF0:=zZj (st:=iQ) cl0 cc0 ck0
 have cb0:=cFF0.binds (ps:=["self","corner","turn","back"]) fun _ _ _ _ _ _ us hl=>match us,hl with | [_,_,_,_],_=>rfl
 have cFF1:=zZj (st:=mH) cl1 cc1 ck1
 have cb1:=cFF1.binds (ps:=["self","name","dims","joined","parts"]) fun _ _ _ _ _ _ us hl=>match us,hl with | [_,_,_,_,_],_=>rfl
 have yFF0:=zZj (st:=mM) yl0 yc0 yk0
 have yb0:=yFF0.binds (ps:=["self","first","second","level"]) fun _ _ _ _ _ _ us hl=>match us,hl with | [_,_,_,_],_=>rfl
 exact zMo _ (bd1 fun _ _ _ _ _ _ _=>rfl) hfa fun base=>zMD ({ q0:=wQ X G g0 (bd2 fun _ _ _ _ _ _ _ _=>rfl),q1:=wQ X G g1 (bd1 fun _ _ _ _ _ _ _=>rfl),q2:=wQ X G g2 (bd2 fun _ _ _ _ _ _ _ _=>rfl),q3:=wQ X G g3 (bd2 fun _ _ _ _ _ _ _ _=>rfl),q4:=wQ X G g4 (bd1 fun _ _ _ _ _ _ _=>rfl),q5:=wQ X G g5 (bd2 fun _ _ _ _ _ _ _ _=>rfl),q6:=wQ X G g6 (bd2 fun _ _ _ _ _ _ _ _=>rfl),q7:=wQ X G g7 (bd2 fun _ _ _ _ _ _ _ _=>rfl),q8:=wQ X G g8 (bd1 fun _ _ _ _ _ _ _=>rfl),q9:=wQ X G g9 (bd1 fun _ _ _ _ _ _ _=>rfl),q10:=wQ X G g10 (bd2 fun _ _ _ _ _ _ _ _=>rfl),q11:=wQ X G g11 (bd2 fun _ _ _ _ _ _ _ _=>rfl),q12:=wQ X G g12 (bd3 fun _ _ _ _ _ _ _ _ _=>rfl),q13:=wQ X G g13 (bd1 fun _ _ _ _ _ _ _=>rfl),q14:=wQ X G g14 (bd1 fun _ _ _ _ _ _ _=>rfl),q15:=wQ X G g15 (bd2 fun _ _ _ _ _ _ _ _=>rfl),q16:=wQ X G g16 (bd2 fun _ _ _ _ _ _ _ _=>rfl),q17:=wQ X G g17 (bd2 fun _ _ _ _ _ _ _ _=>rfl),q18:=wQ X G g18 (bd3 fun _ _ _ _ _ _ _ _ _=>rfl),q19:=wQ X G g19 (bd2 fun _ _ _ _ _ _ _ _=>rfl),q20:=wQ X G g20 (bd1 fun _ _ _ _ _ _ _=>rfl),q21:=wQ X G g21 (bd1 fun _ _ _ _ _ _ _=>rfl),q22:=wQ X G g22 (bd1 fun _ _ _ _ _ _ _=>rfl),q23:=wQ X G g23 (bd3 fun _ _ _ _ _ _ _ _ _=>rfl),q24:=wQ X G g24 (bd2 fun _ _ _ _ _ _ _ _=>rfl),q25:=wQ X G g25 (bd2 fun _ _ _ _ _ _ _ _=>rfl),q26:=wQ X G g26 (bd3 fun _ _ _ _ _ _ _ _ _=>rfl),q27:=wQ X G g27 (bd2 fun _ _ _ _ _ _ _ _=>rfl),q28:=wQ X G g28 (bd2 fun _ _ _ _ _ _ _ _=>rfl),q29:=wQ X G g29 (bd2 fun _ _ _ _ _ _ _ _=>rfl),q30:=wQ X G g30 (bd1 fun _ _ _ _ _ _ _=>rfl),q31:=wQ X G g31 (bd1 fun _ _ _ _ _ _ _=>rfl),q32:=wQ X G g32 (bd1 fun _ _ _ _ _ _ _=>rfl),q33:=wQ X G g33 (bd1 fun _ _ _ _ _ _ _=>rfl),q34:=wQ X G g34 (bd1 fun _ _ _ _ _ _ _=>rfl),q35:=wQ X G g35 (bd1 fun _ _ _ _ _ _ _=>rfl),q36:=wQ X G g36 (bd1 fun _ _ _ _ _ _ _=>rfl),q37:=wQ X G g37 (bd1 fun _ _ _ _ _ _ _=>rfl),q38:=wQ X G g38 (bd2 fun _ _ _ _ _ _ _ _=>rfl),q39:=wQ X G g39 (bd2 fun _ _ _ _ _ _ _ _=>rfl),q40:=wQ X G g40 (bd2 fun _ _ _ _ _ _ _ _=>rfl),q41:=wQ X G g41 (bd3 fun _ _ _ _ _ _ _ _ _=>rfl),q42:=wQ X G g42 (bd3 fun _ _ _ _ _ _ _ _ _=>rfl),q43:=wQ X G g43 (bd1 fun _ _ _ _ _ _ _=>rfl),q44:=wQ X G g44 (bd4 fun _ _ _ _ _ _ _ _ _ _=>rfl),q45:=wQ X G g45 (bd4 fun _ _ _ _ _ _ _ _ _ _=>rfl),q46:=wQ X G g46 (bd2 fun _ _ _ _ _ _ _ _=>rfl),q47:=wQ X G g47 (bd1 fun _ _ _ _ _ _ _=>rfl),C_Part:=_,fi_Part:=_,fdi_Part:=_,ca_Part:=ca0,cl_Part:=⟨cpg0,chd0,cpo0,csa0⟩,mc_Part:=mg_of X G ca0,Fi_Part:=cFF0,bi_Part:=cb0,mk_Part:=⟨cmk0,ci0,cn0,ckc0⟩,n_Part_back:=cf0_back,n_Part_corner:=cf0_corner,n_Part_turn:=cf0_turn,C_Curve:=_,fi_Curve:=_,fdi_Curve:=_,ca_Curve:=ca1,cl_Curve:=⟨cpg1,chd1,cpo1,csa1⟩,mc_Curve:=mg_of X G ca1,Fi_Curve:=cFF1,bi_Curve:=cb1,mk_Curve:=⟨cmk1,ci1,cn1,ckc1⟩,n_Curve_dims:=cf1_dims,n_Curve_joined:=cf1_joined,n_Curve_name:=cf1_name,n_Curve_parts:=cf1_parts,C_Unmet:=_,ca_Unmet:=xa0,mc_Unmet:=mg_of X G xa0,xk_Unmet:=zSA xk0,xs_Unmet:=⟨zSA xk0,zSB xo0,xt0⟩,xm_Unmet:=⟨zSB xo0,xi0,xn0,xe0⟩,n_Unmet_first:=xf0_first,n_Unmet_second:=xf0_second,n_Unmet_level:=xf0_level,C_TextError:=_,ca_TextError:=xa1,mc_TextError:=mg_of X G xa1,C_YardError:=_,ca_YardError:=xa2,mc_YardError:=mg_of X G xa2,fi_Unmet:=_,fdi_Unmet:=_,Fi_Unmet:=yFF0,bi_Unmet:=yb0,ix_Unmet:=ix_Unmet,ix_TextError:=ix_TextError,ix_ValueError:=ix_ValueError,em_YardError_Unmet:=em_YardError_Unmet,t_BITS:=t_BITS,c_BITS:=mg_of X G g_BITS,t_FLIPS:=t_FLIPS,c_FLIPS:=mg_of X G g_FLIPS,t_AXES:=t_AXES,c_AXES:=mg_of X G g_AXES,t_LETTERS:=t_LETTERS,c_LETTERS:=mg_of X G g_LETTERS,t_LONGEST_WORD:=t_LONGEST_WORD,c_LONGEST_WORD:=mg_of X G g_LONGEST_WORD,da_PROMISES:=da_PROMISES,c_PROMISES:=mg_of X G g_PROMISES,dc_PROMISES:=zUF [("joined",dt_PROMISES_0,.bool true),("loose",dt_PROMISES_1,.bool false)] dl_PROMISES ds_PROMISES,da_DIMS:=da_DIMS,c_DIMS:=mg_of X G g_DIMS,dc_DIMS:=zUF [("2",dt_DIMS_0,.int 2 dv_DIMS_0),("3",dt_DIMS_1,.int 3 dv_DIMS_1)] dl_DIMS ds_DIMS,z_ValueError:=mg_none_of X G z_ValueError,z_abs:=mg_none_of X G z_abs,z_all:=mg_none_of X G z_all,z_bool:=mg_none_of X G z_bool,z_int:=mg_none_of X G z_int,z_isinstance:=mg_none_of X G z_isinstance,z_len:=mg_none_of X G z_len,z_list:=mg_none_of X G z_list,z_min:=mg_none_of X G z_min,z_range:=mg_none_of X G z_range,z_reversed:=mg_none_of X G z_reversed,z_sorted:=mg_none_of X G z_sorted,z_str:=mg_none_of X G z_str,z_sum:=mg_none_of X G z_sum,z_tuple:=mg_none_of X G z_tuple,z_zip:=mg_none_of X G z_zip }:Txt w K mg)
theorem zL9 {K:Frag}{H:Hp}{a:Addr}{ns:List Int}(hS:SqL K H a (ns.map V.int))(h:zWZ [.lst (ns.map .int)]=some (.bl true)):spF K 1 zWZ [.ref a] H (fun v _=>v = .bl true) fun _ _ _=>False:=by
 have rs:∀ns:List Int,Reps K H (ns.map .int) (ns.map V.int):=fun ns=>by
   induction ns with
   | nil=>exact yR.mpr rfl
   | cons n r ih=>exact z9.mpr ⟨_,_,rfl,zB.mpr rfl,ih⟩
 exact⟨H,[.lst (ns.map .int)],.bl true,Same.refl _,z9.mpr ⟨_,_,rfl,xH.mpr ⟨a,_,rfl,hS,rs ns⟩,yR.mpr rfl⟩,rfl,h,fun v H' G' _ r=>wX.mp r⟩
end My
end
namespace My
open PySem L2
theorem zMM:vQ 0 2=[.int 0,.int 1]:=rfl
theorem zK3:vQ 0 3=[.int 0,.int 1,.int 2]:=rfl
theorem bit (x:Int):x % 2=0∨x % 2=1:=by omega
def zRQ (a b c:Int):Prop:=(a=0/\b=1/\c=2)∨(a=0/\b=2/\c=1)∨(a=1/\b=0/\c=2)∨(a=1/\b=2/\c=0)∨(a=2/\b=0/\c=1)∨(a=2/\b=1/\c=0)
abbrev Tn:=List (Int×Int)
def kN (p:Int×Int):D:=.tup [.int p.1,.int p.2]
def z0 (t:Tn):D:=.tup (t.map kN)
def yW (c:List Int):D:=.tup (c.map .int)
def zL (t:Tn)(c:List Int):List Int:=t.map fun p=>Builtin.bitXor (c.getD p.1.toNat 0) p.2
def yP (t u:Tn):Tn:=t.map fun p=>((u.getD p.1.toNat (0,0)).1,Builtin.bitXor (u.getD p.1.toNat (0,0)).2 p.2)
theorem gH {elt:Ef}{h:Int×Int->D}{rest:List B}:∀(t:Tn) (x0 x1:B) (acc:List D),(∀p∈t,elt (.fz (.int p.1) :: .fz (.int p.2)::rest)=some (h p)) ->
   sF (gT (zP (gN 0) (zP (gN 1) xZ))) tOK elt (t.map kN) (x0::x1::rest) acc=some (acc++t.map h)
 | [],_,_,acc,_=>by simp[sF]
 | p::r,x0,x1,acc,hh=>by
   rw[Qg]
   unfold sF
   have e1:gT (zP (gN 0) (zP (gN 1) xZ)) (kN p) (x0::x1::rest)=some (.fz (.int p.1) :: .fz (.int p.2)::rest):=rfl
   rw[e1,Qe]
   have e2:tOK (.fz (.int p.1) :: .fz (.int p.2)::rest)=some true:=rfl
   rw[e2,Qe,Qn rfl,hh p Qf,Qe,gH r _ _ _ fun q hq=>hh q (Qd _ hq)]
   simp
theorem dN {α:Type}(xs:List α)(i:Int)(d:α)(h0:0<=i)(h1:i < xs.length):atI xs i=some (xs.getD i.toNat d):=by
 unfold atI ixN
 rw[Qn h0,Qn h1]
 have:i.toNat < xs.length:=by omega
 simp[List.getD,this]
def zMA (t:Tn)(n:Nat):Prop:=∀p∈t,0<=p.1/\p.1 < n
theorem zSw {t:List D}(h:t.length<=1000):okL t=some t:=by
 unfold okL
 rw[Qn (Eu h (by decide))]
theorem iK {α β:Type}(f:α->β)(xs:List α)(i:Int):atI (xs.map f) i=(atI xs i).map f:=by
 unfold atI
 rw[Qo]
 cases ixN xs.length i with
 | none=>rfl
 | some j=>simp
theorem bW (t:Tn)(c:List Int)(h:zMA t c.length)(hl:t.length<=1000):pP [z0 t,yW c]=some (yW (zL t c)):=by
 have e1:rC 2 [z0 t,yW c]=[.fz (z0 t),.fz (yW c)]:=rfl
 have e2:=gH (elt:=zW6 (eIx (eV 2) (eV 0)) (eV 1)) (h:=fun p=>.int (Builtin.bitXor (c.getD p.1.toNat 0) p.2)) (rest:=[.fz (yW c)]) t .no .no [] fun p hp=>by
   obtain⟨h0,h1⟩:=h p hp
   simp[eI,eIx,eV,qI,yW,atD,iK,dN c p.1 0 h0 h1]
 have e3:okL (t.map kN)=some (t.map kN):=zSw (by rw[Qo];exact hl)
 have e4:upB 2 [1] [.fz (z0 t),.fz (yW c)]=[.no,.no,.fz (yW c)]:=rfl
 unfold pP fnF
 rw[e1]
 have e5:xY (iT (eV 0)) 2 [1] (gT (zP (gN 0) (zP (gN 1) xZ))) tOK (zW6 (eIx (eV 2) (eV 0)) (eV 1)) [.fz (z0 t),.fz (yW c)]=some (t.map fun p=>D.int (Builtin.bitXor (c.getD p.1.toNat 0) p.2)):=by
   unfold xY
   have e6:iT (eV 0) [.fz (z0 t),.fz (yW c)]=some (t.map kN):=rfl
   rw[e6,Qe,e3,Qe,e4,e2]
   simp
 simp only[zUA,zZ9,yC,vX,eL,e5,Wy,Qe,zTb,wA]
 simp only[yW,zL,Tu,Function.comp_def]
theorem zU1 (t u:Tn)(h:zMA t u.length)(hl:t.length<=1000):lI [z0 t,z0 u]=some (z0 (yP t u)):=by
 have e1:rC 2 [z0 t,z0 u]=[.fz (z0 t),.fz (z0 u)]:=rfl
 have e2:=gH (elt:=yX (zY (eIx (eIx (eV 2) (eV 0)) (eC (.int 0))) (zY (zW6 (eIx (eIx (eV 2) (eV 0)) (eC (.int 1))) (eV 1)) zR))) (h:=fun p=>kN ((u.getD p.1.toNat (0,0)).1,Builtin.bitXor (u.getD p.1.toNat (0,0)).2 p.2)) (rest:=[.fz (z0 u)]) t .no .no [] fun p hp=>by
   obtain⟨h0,h1⟩:=h p hp
   have a0:∀x y:D,atI [x,y] 0=some x:=fun _ _=>rfl
   have a1:∀x y:D,atI [x,y] 1=some y:=fun _ _=>rfl
   simp[eI,eIx,eV,eC,qI,z0,atD,iK,dN u p.1 (0,0) h0 h1,kN,yX,zY,zR,okL,lim,a0,a1]
 have e3:okL (t.map kN)=some (t.map kN):=zSw (by rw[Qo];exact hl)
 have e4:upB 2 [1] [.fz (z0 t),.fz (z0 u)]=[.no,.no,.fz (z0 u)]:=rfl
 unfold lI fnF
 rw[e1]
 have e5:xY (iT (eV 0)) 2 [1] (gT (zP (gN 0) (zP (gN 1) xZ))) tOK (yX (zY (eIx (eIx (eV 2) (eV 0)) (eC (.int 0))) (zY (zW6 (eIx (eIx (eV 2) (eV 0)) (eC (.int 1))) (eV 1)) zR))) [.fz (z0 t),.fz (z0 u)]=some (t.map fun p=>kN ((u.getD p.1.toNat (0,0)).1,Builtin.bitXor (u.getD p.1.toNat (0,0)).2 p.2)):=by
   unfold xY
   have e6:iT (eV 0) [.fz (z0 t),.fz (z0 u)]=some (t.map kN):=rfl
   rw[e6,Qe,e3,Qe,e4,e2]
   simp
 simp only[zSI,zXG,yC,vX,eL,e5,Wy,Qe,zTb,wA]
 simp only[z0,yP,Tu,Function.comp_def]
def tX:List Int:=[0,1]
def vE:List Tn:=[((0:Int),(1:Int)),(1,0)].flatMap fun o=>tX.flatMap fun f=>tX.map fun g=>[(o.1,f),(o.2,g)]
def vC:List Tn:=[((0:Int),(1:Int),(2:Int)),(0,2,1),(1,0,2),(1,2,0),(2,0,1),(2,1,0)].flatMap fun o=>tX.flatMap fun f=>tX.flatMap fun g=>tX.map fun h=>[(o.1,f),(o.2.1,g),(o.2.2,h)]
theorem zMc {a b f g:Int}(h1:a=0/\b=1∨a=1/\b=0)(h2:f=0∨f=1)(h3:g=0∨g=1):[(a,f),(b,g)]∈vE:=by
 rcases h1 with⟨rfl,rfl⟩ | ⟨rfl,rfl⟩<;>rcases h2 with rfl | rfl<;>rcases h3 with rfl | rfl<;>decide
theorem zLc {a b c f g h:Int}(h1:zRQ a b c)(h2:f=0∨f=1)(h3:g=0∨g=1)(h4:h=0∨h=1):[(a,f),(b,g),(c,h)]∈vC:=by
 rcases h1 with⟨rfl,rfl,rfl⟩ | ⟨rfl,rfl,rfl⟩ | ⟨rfl,rfl,rfl⟩ | ⟨rfl,rfl,rfl⟩ | ⟨rfl,rfl,rfl⟩ | ⟨rfl,rfl,rfl⟩<;>rcases h2 with rfl | rfl<;>rcases h3 with rfl | rfl<;>rcases h4 with rfl | rfl<;>decide
theorem zS2 {t:Tn}(h:t∈vE):∃a b f g,(a=0/\b=1∨a=1/\b=0)/\(f=0∨f=1)/\(g=0∨g=1)/\t=[(a,f),(b,g)]:=by
 simp only[vE,tX,Yt,Wg,Qj,Ws,Rj] at h
 obtain⟨o,ho,f,hf,g,hg,rfl⟩:=h
 refine⟨o.1,o.2,f,g,?_,hf,hg,rfl⟩
 rcases ho with rfl | rfl
 · exact .inl ⟨rfl,rfl⟩
 · exact .inr ⟨rfl,rfl⟩
theorem zSf {t:Tn}(h:t∈vC):∃a b c f g j,zRQ a b c/\(f=0∨f=1)/\(g=0∨g=1)/\(j=0∨j=1)/\t=[(a,f),(b,g),(c,j)]:=by
 simp only[vC,tX,Yt,Wg,Qj,Ws,Rj] at h
 obtain⟨o,ho,f,hf,g,hg,j,hj,rfl⟩:=h
 refine⟨o.1,o.2.1,o.2.2,f,g,j,?_,hf,hg,hj,rfl⟩
 unfold zRQ
 rcases ho with rfl | rfl | rfl | rfl | rfl | rfl<;>simp
structure Tr (n:Nat)(t:Tn):Prop where
 len:t.length=n
 fits:zMA t n
 flip:∀p∈t,p.2=0∨p.2=1
theorem tr2 {t:Tn}(h:t∈vE):Tr 2 t:=by
 obtain⟨a,b,f,g,h1,h2,h3,rfl⟩:=zS2 h
 refine⟨rfl,fun p hp=>?_,fun p hp=>?_⟩
 · simp only[Qj,Ws,Rj] at hp
   rcases h1 with⟨rfl,rfl⟩ | ⟨rfl,rfl⟩<;>rcases hp with rfl | rfl<;>exact⟨by simp,by simp⟩
 · simp only[Qj,Ws,Rj] at hp
   rcases hp with rfl | rfl
   · exact h2
   · exact h3
theorem tr3 {t:Tn}(h:t∈vC):Tr 3 t:=by
 obtain⟨a,b,c,f,g,j,h1,h2,h3,h4,rfl⟩:=zSf h
 refine⟨rfl,fun p hp=>?_,fun p hp=>?_⟩
 · simp only[Qj,Ws,Rj] at hp
   unfold zRQ at h1
   rcases h1 with⟨rfl,rfl,rfl⟩ | ⟨rfl,rfl,rfl⟩ | ⟨rfl,rfl,rfl⟩ | ⟨rfl,rfl,rfl⟩ | ⟨rfl,rfl,rfl⟩ | ⟨rfl,rfl,rfl⟩<;>rcases hp with rfl | rfl | rfl<;>exact⟨by simp,by simp⟩
 · simp only[Qj,Ws,Rj] at hp
   rcases hp with rfl | rfl | rfl
   · exact h2
   · exact h3
   · exact h4
theorem zQG {x y z:Int}(hx:x=0∨x=1)(hy:y=0∨y=1)(hz:z=0∨z=1):Builtin.bitXor x (Builtin.bitXor y z)=Builtin.bitXor (Builtin.bitXor x y) z:=by
 rcases hx with rfl | rfl<;>rcases hy with rfl | rfl<;>rcases hz with rfl | rfl<;>rfl
theorem zSN {α:Type}(l:List α)(i:Int)(d:α)(h0:0<=i)(h1:i < l.length):l.getD i.toNat d∈l:=by
 have:i.toNat < l.length:=by omega
 rw[Wo,Qu this]
 exact Rb this
theorem zPs {α β:Type}(f:α->β)(l:List α)(i:Int)(d:α)(e:β)(h0:0<=i)(h1:i < l.length):(l.map f).getD i.toNat e=f (l.getD i.toNat d):=by
 have:i.toNat < l.length:=by omega
 rw[Wo,Wo,Wq,Qu this]
 rfl
theorem zWv {n:Nat}{t u:Tn}{c:List Int}(ht:Tr n t)(hu:Tr n u)(hc:c.length=n)(bc:∀x∈c,x=0∨x=1):zL (yP t u) c=zL t (zL u c):=by
 unfold zL yP
 rw[Tu]
 refine Rv fun p hp=>?_
 obtain⟨h0,h1⟩:=ht.fits p hp
 have hul:p.1 < u.length:=by rw[hu.len];exact h1
 have hq:=zSN u p.1 (0,0) h0 hul
 obtain⟨q0,q1⟩:=hu.fits _ hq
 show Builtin.bitXor (c.getD (u.getD p.1.toNat (0,0)).1.toNat 0) (Builtin.bitXor (u.getD p.1.toNat (0,0)).2 p.2)=Builtin.bitXor ((u.map fun p=>Builtin.bitXor (c.getD p.1.toNat 0) p.2).getD p.1.toNat 0) p.2
 rw[zPs _ u p.1 (0,0) 0 h0 hul]
 exact zQG (bc _ (zSN c _ 0 q0 (by rw[hc];exact q1))) (hu.flip _ hq) (ht.flip p hp)
def zPq (t:Tn):Bool:=match t with | [(a,f),(b,g)]=>(decide (a=0)&&decide (b=1)||decide (a=1)&&decide (b=0))&&(decide (f=0)||decide (f=1))&&(decide (g=0)||decide (g=1)) | _=>false
def zKp (a b c:Int):Bool:=(decide (a=0)&&decide (b=1)&&decide (c=2))||(decide (a=0)&&decide (b=2)&&decide (c=1))||(decide (a=1)&&decide (b=0)&&decide (c=2))||(decide (a=1)&&decide (b=2)&&decide (c=0))||(decide (a=2)&&decide (b=0)&&decide (c=1))||(decide (a=2)&&decide (b=1)&&decide (c=0))
def zOB (t:Tn):Bool:=match t with | [(a,f),(b,g),(c,h)]=>zKp a b c&&(decide (f=0)||decide (f=1))&&(decide (g=0)||decide (g=1))&&(decide (h=0)||decide (h=1)) | _=>false
theorem zUE {t:Tn}(h:zPq t=true):t∈vE:=by
 unfold zPq at h
 split at h
 · simp only[Qx,En,Wc] at h
   exact zMc h.1.1 h.1.2 h.2
 · cases h
theorem zUy {t:Tn}(h:zOB t=true):t∈vC:=by
 unfold zOB zKp at h
 split at h
 · simp only[Qx,En,Wc] at h
   obtain⟨⟨⟨h1,h2⟩,h3⟩,h4⟩:=h
   refine zLc ?_ h2 h3 h4
   unfold zRQ
   rcases h1 with((((h1 | h1) | h1) | h1) | h1) | h1
   · exact .inl ⟨h1.1.1,h1.1.2,h1.2⟩
   · exact .inr (.inl ⟨h1.1.1,h1.1.2,h1.2⟩)
   · exact .inr (.inr (.inl ⟨h1.1.1,h1.1.2,h1.2⟩))
   · exact .inr (.inr (.inr (.inl ⟨h1.1.1,h1.1.2,h1.2⟩)))
   · exact .inr (.inr (.inr (.inr (.inl ⟨h1.1.1,h1.1.2,h1.2⟩))))
   · exact .inr (.inr (.inr (.inr (.inr ⟨h1.1.1,h1.1.2,h1.2⟩))))
 · cases h
theorem zTm {t u:Tn}(ht:t∈vE)(hu:u∈vE):yP t u∈vE:=by
 have key:(vE.all fun t=>vE.all fun u=>zPq (yP t u))=true:=by decide +kernel
 exact zUE (Qh.mp (Qh.mp key t ht) u hu)
theorem zTt {t u:Tn}(ht:t∈vC)(hu:u∈vC):yP t u∈vC:=by
 have key:(vC.all fun t=>vC.all fun u=>zOB (yP t u))=true:=by decide +kernel
 exact zUy (Qh.mp (Qh.mp key t ht) u hu)
def zNg (k n:Nat):List Int:=(List.range n).map fun i=>(((k >>> i) % 2:Nat):Int)
def zO (n:Nat):List (List Int):=(List.range (2^n)).map fun k=>zNg k n
def wB (n:Nat):Tn:=(List.range n).map fun(i:Nat)=>((i:Int),(0:Int))
def wL (t:Tn):Tn:=(List.range t.length).map fun(i:Nat)=>match t.zipIdx.find? fun q=>q.1.1==(i:Int) with | some q=>((q.2:Int),q.1.2) | none=>(0,0)
def mJ (n:Nat)(ok:Tn->Bool)(t:Tn):Bool:=ok (wL t)&&decide (yP (wL t) t=wB n)&&decide (yP t (wL t)=wB n)&&(zO n).all fun c=>decide (zL (wL t) (zL t c)=c)
theorem zTF {t:Tn}(ht:t∈vE):mJ 2 zPq t=true:=Qh.mp (show(vE.all (mJ 2 zPq))=true by decide +kernel) t ht
theorem zT6 {t:Tn}(ht:t∈vC):mJ 3 zOB t=true:=Qh.mp (show(vC.all (mJ 3 zOB))=true by decide +kernel) t ht
def zI (n:Nat):List Tn:=if n=2 then vE else vC
section
variable {n:Nat} (hn:n=2∨n=3)
include hn
theorem trM {t:Tn}(h:t∈zI n):Tr n t:=by
 rcases hn with rfl | rfl
 · exact tr2 h
 · exact tr3 h
theorem uJ {t u:Tn}(h:t∈zI n)(h':u∈zI n):yP t u∈zI n:=by
 rcases hn with rfl | rfl
 · exact zTm h h'
 · exact zTt h h'
theorem kL {t:Tn}(h:t∈zI n):wL t∈zI n/\∀c∈zO n,zL (wL t) (zL t c)=c:=by
 rcases hn with rfl | rfl
 · have q:=zTF h
   unfold mJ at q
   simp only[Qx,Wc,Qh] at q
   exact⟨zUE q.1.1.1,q.2⟩
 · have q:=zT6 h
   unfold mJ at q
   simp only[Qx,Wc,Qh] at q
   exact⟨zUy q.1.1.1,q.2⟩
end
def zRv (c f:Int):Int:=((c*f+12345) % 2147483647)*((c*f+12345) % 2147483647) % 2147483629 / 3
theorem zYA (c f:Int)(h1 : -18446744073709551616 < f)(h2:f < 18446744073709551616):vI [.int c,.int f]=some (.int (zRv c f)):=by
 have e1:zVL c f=true:=zMu h1 h2
 have e2:zVL ((c*f+12345) % 2147483647) ((c*f+12345) % 2147483647)=true:=zQu (by omega) (by omega)
 have d1:decide ((0:Int) < 2147483647)=true:=rfl
 have d2:decide ((0:Int) < 2147483629)=true:=rfl
 have d3:(decide ((0:Int) < 3)&&decide ((3:Int) < 1073741824))=true:=rfl
 simp only[vI,fnF,zXk,kK,bD,rC,zJ,yK,yC,eI,eV,eC,qI,List.map,Qp,Ek,List.replicate,Th,Eb,Qm,Qz,Qe,Wy,e1,e2,d1,d2,d3,Ri,wA,List.set,zWc]
 rfl
mutual
def okS:Nat->D->Bool
 | 0,_=>false
 | _+1,.obj _ _ _=>false
 | _+1,.exc _ _ _=>false
 | n+1,.tup ds=>decide (ds.length<=1000)&&zR1 n ds
 | n+1,.lst ds=>decide (ds.length<=1000)&&zR1 n ds
 | _+1,_=>true
def zR1:Nat->List D->Bool
 | _,[]=>true
 | n,d::r=>okS n d&&zR1 n r
end
theorem zZu {n:Nat}:∀ {ds:List D} {i:Nat} {d:D},zR1 n ds=true->ds[i]?=some d->okS n d=true
 | [],_,_,_,h=>by simp at h
 | x::r,0,_,h,e=>by
   unfold zR1 at h
   rw[Qx] at h
   cases e
   exact h.1
 | x::r,i+1,_,h,e=>by
   unfold zR1 at h
   rw[Qx] at h
   exact zZu h.2 (by simpa using e)
theorem zWQ {self:List D->Option D}{d:D}{ds:List D}(hd:∀i:Nat,i < ds.length->atD d (.int (0+(i:Nat)))=ds[i]?)(hl:zRq d=some (.int ds.length))(hz:ds.length<=1000)(hs:∀x∈ds,self [x,x]=some (.bl true)) :
   (sR self [.fz d,.fz d,.no]).bind wA=some (.bl true):=by
 have c1:decide (-1000000<=((ds.length:Nat):Int))=true:=Qc (by omega)
 have c2:decide (((ds.length:Nat):Int)<=1000000)=true:=Qc (by omega)
 have src:iR (wT (eV 1)) [.fz d,.fz d,.no]=some (vQ 0 ds.length):=by
   simp only[iR,wT,eV,qI,Qm,Qz,Qe,hl,c1,c2,Bool.and_true,Ri]
   rfl
 obtain⟨ρ',e,x2,rfl⟩:=zY8 (g:=gN 2) (body:=rL self) (P:=fun ρ=>∃x2,ρ=[.fz d,.fz d,x2]) (vQ 0 ds.length) (fun y hy ρ hρ=>by
     obtain⟨i,hi,rfl⟩:=zVf hy
     obtain⟨x2,rfl⟩:=hρ
     refine⟨[.fz d,.fz d,.fz (.int (0+(i:Nat)))],[.fz d,.fz d,.fz (.int (0+(i:Nat)))],rfl,?_,_,rfl⟩
     have a:=hd i hi
     rw[Qu hi] at a
     have b:=hs _ (Rb hi)
     simp only[rL,sIf,vM,tB1,zM,zY,zR,eIx,eV,qI,xL,Qm,Qz,Qe,Wy,Qp,Ek,Ri,a,b,Ue,Wp,Rf]) [.fz d,.fz d,.no] ⟨_,rfl⟩
 have es:qP (iR (wT (eV 1))) (gN 2) (rL self) [.fz d,.fz d,.no]=some (.nx [.fz d,.fz d,x2]):=by
   unfold qP;rw[src,Qe];exact e
 have q1:=fun r hk=>xF (g:=dM self) (r:=r) es hk
 refine q1 _ ?_
 rfl
theorem zXl:∀(n:Nat) (d:D),okS n d=true->yN n [d,d]=some (.bl true)
 | 0,_,h=>by unfold okS at h;cases h
 | n+1,d,h=>by
   have ih:=zXl n
   cases d with
   | non=>rfl
   | bl b=>cases b<;>rfl
   | int i =>
     have g:gEq (.int i) (.int i)=some true:=by show some (decide (i=i))=_;rw[Qc rfl]
     show((xB (yN n)) [.fz (.int i),.fz (.int i),.no]).bind wA=_
     simp only[xB,uP,uT,uR,zJ,sIf,xL,yC,eB2,kA,pB,eV,eC,qI,tB1,gA,isInt,kD,zYW,uL,vM,Qm,Qz,Qe,Wy,g,Ri,Wp,Rf,Bool.not_false,wA]
   | str i =>
     have g:gEq (.str i) (.str i)=some true:=by show some (decide (i=i))=_;rw[Qc rfl]
     show((xB (yN n)) [.fz (.str i),.fz (.str i),.no]).bind wA=_
     simp only[xB,uP,uT,uR,tP,zJ,sIf,xL,yC,eB2,kA,pB,eV,eC,qI,tB1,gA,isInt,isStr,zYW,uL,Qm,Qz,Qe,Wy,g,Ri,Wp,Rf,wA]
   | tup ds =>
     unfold okS at h
     rw[Qx] at h
     have hz:=Ru h.1
     have g:gNe (.int (ds.length:Nat)) (.int (ds.length:Nat))=some false:=by show(some (decide _)).map _=_;rw[Qc rfl];rfl
     have r:yN (n+1) [.tup ds,.tup ds]=(sR (yN n) [.fz (.tup ds),.fz (.tup ds),.no]).bind wA:=by
       show((xB (yN n)) [.fz (.tup ds),.fz (.tup ds),.no]).bind wA=_
       simp only[xB,uP,uT,uR,tP,qL,qF,qD,zJ,sIf,xL,yC,eB2,kA,pB,eV,eC,qI,tB1,kX,vM,gA,isInt,isStr,iF,iB,wT,zRq,Qm,Qz,Qe,Wy,g,Ri,Wp,Rf,Ue]
     rw[r]
     refine zWQ (ds:=ds) (fun i hi=>?_) rfl hz fun x hx=>?_
     · show atI ds _=_
       rw[show(0:Int)+((i:Nat):Int)=((i:Nat):Int) by omega,zZL (Qu hi),Qu hi]
     · obtain⟨i,hi⟩:=List.getElem?_of_mem hx
       exact ih x (zZu h.2 hi)
   | lst ds =>
     unfold okS at h
     rw[Qx] at h
     have hz:=Ru h.1
     have g:gNe (.int (ds.length:Nat)) (.int (ds.length:Nat))=some false:=by show(some (decide _)).map _=_;rw[Qc rfl];rfl
     have r:yN (n+1) [.lst ds,.lst ds]=(sR (yN n) [.fz (.lst ds),.fz (.lst ds),.no]).bind wA:=by
       show((xB (yN n)) [.fz (.lst ds),.fz (.lst ds),.no]).bind wA=_
       simp only[xB,uP,uT,uR,tP,qL,qF,qD,zJ,sIf,xL,yC,eB2,kA,pB,eV,eC,qI,tB1,kX,vM,gA,isInt,isStr,iF,iB,wT,zRq,Qm,Qz,Qe,Wy,g,Ri,Wp,Rf,Ue]
     rw[r]
     refine zWQ (ds:=ds) (fun i hi=>?_) rfl hz fun x hx=>?_
     · show atI ds _=_
       rw[show(0:Int)+((i:Nat):Int)=((i:Nat):Int) by omega,zZL (Qu hi),Qu hi]
     · obtain⟨i,hi⟩:=List.getElem?_of_mem hx
       exact ih x (zZu h.2 hi)
   | obj a b ds=>unfold okS at h;cases h
   | exc a b ds=>unfold okS at h;cases h
structure Pt where
 c:List Int
 t:Tn
 b:Bool
def zH (p:Pt):D:=.tup [yW p.c,z0 p.t,.bl p.b]
def yS (p:Pt):D:=.obj (Str.ofString "Part") [Str.ofString "corner",Str.ofString "turn",Str.ofString "back"] [yW p.c,z0 p.t,.bl p.b]
def zA (n:Int)(j:Bool)(ps:List Pt):D:=.obj (Str.ofString "Curve") [Str.ofString "name",Str.ofString "dims",Str.ofString "joined",Str.ofString "parts"] [.str (Str.ofString "fold"),.int n,.bl j,.lst (ps.map yS)]
theorem zUD (ρ:List B)(f:Ef)(p:Pt)(h:f ρ=some (yS p)):xE (Str.ofString "Part") (Str.ofString "corner") f ρ=some (yW p.c):=by
 unfold xE;rw[h];rfl
theorem zL3 (ρ:List B)(f:Ef)(p:Pt)(h:f ρ=some (yS p)):xE (Str.ofString "Part") (Str.ofString "turn") f ρ=some (z0 p.t):=by
 unfold xE;rw[h];rfl
theorem zLF (ρ:List B)(f:Ef)(p:Pt)(h:f ρ=some (yS p)):xE (Str.ofString "Part") (Str.ofString "back") f ρ=some (.bl p.b):=by
 unfold xE;rw[h];rfl
theorem cS (ρ:List B)(f:Ef){n:Int}{j:Bool}{ps:List Pt}(h:f ρ=some (zA n j ps)):xE (Str.ofString "Curve") (Str.ofString "parts") f ρ=some (.lst (ps.map yS)):=by
 unfold xE;rw[h];rfl
structure PtsOk (n:Nat)(ps:List Pt):Prop where
 perm:(ps.map (·.c)).Perm (zO n)
 turn:∀p∈ps,p.t∈zI n
theorem zZy {n:Nat}(hn:n=2∨n=3):(zO n).Nodup:=by
 rcases hn with rfl | rfl<;>decide +kernel
theorem wF {n:Nat}(hn:n=2∨n=3):∀c∈zO n,c.length=n:=by
 rcases hn with rfl | rfl<;>decide +kernel
theorem iG (n:Nat):(zO n).length=2^n:=by simp[zO]
theorem PtsOk.len {n:Nat}{ps:List Pt}(h:PtsOk n ps):ps.length=2^n:=by
 have:=h.perm.length_eq
 rw[Qo,iG] at this
 exact this
theorem PtsOk.small {n:Nat}{ps:List Pt}(hn:n=2∨n=3)(h:PtsOk n ps):ps.length<=8:=by
 rw[h.len]
 rcases hn with rfl | rfl<;>decide
theorem zZQ (q:Int){n:Nat}(hn:n=2∨n=3):∃t∈zI n,xC [.int q,.int n]=some (z0 t):=by
 have q1:q / 1=q:=Int.ediv_one q
 rcases hn with rfl | rfl
 · rcases bit (q / 8) with h | h
   · refine⟨[(0,q / 1 % 2),(1,q / 2 % 2)],zMc (.inl ⟨rfl,rfl⟩) (bit _) (bit _),?_⟩
     simp[xC,fnF,lU,tU,sQ,sU,rC,zJ,yK,sIf,yC,xL,eI,eV,eC,qI,wA,zWc,eL,xS,zR,zY,okL,lim,eB2,gEq,h,xY,iR,zMM,upB,sF,gN,tOK,yX,eIx,atD,atI,ixN,vX,zTb,z0,kN]
   · refine⟨[(1,q / 1 % 2),(0,q / 2 % 2)],zMc (.inr ⟨rfl,rfl⟩) (bit _) (bit _),?_⟩
     simp[xC,fnF,lU,tU,sQ,sU,rC,zJ,yK,sIf,yC,xL,eI,eV,eC,qI,wA,zWc,eL,xS,zR,zY,okL,lim,eB2,gEq,h,xY,iR,zMM,upB,sF,gN,tOK,yX,eIx,atD,atI,ixN,vX,zTb,z0,kN]
 · have h6:q / 8 % 6=0∨q / 8 % 6=1∨q / 8 % 6=2∨q / 8 % 6=3∨q / 8 % 6=4∨q / 8 % 6=5:=by omega
   have key:∀a b c:Int,zRQ a b c->atD (.lst [.lst [.int 0,.int 1,.int 2],.lst [.int 0,.int 2,.int 1],.lst [.int 1,.int 0,.int 2],.lst [.int 1,.int 2,.int 0],.lst [.int 2,.int 0,.int 1],.lst [.int 2,.int 1,.int 0]]) (.int (q / 8 % 6))=some (.lst [.int a,.int b,.int c])->∃t∈zI 3,xC [.int q,.int 3]=some (z0 t):=fun a b c ho ha=>by
     refine⟨[(a,q / 1 % 2),(b,q / 2 % 2),(c,q / 4 % 2)],zLc ho (bit _) (bit _) (bit _),?_⟩
     have r:xC [.int q,.int 3]=(sU [.fz (.int q),.fz (.int 3),.fz (.lst [.int a,.int b,.int c])]).bind wA:=by
       have d6:decide ((0:Int) < 6)=true:=rfl
       have o3:∀x y z:D,okL [x,y,z]=some [x,y,z]:=fun _ _ _=>rfl
       have o2:∀x y:D,okL [x,y]=some [x,y]:=fun _ _=>rfl
       have o6:∀x y z u v w:D,okL [x,y,z,u,v,w]=some [x,y,z,u,v,w]:=fun _ _ _ _ _ _=>rfl
       have g3:gEq (.int 3) (.int 3)=some true:=rfl
       have c8:zWc q 8=true:=rfl
       simp only[xC,fnF,lU,tU,sQ,rC,zJ,yK,sIf,eI,eV,eC,qI,eL,xS,zR,zY,eB2,eIx,Qg,Rs,Qp,Ek,List.replicate,Th,Eb,Qm,Qz,Qe,Wy,o2,o3,o6,g3,c8,d6,Ri,ha,List.set]
     rw[r]
     simp[sU,yC,eI,eV,eC,qI,wA,zWc,eL,xS,zR,zY,okL,lim,xY,iR,zK3,upB,sF,gN,tOK,yX,eIx,atD,atI,ixN,vX,zTb,z0,kN]
   rcases h6 with h | h | h | h | h | h
   · exact key 0 1 2 (.inl ⟨rfl,rfl,rfl⟩) (by rw[h];rfl)
   · exact key 0 2 1 (.inr (.inl ⟨rfl,rfl,rfl⟩)) (by rw[h];rfl)
   · exact key 1 0 2 (.inr (.inr (.inl ⟨rfl,rfl,rfl⟩))) (by rw[h];rfl)
   · exact key 1 2 0 (.inr (.inr (.inr (.inl ⟨rfl,rfl,rfl⟩)))) (by rw[h];rfl)
   · exact key 2 0 1 (.inr (.inr (.inr (.inr (.inl ⟨rfl,rfl,rfl⟩))))) (by rw[h];rfl)
   · exact key 2 1 0 (.inr (.inr (.inr (.inr (.inr ⟨rfl,rfl,rfl⟩))))) (by rw[h];rfl)
theorem zTN {n:Nat}(hn:n=2∨n=3):rW [.int n]=some ((zO n).map yW):=by
 rcases hn with rfl | rfl<;>kernel_rfl
def bH:Sf:=zJ (yK 4 (zM 2 vI (zY (eV 1) (zY (lW (eC (.int 48271)) (zYd (eC (.int 997)) (jW 2))) zR))))
   (zJ (zRj 5 2 (uC (eV 4) (jW 2)))
   (aF 3 (yX (zY (eV 5) (zY (zM 2 xC (zY (rZ (eV 4) (eC (.int 8))) (zY (eV 0) zR))) (zY (uL (eB2 gEq (uC (rZ (eV 4) (eC (.int 800))) (eC (.int 2))) (eC (.int 1)))) zR))))))
theorem gZ {α:Type}:∀(l:List α) (i:Nat) (x:α),l[i]?=some x->(x::l.eraseIdx i).Perm l
 | [],_,_,h=>by simp at h
 | a::r,0,x,h=>by cases h;exact .refl _
 | a::r,i+1,x,h=>by
   rw[Qz] at h
   rw[Tv]
   exact(List.Perm.swap a x _).trans (List.Perm.cons a (gZ r i x h))
theorem dB {α β:Type}(f:α->β):∀(l:List α) (i:Nat),(l.map f).eraseIdx i=(l.eraseIdx i).map f
 | [],_=>rfl
 | a::r,0=>rfl
 | a::r,i+1=>by rw[Qg,Tv,Tv,Qg,dB f r i]
theorem zTo {n:Nat}(hn:n=2∨n=3)(cell:Int)(left:List (List Int))(acc:List Pt)(x4 x5:B)(h0:left≠[])(hl:left.length<=8)(ha:acc.length<=8)(ht:∀p∈acc,p.t∈zI n) :
   ∃(left':List (List Int)) (acc':List Pt) (y4 y5:B),left'.length+1=left.length/\acc'.length=acc.length+1/\(acc'.map (·.c)++left').Perm (acc.map (·.c)++left)/\(∀p∈acc',p.t∈zI n) /\
     bH [.fz (.int n),.fz (.int cell),.ow (left.map yW),.ow (acc.map zH),x4,x5]=some (.nx [.fz (.int n),.fz (.int cell),.ow (left'.map yW),.ow (acc'.map zH),y4,y5]):=by
 have hpos:0 < left.length:=List.length_pos_iff.mpr h0
 have m1:zVL 997 (left.length:Int)=true:=zQu (by decide) (by decide)
 have hm:=zYA cell (48271+997*(left.length:Int)) (by omega) (by omega)
 generalize zRv cell (48271+997*(left.length:Int))=r at hm
 have i0:0<=r % (left.length:Int):=Int.emod_nonneg _ (by omega)
 have i1:r % (left.length:Int) < left.length:=Int.emod_lt_of_pos _ (by omega)
 generalize hi:r % (left.length:Int)=iv at i0 i1
 have hlt:iv.toNat < left.length:=by omega
 obtain⟨t,tm,te⟩:=zZQ (r / 8) hn
 have px:=Qu hlt
 have pm:=gZ left iv.toNat _ px
 generalize left[iv.toNat]=c at px pm
 refine⟨left.eraseIdx iv.toNat,acc++[⟨c,t,decide (r / 800 % 2=1)⟩],.fz (.int r),.fz (yW c),?_,?_,?_,?_,?_⟩
 · rw[List.length_eraseIdx_of_lt hlt];omega
 · simp
 · rw[Wb,Yq]
   exact List.Perm.append_left _ pm
 · intro p hp
   rcases Eh.mp hp with q | q
   · exact ht p q
   · rw[Wf.mp q];exact tm
 · have d1:decide ((0:Int) < (left.length:Nat))=true:=Qc (by omega)
   have d2:decide ((0:Int) < 2)=true:=rfl
   have c8:zWc r 8=true:=rfl
   have c800:zWc r 800=true:=rfl
   have ix:ixN left.length iv=some iv.toNat:=by unfold ixN;rw[Qn i0,Qn i1]
   have lz:left.length<=lim:=by show left.length<=100000;omega
   have az:acc.length < lim:=by show acc.length < 100000;omega
   have gx:(left.map yW)[iv.toNat]?=some (yW c):=by rw[Wq,px];rfl
   have o3:okL [yW c,z0 t,.bl (decide (r / 800 % 2=1))]=some [yW c,z0 t,.bl (decide (r / 800 % 2=1))]:=rfl
   simp only[bH,zJ,yK,zRj,aF,zM,zY,zR,eI,eV,eC,qI,jW,yX,uL,eB2,gEq,Qm,Qz,Qo,Qp,Ek,Qe,Wy,m1,hm,d1,d2,hi,ix,Qn lz,Qn az,gx,c8,c800,te,o3,Ri,List.set,dB,Wb,Qg,Rs,zH]
theorem zYS {n:Nat}(hn:n=2∨n=3)(cell:Int):∀(m fuel:Nat) (left:List (List Int)) (acc:List Pt) (x4 x5:B),left.length=m->m < fuel->left.length+acc.length<=8->(∀p∈acc,p.t∈zI n) ->
   ∃(acc':List Pt) (y4 y5:B),(acc'.map (·.c)).Perm (acc.map (·.c)++left)/\(∀p∈acc',p.t∈zI n) /\
     uM (bK 2) bH fuel [.fz (.int n),.fz (.int cell),.ow (left.map yW),.ow (acc.map zH),x4,x5]=some (.nx [.fz (.int n),.fz (.int cell),.ow [],.ow (acc'.map zH),y4,y5])
 | 0,0,_,_,_,_,_,hf,_,_=>by omega
 | m+1,0,_,_,_,_,_,hf,_,_=>by omega
 | 0,f+1,left,acc,x4,x5,hm,_,_,ht=>by
   have e:left=[]:=List.eq_nil_of_length_eq_zero hm
   subst e
   exact⟨acc,x4,x5,by rw[Wh],ht,rfl⟩
 | m+1,f+1,left,acc,x4,x5,hm,hf,hs,ht=>by
   have hne:left≠[]:=fun z=>by rw[z] at hm;simp at hm
   obtain⟨left',acc',y4,y5,l1,l2,l3,l4,l5⟩:=zTo hn cell left acc x4 x5 hne (by omega) (by omega) ht
   obtain⟨acc2,z4,z5,p1,p2,p3⟩:=zYS hn cell m f left' acc' y4 y5 (by omega) (by omega) (by omega) l4
   refine⟨acc2,z4,z5,p1.trans l3,p2,?_⟩
   have t:bK 2 [.fz (.int n),.fz (.int cell),.ow (left.map yW),.ow (acc.map zH),x4,x5]=some true:=by
     cases left with
     | nil=>exact absurd rfl hne
     | cons a r=>rfl
   rw[uM,t,Qe,Qn rfl,l5,Qe]
   exact p3
theorem zPb {n:Nat}(hn:n=2∨n=3)(cell:Int):∃ps:List Pt,PtsOk n ps/\nZ [.int n,.int cell]=some (ps.map zH):=by
 have hl:(zO n).length+([]:List Pt).length<=8:=by rw[iG];rcases hn with rfl | rfl<;>decide
 have hl2:(zO n).length<=8:=by simpa using hl
 obtain⟨ps,y4,y5,p1,p2,p3⟩:=zYS hn cell _ 100 (zO n) [] .no .no rfl (by omega) hl (by simp)
 refine⟨ps,⟨p1,p2⟩,?_⟩
 have hc:=zTN hn
 have s0:tV 2 (vY 1 rW (zY (eV 0) zR)) [.fz (.int n),.fz (.int cell),.no,.no,.no,.no]=some (.nx [.fz (.int n),.fz (.int cell),.ow ((zO n).map yW),.no,.no,.no]):=by
   simp only[tV,vY,zY,zR,eV,qI,Qm,Qe,Wy,Qp,Ek,Ri,hc,List.set]
 have s1:tV 3 (xS zR) [.fz (.int n),.fz (.int cell),.ow ((zO n).map yW),.no,.no,.no]=some (.nx [.fz (.int n),.fz (.int cell),.ow ((zO n).map yW),.ow [],.no,.no]):=rfl
 rw[Rs] at p3
 show(rP [.fz (.int n),.fz (.int cell),.no,.no,.no,.no]).bind zZD=_
 unfold rP
 rw[yT s0]
 unfold nO
 rw[yT s1]
 unfold nQ
 have p4:uM (bK 2) (zJ (yK 4 (zM 2 vI (zY (eV 1) (zY (lW (eC (.int 48271)) (zYd (eC (.int 997)) (jW 2))) zR)))) (zJ (zRj 5 2 (uC (eV 4) (jW 2))) (aF 3 (yX (zY (eV 5) (zY (zM 2 xC (zY (rZ (eV 4) (eC (.int 8))) (zY (eV 0) zR))) (zY (uL (eB2 gEq (uC (rZ (eV 4) (eC (.int 800))) (eC (.int 2))) (eC (.int 1)))) zR))))))) 100 _=_:=p3
 rw[yT p4]
 rfl
theorem zUp {elt:Ef}{h:Pt->D}:∀(ps:List Pt) (x0 x1 x2:B) (acc:List D),(∀p∈ps,elt [.fz (yW p.c),.fz (z0 p.t),.fz (.bl p.b)]=some (h p)) ->
   sF (gT (zP (gN 0) (zP (gN 1) (zP (gN 2) xZ)))) tOK elt (ps.map zH) [x0,x1,x2] acc=some (acc++ps.map h)
 | [],_,_,_,acc,_=>by simp[sF]
 | p::r,x0,x1,x2,acc,hh=>by
   rw[Qg]
   unfold sF
   have e1:gT (zP (gN 0) (zP (gN 1) (zP (gN 2) xZ))) (zH p) [x0,x1,x2]=some [.fz (yW p.c),.fz (z0 p.t),.fz (.bl p.b)]:=rfl
   have e2:tOK [.fz (yW p.c),.fz (z0 p.t),.fz (.bl p.b)]=some true:=rfl
   rw[e1,Qe,e2,Qe,Qn rfl,hh p Qf,Qe,zUp r _ _ _ _ fun q hq=>hh q (Qd _ hq)]
   simp
theorem zUv (n:Int)(j:Bool)(ps:List Pt)(h:ps.length<=8):oC [.int n,.bl j,.lst (ps.map zH)]=some (zA n j ps):=by
 have e3:okL (ps.map zH)=some (ps.map zH):=fQ (by rw[Qo];omega)
 have e2:=zUp (elt:=mK (Str.ofString "Part") [Str.ofString "corner",Str.ofString "turn",Str.ofString "back"] 3 iY (zY (eV 0) (zY (eV 1) (zY (eV 2) zR)))) (h:=yS) ps .no .no .no [] fun p hp=>rfl
 have e5:xY (iL (eV 2)) 3 [] (gT (zP (gN 0) (zP (gN 1) (zP (gN 2) xZ)))) tOK (mK (Str.ofString "Part") [Str.ofString "corner",Str.ofString "turn",Str.ofString "back"] 3 iY (zY (eV 0) (zY (eV 1) (zY (eV 2) zR)))) [.fz (.int n),.fz (.bl j),.fz (.lst (ps.map zH))]=some (ps.map yS):=by
   unfold xY
   have e6:iL (eV 2) [.fz (.int n),.fz (.bl j),.fz (.lst (ps.map zH))]=some (ps.map zH):=rfl
   have e4:upB 3 [] [.fz (.int n),.fz (.bl j),.fz (.lst (ps.map zH))]=[.no,.no,.no]:=rfl
   rw[e6,Qe,e3,Qe,e4,e2]
   simp
 have ea:=yL (f:=eC (.str (Str.ofString "fold"))) (ρ:=[.fz (.int n),.fz (.bl j),.fz (.lst (ps.map zH))]) (d:=.str (Str.ofString "fold")) rfl (yL (f:=eV 0) (d:=.int n) rfl (yL (f:=eV 1) (d:=.bl j) rfl (yL (zO7 e5) (g:=zR) (ds:=[]) rfl)))
 have em:=zVq (c:=Str.ofString "Curve") (ns:=[Str.ofString "name",Str.ofString "dims",Str.ofString "joined",Str.ofString "parts"]) (n:=4) (f:=oU) (xs:=[.str (Str.ofString "fold"),.int n,.bl j,.lst (ps.map yS)]) ea rfl rfl rfl
 have q:=zZh (mK (Str.ofString "Curve") [Str.ofString "name",Str.ofString "dims",Str.ofString "joined",Str.ofString "parts"] 4 oU (zY (eC (.str (Str.ofString "fold"))) (zY (eV 0) (zY (eV 1) (zY (eL (xY (iL (eV 2)) 3 [] (gT (zP (gN 0) (zP (gN 1) (zP (gN 2) xZ)))) tOK (mK (Str.ofString "Part") [Str.ofString "corner",Str.ofString "turn",Str.ofString "back"] 3 iY (zY (eV 0) (zY (eV 1) (zY (eV 2) zR)))))) zR)))) [.fz (.int n),.fz (.bl j),.fz (.lst (ps.map zH))])
 exact q.trans em
theorem zRx (n:Int)(j:Bool)(ps:List Pt)(b:Bool)(k:Int):jX [zA n j ps,.bl b,.int k]=some (.int (if b=true then(ps.length:Int) - 1 - k else k)):=by
 have e:=cS [.fz (zA n j ps),.fz (.bl b),.fz (.int k)] (eV 0) (n:=n) (j:=j) (ps:=ps) rfl
 have l:wT (xE (Str.ofString "Curve") (Str.ofString "parts") (eV 0)) [.fz (zA n j ps),.fz (.bl b),.fz (.int k)]=some (.int (ps.length:Nat)):=by
   unfold wT
   rw[e]
   show some (D.int ((ps.map yS).length:Nat))=_
   rw[Qo]
 have q:=zZh (eIf (tB1 (eV 1)) (rF (rF (wT (xE (Str.ofString "Curve") (Str.ofString "parts") (eV 0))) (eC (.int 1))) (eV 2)) (eV 2) [.fz (zA n j ps),.fz (.bl b),.fz (.int k)])
 have r:eIf (tB1 (eV 1)) (rF (rF (wT (xE (Str.ofString "Curve") (Str.ofString "parts") (eV 0))) (eC (.int 1))) (eV 2)) (eV 2) [.fz (zA n j ps),.fz (.bl b),.fz (.int k)]=some (.int (if b=true then(ps.length:Int) - 1 - k else k)):=by
   cases b with
   | true=>simp only[eIf,tB1,eI,l,eV,eC,qI,Qm,Qz,Qe,Ri]
   | false=>rfl
 exact q.trans r
theorem gG:vV=pP:=rfl
theorem zXo:wZ=lI:=rfl
def ixB (b:Bool)(len k:Nat):Nat:=if b=true then len - 1 - k else k
theorem zVA {b:Bool}{len k:Nat}(h:k < len):(if b=true then(len:Int) - 1 - (k:Int) else(k:Int))=((ixB b len k:Nat):Int):=by
 unfold ixB
 cases b
 · rfl
 · rw[Qn rfl,Qn rfl];omega
theorem kM {b:Bool}{len k:Nat}(h:k < len):ixB b len k < len:=by
 unfold ixB
 split<;>omega
def stD (t:Tn)(b:Bool):D:=.tup [z0 t,.bl b]
def zKL (t:Tn)(b:Bool)(p:Pt):D:=.tup [yW (zL t p.c),.tup [z0 (yP t p.t),.bl (b != p.b)]]
theorem zON (x y:Bool):gNe (.bl x) (.bl y)=some (x != y):=by cases x<;>cases y<;>rfl
section
variable {n:Nat} (hn:n=2∨n=3) {ps:List Pt} (ok:PtsOk n ps) {t:Tn} (ht:t∈zI n) (b j:Bool)
include hn ok ht
theorem zUg {p:Pt}(hp:p∈ps):pP [z0 t,yW p.c]=some (yW (zL t p.c))/\lI [z0 t,z0 p.t]=some (z0 (yP t p.t)):=by
 have T:=trM hn ht
 have U:=trM hn (ok.turn p hp)
 have small:n<=1000:=by rcases hn with rfl | rfl<;>decide
 have hc:p.c.length=n:=wF hn _ (ok.perm.mem_iff.mp (Wg.mpr ⟨p,hp,rfl⟩))
 exact⟨bW t p.c (by rw[hc];exact T.fits) (by rw[T.len];exact small),zU1 t p.t (by rw[U.len];exact T.fits) (by rw[T.len];exact small)⟩
theorem zUR {k:Nat}(hk:k < ps.length):xQ [.lst (ps.map zH),stD t b,.int k]=some (zKL t b (ps[ixB b ps.length k]'(kM hk))):=by
 generalize hp:ps[ixB b ps.length k]'(kM hk)=p
 have hm:p∈ps:=by rw[←hp];exact Rb _
 obtain⟨f1,f2⟩:=zUg hn ok ht hm
 have at_:atD (.lst (ps.map zH)) (.int ((ixB b ps.length k:Nat):Int))=some (zH p):=by
   show atI (ps.map zH) _=_
   rw[iK,zZL (Qu (kM hk)),hp]
   rfl
 have s0:uU (eV 1) (gT (zP (gN 3) (zP (gN 4) xZ))) [.fz (.lst (ps.map zH)),.fz (stD t b),.fz (.int k),.no,.no,.no,.no,.no]=some (.nx [.fz (.lst (ps.map zH)),.fz (stD t b),.fz (.int k),.fz (z0 t),.fz (.bl b),.no,.no,.no]):=rfl
 have q4:=fun r hk=>xF (g:=qX) (r:=r) s0 hk
 refine q4 _ ?_
 have s1:sIf (tB1 (eV 4)) (yK 2 (rF (rF (wT (eV 0)) (eC (.int 1))) (eV 2))) xL [.fz (.lst (ps.map zH)),.fz (stD t b),.fz (.int k),.fz (z0 t),.fz (.bl b),.no,.no,.no]=some (.nx [.fz (.lst (ps.map zH)),.fz (stD t b),.fz (.int ((ixB b ps.length k:Nat):Int)),.fz (z0 t),.fz (.bl b),.no,.no,.no]):=by
   rw[←zVA hk]
   cases b with
   | true=>simp only[sIf,yK,tB1,eI,wT,zRq,eV,eC,qI,Qm,Qz,Qe,Wy,Ri,Qo,List.set]
   | false=>rfl
 have q5:=fun r hk=>xF (g:=qY) (r:=r) s1 hk
 refine q5 _ ?_
 have s2:uU (eIx (eV 0) (eV 2)) (gT (zP (gN 5) (zP (gN 6) (zP (gN 7) xZ)))) [.fz (.lst (ps.map zH)),.fz (stD t b),.fz (.int ((ixB b ps.length k:Nat):Int)),.fz (z0 t),.fz (.bl b),.no,.no,.no]=some (.nx [.fz (.lst (ps.map zH)),.fz (stD t b),.fz (.int ((ixB b ps.length k:Nat):Int)),.fz (z0 t),.fz (.bl b),.fz (yW p.c),.fz (z0 p.t),.fz (.bl p.b)]):=by
   unfold uU
   have e:eIx (eV 0) (eV 2) [.fz (.lst (ps.map zH)),.fz (stD t b),.fz (.int ((ixB b ps.length k:Nat):Int)),.fz (z0 t),.fz (.bl b),.no,.no,.no]=some (zH p):=at_
   rw[e]
   rfl
 have q6:=fun r hk=>xF (g:=rD) (r:=r) s2 hk
 refine q6 _ ?_
 have o2:∀x y:D,okL [x,y]=some [x,y]:=fun _ _=>rfl
 simp only[rD,yC,yX,zY,zR,zM,gG,zXo,uL,eB2,eV,qI,Qm,Qz,Qp,Ek,Qe,Wy,Ri,f1,f2,zON,o2,wA]
 rfl
theorem zNV {k:Nat}(hk:k < ps.length):w6 [zA n j ps,stD t b,.int k]=some (zKL t b (ps[ixB b ps.length k]'(kM hk))):=by
 generalize hp:ps[ixB b ps.length k]'(kM hk)=p
 have hm:p∈ps:=by rw[←hp];exact Rb _
 obtain⟨f1,f2⟩:=zUg hn ok ht hm
 have s0:uU (eV 1) (gT (zP (gN 3) (zP (gN 4) xZ))) [.fz (zA n j ps),.fz (stD t b),.fz (.int k),.no,.no,.no,.no]=some (.nx [.fz (zA n j ps),.fz (stD t b),.fz (.int k),.fz (z0 t),.fz (.bl b),.no,.no]):=rfl
 have q7:=fun r hk=>xF (g:=jG) (r:=r) s0 hk
 refine q7 _ ?_
 have w:=zRx n j ps b k
 rw[zVA hk] at w
 have at_:atD (.lst (ps.map yS)) (.int ((ixB b ps.length k:Nat):Int))=some (yS p):=by
   show atI (ps.map yS) _=_
   rw[iK,zZL (Qu (kM hk)),hp]
   rfl
 have s1:yK 5 (eIx (xE (Str.ofString "Curve") (Str.ofString "parts") (eV 0)) (zM 3 jX (zY (eV 0) (zY (eV 4) (zY (eV 2) zR))))) [.fz (zA n j ps),.fz (stD t b),.fz (.int k),.fz (z0 t),.fz (.bl b),.no,.no]=some (.nx [.fz (zA n j ps),.fz (stD t b),.fz (.int k),.fz (z0 t),.fz (.bl b),.fz (yS p),.no]):=by
   have e:=cS [.fz (zA n j ps),.fz (stD t b),.fz (.int k),.fz (z0 t),.fz (.bl b),.no,.no] (eV 0) (n:=n) (j:=j) (ps:=ps) rfl
   have e2:zM 3 jX (zY (eV 0) (zY (eV 4) (zY (eV 2) zR))) [.fz (zA n j ps),.fz (stD t b),.fz (.int k),.fz (z0 t),.fz (.bl b),.no,.no]=some (.int ((ixB b ps.length k:Nat):Int)):=w
   simp only[yK,eIx,e,e2,Qe,at_,Wy,List.set]
 have q8:=fun r hk=>xF (g:=jA) (r:=r) s1 hk
 refine q8 _ ?_
 have o2:∀x y:D,okL [x,y]=some [x,y]:=fun _ _=>rfl
 have s2:yK 6 (yX (zY (zM 2 lI (zY (eV 3) (zY (xE (Str.ofString "Part") (Str.ofString "turn") (eV 5)) zR))) (zY (uL (eB2 gNe (eV 4) (xE (Str.ofString "Part") (Str.ofString "back") (eV 5)))) zR))) [.fz (zA n j ps),.fz (stD t b),.fz (.int k),.fz (z0 t),.fz (.bl b),.fz (yS p),.no]=some (.nx [.fz (zA n j ps),.fz (stD t b),.fz (.int k),.fz (z0 t),.fz (.bl b),.fz (yS p),.fz (.tup [z0 (yP t p.t),.bl (b != p.b)])]):=by
   have e1:=zL3 [.fz (zA n j ps),.fz (stD t b),.fz (.int k),.fz (z0 t),.fz (.bl b),.fz (yS p),.no] (eV 5) p rfl
   have e2:=zLF [.fz (zA n j ps),.fz (stD t b),.fz (.int k),.fz (z0 t),.fz (.bl b),.fz (yS p),.no] (eV 5) p rfl
   simp only[yK,yX,zY,zR,zM,uL,eB2,e1,e2]
   simp only[eV,qI,Qm,Qz,Qp,Ek,Qe,Wy,Ri,f2,zON,o2,List.set]
 have q9:=fun r hk=>xF (g:=aQ) (r:=r) s2 hk
 refine q9 _ ?_
 have e3:=zUD [.fz (zA n j ps),.fz (stD t b),.fz (.int k),.fz (z0 t),.fz (.bl b),.fz (yS p),.fz (.tup [z0 (yP t p.t),.bl (b != p.b)])] (eV 5) p rfl
 show((yX (zY (zM 2 pP (zY (eV 3) (zY (xE (Str.ofString "Part") (Str.ofString "corner") (eV 5)) zR))) (zY (eV 6) zR)) _).map Out.rt).bind wA=_
 simp only[yX,zY,zR,zM,e3]
 simp only[eV,qI,Qm,Qz,Qp,Ek,Qe,Wy,Ri,f1,o2,wA]
 rfl
end
theorem uN {i:Nat}{f:Ef}{g:Sf}{ρ:List B}{d:D}(h:f ρ=some d):zJ (yK i f) g ρ=g (ρ.set i (.fz d)):=yT (by unfold yK;rw[h];rfl)
theorem uA {f:List D->Option D}{fa:Ef}{ρ:List B}{x:D}(h:fa ρ=some x):zM 1 f (zY fa zR) ρ=f [x]:=eU (yL h rfl) rfl
theorem w9 {f:List D->Option D}{fa fb:Ef}{ρ:List B}{x y:D}(h1:fa ρ=some x)(h2:fb ρ=some y):zM 2 f (zY fa (zY fb zR)) ρ=f [x,y]:=eU (yL h1 (yL h2 rfl)) rfl
theorem jZ {f:List D->Option D}{fa fb fc:Ef}{ρ:List B}{x y z:D}(h1:fa ρ=some x)(h2:fb ρ=some y)(h3:fc ρ=some z):zM 3 f (zY fa (zY fb (zY fc zR))) ρ=f [x,y,z]:=eU (yL h1 (yL h2 (yL h3 rfl))) rfl
theorem zMV {f:List D->Option D}{fa fb fc fd:Ef}{ρ:List B}{x y z u:D}(h1:fa ρ=some x)(h2:fb ρ=some y)(h3:fc ρ=some z)(h4:fd ρ=some u):zM 4 f (zY fa (zY fb (zY fc (zY fd zR)))) ρ=f [x,y,z,u]:=eU (yL h1 (yL h2 (yL h3 (yL h4 rfl)))) rfl
theorem fM {f:List D->Option (List D)}{fa fb:Ef}{ρ:List B}{x y:D}(h1:fa ρ=some x)(h2:fb ρ=some y):vY 2 f (zY fa (zY fb zR)) ρ=f [x,y]:=by unfold vY;rw[yL h1 (yL h2 rfl),Qe];rfl
theorem wK {C:Int->Int->Bool}{g:Int->Int->Int}{fa fb:Ef}{ρ:List B}{i j:Int}(h1:fa ρ=some (.int i))(h2:fb ρ=some (.int j))(h:C i j=true):eI C g fa fb ρ=some (.int (g i j)):=by
 unfold eI
 rw[h1,Qe,h2,Qe]
 show(if C i j then _ else none)=_
 rw[Qn h]
theorem vK {t:Tf}{f:Sf}{ρ:List B}{b:Bool}(h:t ρ=some b):sIf t f xL ρ=if b then f ρ else some (.nx ρ):=by unfold sIf;rw[h];cases b<;>rfl
theorem zT7 {i:Nat}{f:Ef}{ρ:List B}{d:D}{ds:List D}(e1:f ρ=some d)(e2:ρ[i]?=some (.ow ds))(e3:ds.length<=90000):aF i f ρ=some (.nx (ρ.set i (.ow (ds++[d])))):=by
 unfold aF;rw[e1,Qe,e2]
 show(if ds.length < lim then _ else none)=_
 rw[Qn (show ds.length < 100000 by omega)]
theorem mE {f:Ef}{ρ:List B}{x k:Int}(h:f ρ=some (.int x)):eB2 gEq f (eC (.int k)) ρ=some (decide (x=k)):=by unfold eB2;rw[h];rfl
theorem zNU {fa fb fc:Ef}{ρ:List B}{x y z:D}(h1:fa ρ=some x)(h2:fb ρ=some y)(h3:fc ρ=some z):yX (zY fa (zY fb (zY fc zR))) ρ=some (.tup [x,y,z]):=by
 unfold yX;rw[yL h1 (yL h2 (yL h3 rfl))];rfl
theorem zPZ {t:Tn}(ht:t∈vE):vR [z0 t]=some (z0 (wL t)):=by
 obtain⟨a,b,f,g,h1,h2,h3,rfl⟩:=zS2 ht
 rcases h1 with⟨rfl,rfl⟩ | ⟨rfl,rfl⟩<;>rcases h2 with rfl | rfl<;>rcases h3 with rfl | rfl<;>kernel_rfl
theorem zQb {t:Tn}(ht:t∈vC):vR [z0 t]=some (z0 (wL t)):=by
 obtain⟨a,b,c,f,g,j,h1,h2,h3,h4,rfl⟩:=zSf ht
 rcases h1 with⟨rfl,rfl,rfl⟩ | ⟨rfl,rfl,rfl⟩ | ⟨rfl,rfl,rfl⟩ | ⟨rfl,rfl,rfl⟩ | ⟨rfl,rfl,rfl⟩ | ⟨rfl,rfl,rfl⟩<;>rcases h2 with rfl | rfl<;>rcases h3 with rfl | rfl<;>rcases h4 with rfl | rfl<;>kernel_rfl
theorem bS {n:Nat}(hn:n=2∨n=3){t:Tn}(h:t∈zI n):vR [z0 t]=some (z0 (wL t)):=by
 rcases hn with rfl | rfl
 · exact zPZ h
 · exact zQb h
theorem pJ {n:Nat}(hn:n=2∨n=3){t u:Tn}(h:t∈zI n)(h':u∈zI n):wZ [z0 t,z0 u]=some (z0 (yP t u)):=by
 have T:=trM hn h
 have U:=trM hn h'
 have small:n<=1000:=by rcases hn with rfl | rfl<;>decide
 rw[zXo]
 exact zU1 t u (by rw[U.len];exact T.fits) (by rw[T.len];exact small)
def zLv:List (List Int×Tn):=[([0,0],[(1,0),(0,0)]),([0,1],[(0,0),(1,0)]),([1,1],[(0,0),(1,0)]),([1,0],[(1,1),(0,1)])]
def zLs:List (List Int×Tn):=[([0,0,0],[(1,0),(0,0),(2,0)]),([0,1,0],[(1,0),(2,0),(0,0)]),([0,1,1],[(0,0),(1,0),(2,0)]),([0,0,1],[(1,1),(2,1),(0,0)]),([1,0,1],[(1,0),(2,1),(0,1)]),([1,1,1],[(0,0),(1,0),(2,0)]),([1,1,0],[(1,1),(2,0),(0,1)]),([1,0,0],[(1,1),(0,1),(2,0)])]
def jH (x:List Int×Tn):D:=.tup [yW x.1,z0 x.2]
def gJ (n:Nat):List (List Int×Tn):=if n=2 then zLv else zLs
theorem zOp {n:Nat}(hn:n=2∨n=3):fK [.int n]=some ((gJ n).map jH):=by
 rcases hn with rfl | rfl<;>kernel_rfl
theorem zSx {n:Nat}(hn:n=2∨n=3):∀x∈gJ n,x.1∈zO n/\x.2∈zI n:=by
 rcases hn with rfl | rfl<;>decide +kernel
theorem zXb {n:Nat}(hn:n=2∨n=3):∀t∈zI n,((gJ n).map fun x=>zL t x.1).Perm (zO n):=by
 rcases hn with rfl | rfl<;>decide +kernel
theorem zQN {n:Nat}(hn:n=2∨n=3){t m u:Tn}{c:List Int}(ht:t∈zI n)(hm:m∈zI n)(hu:u∈zI n)(hc:c∈zO n)(x0 x1 x2 x9:B)(acc:List D)(ha:acc.length<=100)(tX:Int) :
   ∃p:Pt,p.c=zL t c/\p.t∈zI n/\wH [x0,x1,x2,.fz (z0 t),.fz (z0 m),.ow acc,.fz (.int tX),.fz (yW c),.fz (z0 u),x9]=some (.nx [x0,x1,x2,.fz (z0 t),.fz (z0 m),.ow (acc++[zH p]),.fz (.int (tX / 2)),.fz (yW c),.fz (z0 u),.fz (z0 p.t)]):=by
 have um:=(kL hn ht).1
 have e1:=bS hn ht
 have e2:=pJ hn hu um
 have m2:=uJ hn hu um
 have e3:=pJ hn ht m2
 have m3:=uJ hn ht m2
 generalize hl:yP t (yP u (wL t))=l at e3 m3
 have e4:=pJ hn m3 hm
 have m4:=uJ hn m3 hm
 have T:=trM hn ht
 have small:n<=1000:=by rcases hn with rfl | rfl<;>decide
 have e5:vV [z0 t,yW c]=some (yW (zL t c)):=by
   rw[gG]
   exact bW t c (by rw[wF hn c hc];exact T.fits) (by rw[T.len];exact small)
 have fin:∀w:Tn,w∈zI n->uE [x0,x1,x2,.fz (z0 t),.fz (z0 m),.ow acc,.fz (.int tX),.fz (yW c),.fz (z0 u),.fz (z0 w)]=some (.nx [x0,x1,x2,.fz (z0 t),.fz (z0 m),.ow (acc++[zH ⟨zL t c,w,decide (tX % 2=1)⟩]),.fz (.int (tX / 2)),.fz (yW c),.fz (z0 u),.fz (z0 w)]):=fun w hw=>by
   unfold uE
   rw[yT (zT7 (d:=zH ⟨zL t c,w,decide (tX % 2=1)⟩) (ds:=acc) (zNU ((w9 rfl rfl).trans e5) rfl (by unfold uL;rw[mE (x:=tX % 2) (wK rfl rfl rfl)];rfl)) rfl (by omega))]
   rfl
 unfold wH
 rw[uN (d:=z0 l) ((w9 rfl ((w9 rfl ((uA rfl).trans e1)).trans e2)).trans e3)]
 unfold qW
 have ht1:eB2 gEq (uC (eV 6) (eC (.int 2))) (eC (.int 1)) [x0,x1,x2,.fz (z0 t),.fz (z0 m),.ow acc,.fz (.int tX),.fz (yW c),.fz (z0 u),.fz (z0 l)]=some (decide (tX % 2=1)):=mE (wK rfl rfl rfl)
 by_cases hb:tX % 2=1
 · refine⟨⟨zL t c,yP l m,decide (tX % 2=1)⟩,rfl,m4,?_⟩
   rw[yT (ρ':=[x0,x1,x2,.fz (z0 t),.fz (z0 m),.ow acc,.fz (.int tX),.fz (yW c),.fz (z0 u),.fz (z0 (yP l m))])]
   · exact fin _ m4
   · refine(vK ht1).trans ?_
     rw[Qc hb,Qn rfl]
     unfold yK
     rw[w9 rfl rfl,e4]
     rfl
 · refine⟨⟨zL t c,l,decide (tX % 2=1)⟩,rfl,m3,?_⟩
   rw[yT (ρ':=[x0,x1,x2,.fz (z0 t),.fz (z0 m),.ow acc,.fz (.int tX),.fz (yW c),.fz (z0 u),.fz (z0 l)])]
   · exact fin _ m3
   · refine(vK ht1).trans ?_
     rw[Qv hb]
     rfl
theorem zWX {n:Nat}(hn:n=2∨n=3){t m:Tn}(ht:t∈zI n)(hm:m∈zI n)(x0 x1 x2:B):∀(bs:List (List Int×Tn)) (acc:List Pt) (tX:Int) (x7 x8 x9:B),(∀x∈bs,x.1∈zO n/\x.2∈zI n)->acc.length+bs.length<=100->(∀p∈acc,p.t∈zI n) ->
   ∃(ps:List Pt) (y6 y7 y8 y9:B),ps.map (·.c)=acc.map (·.c)++bs.map (fun x=>zL t x.1)/\(∀p∈ps,p.t∈zI n) /\
     nD (gT (zP (gN 7) (zP (gN 8) xZ))) wH (bs.map jH) [x0,x1,x2,.fz (z0 t),.fz (z0 m),.ow (acc.map zH),.fz (.int tX),x7,x8,x9]=some (.nx [x0,x1,x2,.fz (z0 t),.fz (z0 m),.ow (ps.map zH),y6,y7,y8,y9])
 | [],acc,tX,x7,x8,x9,_,_,ha=>⟨acc,.fz (.int tX),x7,x8,x9,by simp,ha,rfl⟩
 | x::r,acc,tX,x7,x8,x9,hb,hl,ha=>by
   obtain⟨h1,h2⟩:=hb x Qf
   obtain⟨p,p1,p2,p3⟩:=zQN hn ht hm h2 h1 x0 x1 x2 x9 (acc.map zH) (by rw[Qo];simp at hl;omega) tX
   obtain⟨ps,y6,y7,y8,y9,q1,q2,q3⟩:=zWX hn ht hm x0 x1 x2 r (acc++[p]) (tX / 2) (.fz (yW x.1)) (.fz (z0 x.2)) (.fz (z0 p.t)) (fun y hy=>hb y (Qd _ hy)) (by simp at hl ⊢;omega) (fun q hq=>by
     rcases Eh.mp hq with z | z
     · exact ha q z
     · rw[Wf.mp z];exact p2)
   refine⟨ps,y6,y7,y8,y9,?_,q2,?_⟩
   · rw[q1];simp[p1]
   · rw[Qg,iM (ρ1:=[x0,x1,x2,.fz (z0 t),.fz (z0 m),.ow (acc.map zH),.fz (.int tX),.fz (yW x.1),.fz (z0 x.2),x9]) rfl p3]
     rw[Wb] at q3
     exact q3
theorem zX4 {n:Nat}(hn:n=2∨n=3)(q:Int):∃ps:List Pt,PtsOk n ps/\tL [.int n,.int q]=some (ps.map zH):=by
 obtain⟨t,tm,te⟩:=zZQ q hn
 have hmir:∃m∈zI n,∀r:List B,vX (eL (xY (iR (eV 0)) 1 [] (gN 0) tOK (yX (zY (eV 0) (zY (zVG (uL (eB2 gEq (eV 0) (eC (.int 0))))) zR))))) (.fz (.int (n:Nat))::r)=some (z0 m):=by
   rcases hn with rfl | rfl
   · exact⟨[(0,1),(1,0)],by decide +kernel,fun r=>by kernel_rfl⟩
   · exact⟨[(0,1),(1,0),(2,0)],by decide +kernel,fun r=>by kernel_rfl⟩
 obtain⟨m,mm,me⟩:=hmir
 have um:=(kL hn tm).1
 have e1:=bS hn tm
 have e2:=pJ hn mm um
 have m2:=uJ hn mm um
 have e3:=pJ hn tm m2
 have m3:=uJ hn tm m2
 have go:∀bs:List (List Int×Tn),(∀x∈bs,x.1∈zO n/\x.2∈zI n)->bs.length<=100->(bs.map fun x=>zL t x.1).Perm (zO n)->∃ps:List Pt,PtsOk n ps/\(sX [.fz (.int n),.fz (.int q),.fz (.lst (bs.map jH)),.fz (z0 t),.no,.no,.no,.no,.no,.no]).bind zZD=some (ps.map zH):=fun bs h1 h2 h3=>by
   obtain⟨ps,y6,y7,y8,y9,q1,q2,q3⟩:=zWX hn tm m3 (.fz (.int n)) (.fz (.int q)) (.fz (.lst (bs.map jH))) bs [] (q / 96) .no .no .no h1 (by simpa using h2) (by simp)
   refine⟨ps,⟨?_,q2⟩,?_⟩
   · rw[q1];simpa using h3
   · unfold sX
     rw[uN (d:=z0 m) (me _)]
     unfold oY
     rw[uN (d:=z0 (yP t (yP m (wL t)))) ((w9 rfl ((w9 rfl ((uA rfl).trans e1)).trans e2)).trans e3)]
     unfold pL
     rw[yT (ρ':=[.fz (.int n),.fz (.int q),.fz (.lst (bs.map jH)),.fz (z0 t),.fz (z0 (yP t (yP m (wL t)))),.ow [],.no,.no,.no,.no]) rfl]
     unfold pN
     rw[uN (d:=.int (q / 96)) (wK rfl rfl rfl)]
     unfold pT
     have fr:qP (iL (eV 2)) (gT (zP (gN 7) (zP (gN 8) xZ))) wH [.fz (.int n),.fz (.int q),.fz (.lst (bs.map jH)),.fz (z0 t),.fz (z0 (yP t (yP m (wL t)))),.ow [],.fz (.int (q / 96)),.no,.no,.no]=some (.nx [.fz (.int n),.fz (.int q),.fz (.lst (bs.map jH)),.fz (z0 t),.fz (z0 (yP t (yP m (wL t)))),.ow (ps.map zH),y6,y7,y8,y9]):=q3
     dsimp only[List.set]
     rw[yT fr]
     rfl
 have small:(gJ n).length<=100:=by rcases hn with rfl | rfl<;>decide
 show ∃ps:List Pt,PtsOk n ps/\(tM [.fz (.int n),.fz (.int q),.no,.no,.no,.no,.no,.no,.no,.no]).bind zZD=some (ps.map zH)
 unfold tM
 rw[uN (d:=.lst ((gJ n).map jH)) (zO7 (by unfold vY;rw[yL (d:=.int n) rfl rfl,Qe];exact zOp hn))]
 unfold oR
 rw[uN (d:=z0 t) ((w9 rfl rfl).trans te)]
 unfold pC
 have ht1:eB2 gEq (uC (rZ (eV 1) (eC (.int 48))) (eC (.int 2))) (eC (.int 1)) [.fz (.int n),.fz (.int q),.fz (.lst ((gJ n).map jH)),.fz (z0 t),.no,.no,.no,.no,.no,.no]=some (decide (q / 48 % 2=1)):=mE (wK (wK rfl rfl rfl) rfl rfl)
 by_cases hb:q / 48 % 2=1
 · obtain⟨ps,g1,g2⟩:=go (gJ n).reverse (fun x hx=>zSx hn x (List.mem_reverse.mp hx)) (by rw[Um];exact small) (by rw[Oq];exact(List.reverse_perm _).trans (zXb hn t tm))
   refine⟨ps,g1,?_⟩
   rw[yT (ρ':=[.fz (.int n),.fz (.int q),.fz (.lst ((gJ n).reverse.map jH)),.fz (z0 t),.no,.no,.no,.no,.no,.no])]
   · exact g2
   · refine(vK ht1).trans ?_
     rw[Qc hb,Qn rfl,Oq]
     rfl
 · obtain⟨ps,g1,g2⟩:=go (gJ n) (zSx hn) small (zXb hn t tm)
   refine⟨ps,g1,?_⟩
   rw[yT (ρ':=[.fz (.int n),.fz (.int q),.fz (.lst ((gJ n).map jH)),.fz (z0 t),.no,.no,.no,.no,.no,.no])]
   · exact g2
   · refine(vK ht1).trans ?_
     rw[Qv hb]
     rfl
theorem zTZ {n:Nat}(hn:n=2∨n=3)(cell:Int):∃ps:List Pt,PtsOk n ps/\mV [.int n,.int cell]=some (ps.map zH):=by
 have e1:=zYA cell 16807 (by decide) (by decide)
 have e2:=zYA cell 39373 (by decide) (by decide)
 generalize zRv cell 16807=r at e1
 generalize zRv cell 39373=o at e2
 obtain⟨ps,ok,e3⟩:=zX4 hn (r / 8)
 have sm:=ok.small hn
 have pos:0 < ps.length:=by rw[ok.len];rcases hn with rfl | rfl<;>decide
 have i0:0<=r % (ps.length:Int):=Int.emod_nonneg _ (by omega)
 have i1:r % (ps.length:Int) < ps.length:=Int.emod_lt_of_pos _ (by omega)
 generalize hi:r % (ps.length:Int)=iv at i0 i1
 have hlt:iv.toNat < ps.length:=by omega
 have px:=Qu hlt
 generalize hp:ps[iv.toNat]=p at px
 have hat:atI (ps.map zH) iv=some (zH p):=by
   rw[iK,dN (α:=Pt) ps iv p i0 i1,Wo,px];rfl
 have pm:p∈ps:=To px
 obtain⟨t,tm,te⟩:=zZQ (o / 3) hn
 have okset:∀(w:Tn) (bb:Bool),w∈zI n->PtsOk n (ps.set iv.toNat ⟨p.c,w,bb⟩):=fun w bb hw=>by
   refine⟨?_,fun x hx=>?_⟩
   · have:(ps.set iv.toNat ⟨p.c,w,bb⟩).map (·.c)=ps.map (·.c):=by
       rw[List.map_set]
       refine List.ext_getElem? fun k=>?_
       rw[Yb]
       split
       · rename_i e
         subst e
         rw[Wq,px,Qo]
         simp[hlt]
       · rfl
     rw[this];exact ok.perm
   · rcases List.mem_or_eq_of_mem_set hx with z | z
     · exact ok.turn x z
     · rw[z];exact hw
 have sit:∀(f:Ef) (ρ:List B) (q:Pt),f ρ=some (zH q)->ρ[3]?=some (.ow (ps.map zH))->eV 4 ρ=some (.int iv)->zZE 3 (eV 4) f ρ=some (.nx (ρ.set 3 (.ow ((ps.set iv.toNat q).map zH)))):=fun f ρ q h1 h2 h3=>by
   unfold zZE
   rw[h1,Qe,h3,Qe,h2]
   show(if (ps.map zH).length<=lim then _ else none)=_
   rw[Qn (by rw[Qo];show ps.length<=100000;omega),Qo]
   have:ixN ps.length iv=some iv.toNat:=by unfold ixN;rw[Qn i0,Qn i1]
   rw[this,List.map_set]
   rfl
 show ∃ps:List Pt,PtsOk n ps/\(uF [.fz (.int n),.fz (.int cell),.no,.no,.no,.no,.no,.no,.no]).bind zZD=some (ps.map zH)
 unfold uF
 rw[uN (d:=.int r) ((w9 rfl rfl).trans e1)]
 unfold rE
 rw[yT (ρ':=[.fz (.int n),.fz (.int cell),.fz (.int r),.ow (ps.map zH),.no,.no,.no,.no,.no]) (by
   unfold tV
   rw[fM rfl (wK (i:=r) (j:=8) rfl rfl rfl),e3]
   rfl)]
 unfold rA
 rw[uN (d:=.int iv) (by
   rw[←hi]
   refine wK (i:=r) (j:=(ps.length:Int)) rfl ?_ (Qc (by omega))
   show some (D.int ((ps.map zH).length:Nat))=_
   rw[Qo])]
 unfold qZ
 rw[uN (d:=.int o) ((w9 rfl rfl).trans e2)]
 unfold qU
 rw[yT (ρ':=[.fz (.int n),.fz (.int cell),.fz (.int r),.ow (ps.map zH),.fz (.int iv),.fz (.int o),.fz (yW p.c),.fz (z0 p.t),.fz (.bl p.b)]) (by
   unfold uU
   dsimp only[List.set]
   rw[show zNL 3 (eV 4) [.fz (.int n),.fz (.int cell),.fz (.int r),.ow (ps.map zH),.fz (.int iv),.fz (.int o),.no,.no,.no]=some (zH p) from hat]
   rfl)]
 unfold qS
 have ht1:eB2 gEq (uC (eV 5) (eC (.int 3))) (eC (.int 0)) [.fz (.int n),.fz (.int cell),.fz (.int r),.ow (ps.map zH),.fz (.int iv),.fz (.int o),.fz (yW p.c),.fz (z0 p.t),.fz (.bl p.b)]=some (decide (o % 3=0)):=mE (wK rfl rfl rfl)
 by_cases hb:o % 3=0
 · refine⟨_,okset p.t (!p.b) (ok.turn p pm),?_⟩
   rw[yT (ρ':=[.fz (.int n),.fz (.int cell),.fz (.int r),.ow ((ps.set iv.toNat ⟨p.c,p.t,!p.b⟩).map zH),.fz (.int iv),.fz (.int o),.fz (yW p.c),.fz (z0 p.t),.fz (.bl p.b)])]
   · rfl
   · unfold sIf
     rw[ht1,Qe,Qc hb,Qn rfl]
     exact sit _ _ ⟨p.c,p.t,!p.b⟩ (zNU rfl rfl rfl) rfl rfl
 · refine⟨_,okset t (decide (o / 200 % 2=1)) tm,?_⟩
   rw[yT (ρ':=[.fz (.int n),.fz (.int cell),.fz (.int r),.ow ((ps.set iv.toNat ⟨p.c,t,decide (o / 200 % 2=1)⟩).map zH),.fz (.int iv),.fz (.int o),.fz (yW p.c),.fz (z0 p.t),.fz (.bl p.b)])]
   · rfl
   · unfold sIf
     rw[ht1,Qe,Qv hb,Wd (by decide)]
     exact sit _ _ ⟨p.c,t,decide (o / 200 % 2=1)⟩ (zNU rfl ((w9 (wK rfl rfl rfl) rfl).trans te) (by unfold uL;rw[mE (x:=o / 200 % 2) (wK (wK rfl rfl rfl) rfl rfl)];rfl)) rfl rfl
def xK (ps:List Pt)(b:Bool)(k:Nat):Pt:=ps.getD (ixB b ps.length k) ⟨[],[],false⟩
theorem zVV {ps:List Pt}{b:Bool}{k:Nat}(hk:k < ps.length):ps[ixB b ps.length k]'(kM hk)=xK ps b k:=by
 unfold xK
 rw[Wo,Qu (kM hk)]
 rfl
theorem rH {ps:List Pt}{b:Bool}{k:Nat}(hk:k < ps.length):xK ps b k∈ps:=by rw[←zVV hk];exact Rb _
def cW (ps:List Pt)(i:Nat):Tn->Bool->Int->List Nat->Int
 | _,_,x,[]=>x
 | t,b,x,d::r=>cW ps i (yP t (xK ps b d).t) (b != (xK ps b d).b) (2*x+(zL t (xK ps b d).c).getD i 0) r
theorem aV {n:Nat}(hn:n=2∨n=3){c:List Int}(hc:c∈zO n)(i:Nat):c.getD i 0=0∨c.getD i 0=1:=by
 have key:∀c∈zO n,∀x∈c,x=0∨x=1:=by rcases hn with rfl | rfl<;>decide +kernel
 rw[Wo]
 cases h:c[i]? with
 | none=>exact .inl rfl
 | some x=>exact key c hc x (To h)
theorem oZ {n:Nat}(hn:n=2∨n=3):∀t∈zI n,∀c∈zO n,zL t c∈zO n:=by
 rcases hn with rfl | rfl<;>decide +kernel
section
variable {n:Nat} (hn:n=2∨n=3) {ps:List Pt} (ok:PtsOk n ps)
include hn ok
theorem zPL {b:Bool}{k:Nat}(hk:k < ps.length):(xK ps b k).c∈zO n:=ok.perm.mem_iff.mp (Wg.mpr ⟨_,rH hk,rfl⟩)
theorem zRe {t:Tn}(ht:t∈zI n){b:Bool}{k:Nat}(hk:k < ps.length):yP t (xK ps b k).t∈zI n:=uJ hn ht (ok.turn _ (rH hk))
theorem zNw (f:Nat->Int)(c:List Int)(hc:c.length=n):tD [yW ((List.range n).map f),yW c]=some (yW ((List.range n).map fun i=>2*f i+c.getD i 0)):=by
 rcases hn with rfl | rfl
 · match c,hc with
   | [a,b],_=>show tD [.tup [.int (f 0),.int (f 1)],.tup [.int a,.int b]]=some (.tup [.int (2*f 0+a),.int (2*f 1+b)]);generalize f 0=u;generalize f 1=v;kernel_rfl
 · match c,hc with
   | [a,b,e],_=>show tD [.tup [.int (f 0),.int (f 1),.int (f 2)],.tup [.int a,.int b,.int e]]=some (.tup [.int (2*f 0+a),.int (2*f 1+b),.int (2*f 2+e)]);generalize f 0=u;generalize f 1=v;generalize f 2=w;kernel_rfl
end
section
variable {ps:List Pt} (hB:0 < ps.length) (hs:ps.length<=8)
include hB hs
end
theorem zME {t:Tf}{f g:Sf}{ρ:List B}{r:Option D}(h:t ρ=some false)(k:(g ρ).bind wA=r):(zJ (sIf t f xL) g ρ).bind wA=r:=xF (by unfold sIf;rw[h];rfl) k
theorem cI {i:Nat}{f:Ef}{g:Sf}{ρ:List B}{d:D}{r:Option D}(h:f ρ=some d)(k:(g (ρ.set i (.fz d))).bind wA=r):(zJ (yK i f) g ρ).bind wA=r:=xF (by unfold yK;rw[h];rfl) k
theorem zP2 {f:Ef}{ρ:List B}(h:f ρ=some (.bl true)):vM (tB1 f) ρ=some false:=by unfold vM tB1;rw[h];rfl
theorem zQD {n:Nat}(hn:n=2∨n=3):nP [.int (n:Nat)]=some (stD (wB n) false):=by rcases hn with rfl | rfl<;>kernel_rfl
theorem zRK {n:Nat}(hn:n=2∨n=3):wB n∈zI n:=by rcases hn with rfl | rfl<;>decide +kernel
theorem zXi {n:Int}{j:Bool}{ps:List Pt}{ρ:List B}(h:eV 0 ρ=some (zA n j ps)):wT (xE (Str.ofString "Curve") (Str.ofString "parts") (eV 0)) ρ=some (.int (ps.length:Nat)):=by
 unfold wT
 rw[cS ρ (eV 0) h,Qe]
 show some (D.int ((ps.map yS).length:Nat))=_
 rw[Qo]
theorem zQs {n:Int}{j:Bool}{ps:List Pt}{ρ:List B}(h:eV 0 ρ=some (zA n j ps)):xE (Str.ofString "Curve") (Str.ofString "dims") (eV 0) ρ=some (.int n):=by
 unfold xE;rw[h];rfl
section
variable {n:Nat} (hn:n=2∨n=3) {ps:List Pt} (ok:PtsOk n ps) (j:Bool)
include hn ok
end
section
variable {n:Nat} (hn:n=2∨n=3) {ps:List Pt} (ok:PtsOk n ps) (j:Bool) {L a:Nat} (hL:L<=10000) (ha:a < ps.length^L)
include hn ok hL
include ha
end
def aI (i:Int):Int:=if i < 0 then -i else i
def dst (xs ys:List Int):Int:=(List.zipWith (fun a b=>aI (a - b)) xs ys).sum
theorem zN3 {n:Nat}(hn:n=2∨n=3):∀xs ys:List Int,xs.length=n->ys.length=n->rX [yW xs,yW ys]=some (.bl (decide (dst xs ys=1))):=by
 rcases hn with rfl | rfl
 · intro xs ys hx hy
   match xs,ys,hx,hy with
   | [a,b],[c,d],_,_=>kernel_rfl
 · intro xs ys hx hy
   match xs,ys,hx,hy with
   | [a,b,e],[c,d,f],_,_=>kernel_rfl
end My
noncomputable section
namespace My
open PySem L2
theorem pig {α:Type}:∀(l m:List α),l.Nodup->(∀x∈l,x∈m)->l.length<=m.length
 | [],m,_,_=>Tj _
 | a::t,m,nd,h=>by
   obtain⟨m1,m2,rfl⟩:=List.append_of_mem (h a Qf)
   obtain⟨na,nt⟩:=Yi.mp nd
   have:=pig t (m1++m2) nt fun x hx=>by
     have hm:=h x (Qd _ hx)
     rcases Eh.mp hm with z | z
     · exact Ux _ z
     · rcases Qj.mp z with rfl | z
       · exact absurd hx na
       · exact Wv _ z
   simp only[Wr,Qp] at this ⊢
   omega
def kP (p:Int×Int):KT:=.tup [.int p.1,.int p.2]
def kS (t:Tn)(b:Bool):KT:=.tup [.tup (t.map kP),.int (if b then 1 else 0)]
def cP (x y:Tn×Bool):KT:=.tup [kS x.1 x.2,kS y.1 y.2]
theorem zLO {p q:Int×Int}(h:kP p=kP q):p=q:=by
 unfold kP at h
 injection h with h
 injection h with h1 h
 injection h with h2 h
 injection h1 with h1
 injection h2 with h2
 exact Prod.ext h1 h2
theorem zPU {t u:Tn}{b c:Bool}(h:kS t b=kS u c):t=u/\b=c:=by
 unfold kS at h
 injection h with h
 injection h with h1 h
 injection h with h2 h
 injection h1 with h1
 injection h2 with h2
 refine⟨(List.map_inj_right (fun a b e=>zLO e)).mp h1,?_⟩
 cases b<;>cases c<;>first | rfl | cases h2
theorem zQf {x y x' y':Tn×Bool}(h:cP x y=cP x' y'):x=x'/\y=y':=by
 unfold cP at h
 injection h with h
 injection h with h1 h
 injection h with h2 h
 obtain⟨a,b⟩:=zPU h1
 obtain⟨c,d⟩:=zPU h2
 exact⟨Prod.ext a b,Prod.ext c d⟩
theorem zSv (n:Nat)(i:Int):ktD n (.int i)=some (.int i):=by cases n<;>rfl
theorem zKH (n:Nat)(p:Int×Int):ktD (n+1) (kN p)=some (kP p):=by
 show(bL (ktD n) [.int p.1,.int p.2]).map KT.tup=_
 rw[bL,zSv,Qe,bL,zSv]
 rfl
theorem zV2 (n:Nat):∀t:Tn,bL (ktD (n+1)) (t.map kN)=some (t.map kP)
 | []=>rfl
 | p::r=>by
   rw[Qg,Qg,bL,zV2 n r,zKH]
   rfl
theorem zV9 (n:Nat)(t:Tn)(b:Bool):ktD (n+3) (stD t b)=some (kS t b):=by
 unfold stD
 show((((bL (ktD (n+1)) (t.map kN)).map KT.tup).bind fun k=>_).map KT.tup)=_
 rw[zV2 n t]
 rfl
theorem zMe (x y:Tn×Bool):zPV (.tup [stD x.1 x.2,stD y.1 y.2])=some (cP x y):=by
 show((((ktD 7 (stD x.1 x.2)).bind fun k=>((ktD 7 (stD y.1 y.2)).bind fun k=>(some []).map _).map _)).map KT.tup)=_
 rw[zV9 4,zV9 4]
 rfl
def sts (n:Nat):List (Tn×Bool):=(zI n).flatMap fun t=>[(t,false),(t,true)]
def zTv (n:Nat):List KT:=(sts n).flatMap fun x=>(sts n).map fun y=>cP x y
theorem zSp {n:Nat}{t:Tn}(h:t∈zI n)(b:Bool):(t,b)∈sts n:=Yt.mpr ⟨t,h,by cases b<;>simp⟩
theorem zPF {n:Nat}{x y:Tn×Bool}(hx:x∈sts n)(hy:y∈sts n):cP x y∈zTv n:=Yt.mpr ⟨x,hx,Wg.mpr ⟨y,hy,rfl⟩⟩
theorem zUY {n:Nat}(hn:n=2∨n=3):(zTv n).length<=9216:=by
 rcases hn with rfl | rfl
 · have:(zTv 2).length<=9216:=by decide +kernel
   exact this
 · have:(zTv 3).length<=9216:=by decide +kernel
   exact this
def mT (ps:List Pt):Tn->Bool->List Nat->Tn×Bool
 | s,b,[]=>(s,b)
 | s,b,d::r=>mT ps (yP s (xK ps b d).t) (b != (xK ps b d).b) r
theorem zS3 (ps:List Pt)(i:Nat):∀(pre:List Nat) (s:Tn) (b:Bool) (x:Int) (r:List Nat),cW ps i s b x (pre++r)=cW ps i (mT ps s b pre).1 (mT ps s b pre).2 (cW ps i s b x pre) r
 | [],s,b,x,r=>rfl
 | d::pre,s,b,x,r=>zS3 ps i pre _ _ _ r
def gS (ps:List Pt)(n:Nat)(pre:List Nat):Tn×Bool:=mT ps (wB n) false pre
def gP (ps:List Pt)(n:Nat)(pre:List Nat):List Int:=(List.range n).map fun i=>cW ps i (wB n) false 0 pre
theorem oK (ps:List Pt)(n:Nat)(pre:List Nat)(d:Nat):gS ps n (pre++[d])=(yP (gS ps n pre).1 (xK ps (gS ps n pre).2 d).t,(gS ps n pre).2 != (xK ps (gS ps n pre).2 d).b):=by
 unfold gS
 have:∀(pre:List Nat) (s:Tn) (b:Bool),mT ps s b (pre++[d])=(yP (mT ps s b pre).1 (xK ps (mT ps s b pre).2 d).t,(mT ps s b pre).2 != (xK ps (mT ps s b pre).2 d).b):=by
   intro pre
   induction pre with
   | nil=>intro s b;rfl
   | cons x r ih=>intro s b;exact ih _ _
 exact this pre _ _
theorem zW0 (ps:List Pt)(n i:Nat)(pre:List Nat)(d:Nat):cW ps i (wB n) false 0 (pre++[d])=2*cW ps i (wB n) false 0 pre+(zL (gS ps n pre).1 (xK ps (gS ps n pre).2 d).c).getD i 0:=by
 rw[zS3 ps i pre]
 rfl
def yO (ps:List Pt)(k m:Nat):List Nat:=k::List.replicate m (ps.length - 1)
def yZ (k m:Nat):List Nat:=(k+1)::List.replicate m 0
theorem sB (ps:List Pt)(k m:Nat):yO ps k (m+1)=yO ps k m++[ps.length - 1]:=by unfold yO;rw[List.replicate_succ',Th]
theorem tY (k m:Nat):yZ k (m+1)=yZ k m++[0]:=by unfold yZ;rw[List.replicate_succ',Th]
def dl (ps:List Pt)(n k m i:Nat):Int:=cW ps i (wB n) false 0 (yZ k m) - cW ps i (wB n) false 0 (yO ps k m)
def zOq (ps:List Pt)(x:Tn×Bool)(i:Nat):Int:=(zL x.1 (xK ps x.2 (ps.length - 1)).c).getD i 0
def zOu (ps:List Pt)(x:Tn×Bool)(i:Nat):Int:=(zL x.1 (xK ps x.2 0).c).getD i 0
theorem zZN (ps:List Pt)(n k m i:Nat):dl ps n k (m+1) i=2*dl ps n k m i+(zOu ps (gS ps n (yZ k m)) i - zOq ps (gS ps n (yO ps k m)) i):=by
 unfold dl
 rw[sB,tY,zW0,zW0]
 unfold zOu zOq
 omega
def Adj (ps:List Pt)(n k m:Nat):Prop:=∃i,i < n/\(dl ps n k m i=1∨dl ps n k m i = -1)/\∀j,j < n->j≠i->dl ps n k m j=0
section
variable {n:Nat} (hn:n=2∨n=3) {ps:List Pt} (ok:PtsOk n ps)
include hn ok
theorem oS {pre:List Nat}(hd:∀d∈pre,d < ps.length):(gS ps n pre).1∈zI n:=by
 unfold gS
 have:∀(pre:List Nat) (s:Tn) (b:Bool),s∈zI n->(∀d∈pre,d < ps.length)->(mT ps s b pre).1∈zI n:=by
   intro pre
   induction pre with
   | nil=>intro s b hs _;exact hs
   | cons d r ih=>intro s b hs hd;exact ih _ _ (zRe hn ok hs (hd d Qf)) fun y hy=>hd y (Qd _ hy)
 exact this pre _ _ (zRK hn) hd
theorem mR {k:Nat}(hk:k+1 < ps.length)(m:Nat):∀d∈yO ps k m,d < ps.length:=fun d hd=>by
 rcases Qj.mp hd with rfl | hd
 · omega
 · rw[List.eq_of_mem_replicate hd];omega
theorem pY {k:Nat}(hk:k+1 < ps.length)(m:Nat):∀d∈yZ k m,d < ps.length:=fun d hd=>by
 rcases Qj.mp hd with rfl | hd
 · exact hk
 · rw[List.eq_of_mem_replicate hd];omega
theorem zLo {k:Nat}(hk:k+1 < ps.length)(m i:Nat):(zOu ps (gS ps n (yZ k m)) i=0∨zOu ps (gS ps n (yZ k m)) i=1)/\(zOq ps (gS ps n (yO ps k m)) i=0∨zOq ps (gS ps n (yO ps k m)) i=1):=by
 constructor
 · exact aV hn (oZ hn _ (oS hn ok (pY hn ok hk m)) _ (zPL hn ok (b:=(gS ps n (yZ k m)).2) (show 0 < ps.length by omega))) i
 · exact aV hn (oZ hn _ (oS hn ok (mR hn ok hk m)) _ (zPL hn ok (b:=(gS ps n (yO ps k m)).2) (show ps.length - 1 < ps.length by omega))) i
theorem zP0 {k:Nat}(hk:k+1 < ps.length){m:Nat}(h1:Adj ps n k m)(h2:Adj ps n k (m+1)):∀i,i < n->dl ps n k (m+1) i=dl ps n k m i:=by
 obtain⟨i,hi,a1,a2⟩:=h1
 obtain⟨j,hj,b1,b2⟩:=h2
 have key:=fun x=>zZN ps n k m x
 have bt:=fun x=>zLo hn ok hk m x
 have eij:j=i:=by
   by_cases e:i=j
   · exact e.symm
   · exfalso
     have:=b2 i hi e
     have ki:=key i
     obtain⟨c1,c2⟩:=bt i
     omega
 subst eij
 intro x hx
 by_cases e:x=j
 · subst e
   have ki:=key x
   obtain⟨c1,c2⟩:=bt x
   omega
 · rw[b2 x hx e,a2 x hx e]
theorem zU9 {k:Nat}(hk:k+1 < ps.length){i m:Nat}(him:i < m)(hs:gS ps n (yO ps k i)=gS ps n (yO ps k m)/\gS ps n (yZ k i)=gS ps n (yZ k m))(ha:∀j,j<=m->Adj ps n k j):∀j,Adj ps n k j:=by
 have hd:∀q,i+q<=m->∀x,x < n->dl ps n k (i+q) x=dl ps n k i x:=by
   intro q
   induction q with
   | zero=>intro _ x _;rfl
   | succ q ih =>
     intro hq x hx
     rw[←Ev,zP0 hn ok hk (ha (i+q) (by omega)) (ha (i+q+1) (by omega)) x hx]
     exact ih (by omega) x hx
 have same:∀q,gS ps n (yO ps k (i+q))=gS ps n (yO ps k (m+q))/\gS ps n (yZ k (i+q))=gS ps n (yZ k (m+q))/\∀x,x < n->dl ps n k (i+q) x=dl ps n k (m+q) x:=by
   intro q
   induction q with
   | zero =>
     refine⟨hs.1,hs.2,fun x hx=>?_⟩
     have:=hd (m - i) (by omega) x hx
     rw[show i+(m - i)=m by omega] at this
     exact this.symm
   | succ q ih =>
     obtain⟨g1,g2,g3⟩:=ih
     refine⟨?_,?_,fun x hx=>?_⟩
     · rw[←Ev,←Ev,sB,sB,oK,oK,g1]
     · rw[←Ev,←Ev,tY,tY,oK,oK,g2]
     · rw[←Ev,←Ev,zZN,zZN,g1,g2,g3 x hx]
 intro j
 induction j using Nat.strongRecOn with
 | _ j ih =>
   by_cases hj:j<=m
   · exact ha j hj
   · obtain⟨a,b,c,d⟩:=ih (i+(j - m)) (by omega)
     have sm:=(same (j - m)).2.2
     rw[show m+(j - m)=j by omega] at sm
     exact⟨a,b,by rw[←sm a b];exact c,fun x hx hxa=>by rw[←sm x hx];exact d x hx hxa⟩
end
end My
end
noncomputable section
namespace My
open PySem L2
theorem zNR {x y:Int}:aI x+(aI y+0)=1↔((x=1∨x = -1)/\y=0)∨(x=0/\(y=1∨y = -1)):=by
 unfold aI
 constructor
 · intro h;split at h<;>split at h<;>omega
 · intro h;split<;>split<;>omega
theorem zQi {x y z:Int}:aI x+(aI y+(aI z+0))=1↔((x=1∨x = -1)/\y=0/\z=0)∨(x=0/\(y=1∨y = -1)/\z=0)∨(x=0/\y=0/\(z=1∨z = -1)):=by
 unfold aI
 constructor
 · intro h;split at h<;>split at h<;>split at h<;>omega
 · intro h;split<;>split<;>split<;>omega
theorem zNB {n:Nat}(hn:n=2∨n=3)(f g:Nat->Int):dst ((List.range n).map f) ((List.range n).map g)=1↔∃i,i < n/\(g i - f i=1∨g i - f i = -1)/\∀j,j < n->j≠i->g j - f j=0:=by
 rcases hn with rfl | rfl
 · show aI (f 0 - g 0)+(aI (f 1 - g 1)+0)=1↔_
   rw[zNR]
   constructor
   · rintro(⟨h,h'⟩ | ⟨h,h'⟩)
     · exact⟨0,by decide,by omega,fun j hj hne=>(by have:j=1:=(by omega);subst this;omega)⟩
     · exact⟨1,by decide,by omega,fun j hj hne=>(by have:j=0:=(by omega);subst this;omega)⟩
   · rintro⟨i,hi,h1,h2⟩
     have:i=0∨i=1:=by omega
     rcases this with rfl | rfl
     · have:=h2 1 (by decide) (by decide);omega
     · have:=h2 0 (by decide) (by decide);omega
 · show aI (f 0 - g 0)+(aI (f 1 - g 1)+(aI (f 2 - g 2)+0))=1↔_
   rw[zQi]
   constructor
   · rintro(⟨h,h',h''⟩ | ⟨h,h',h''⟩ | ⟨h,h',h''⟩)
     · exact⟨0,by decide,by omega,fun j hj hne=>by
         have:j=1∨j=2:=by omega
         rcases this with rfl | rfl<;>omega⟩
     · exact⟨1,by decide,by omega,fun j hj hne=>by
         have:j=0∨j=2:=by omega
         rcases this with rfl | rfl<;>omega⟩
     · exact⟨2,by decide,by omega,fun j hj hne=>by
         have:j=0∨j=1:=by omega
         rcases this with rfl | rfl<;>omega⟩
   · rintro⟨i,hi,h1,h2⟩
     have:i=0∨i=1∨i=2:=by omega
     rcases this with rfl | rfl | rfl
     · have:=h2 1 (by decide) (by decide);have:=h2 2 (by decide) (by decide);omega
     · have:=h2 0 (by decide) (by decide);have:=h2 2 (by decide) (by decide);omega
     · have:=h2 0 (by decide) (by decide);have:=h2 1 (by decide) (by decide);omega
theorem zSj {n:Nat}(hn:n=2∨n=3){ps:List Pt}{k m:Nat}:dst (gP ps n (yO ps k m)) (gP ps n (yZ k m))=1↔Adj ps n k m:=zNB hn _ _
section
variable {n:Nat} (hn:n=2∨n=3) {ps:List Pt} (ok:PtsOk n ps) (j:Bool)
include hn ok
theorem zSr (pre:List Nat)(d:Nat):gP ps n (pre++[d])=(List.range n).map fun i=>2*cW ps i (wB n) false 0 pre+(zL (gS ps n pre).1 (xK ps (gS ps n pre).2 d).c).getD i 0:=by
 unfold gP
 exact Rv fun i _=>zW0 ps n i pre d
theorem lS {pre:List Nat}(hd:∀d∈pre,d < ps.length){d:Nat}(hk:d < ps.length):w6 [zA n j ps,stD (gS ps n pre).1 (gS ps n pre).2,.int (d:Nat)]=some (.tup [yW (zL (gS ps n pre).1 (xK ps (gS ps n pre).2 d).c),stD (gS ps n (pre++[d])).1 (gS ps n (pre++[d])).2]):=by
 have e1:=zNV hn ok (oS hn ok hd) (gS ps n pre).2 j hk
 rw[zVV hk] at e1
 rw[e1,oK]
 rfl
theorem zYP {pre:List Nat}(hd:∀d∈pre,d < ps.length){d:Nat}(hk:d < ps.length):tD [yW (gP ps n pre),yW (zL (gS ps n pre).1 (xK ps (gS ps n pre).2 d).c)]=some (yW (gP ps n (pre++[d]))):=by
 rw[zSr hn ok]
 exact zNw hn ok _ _ (wF hn _ (oZ hn _ (oS hn ok hd) _ (zPL hn ok (b:=(gS ps n pre).2) hk)))
theorem qG {k:Nat}(hk:k < ps.length):zL (gS ps n []).1 (xK ps (gS ps n []).2 k).c=gP ps n [k]:=by
 have h:=zSr hn ok [] k
 rw[Eb] at h
 rw[h]
 have hl:=wF hn _ (oZ hn _ (oS hn ok (pre:=[]) (by simp)) _ (zPL hn ok (b:=(gS ps n []).2) hk))
 generalize zL (gS ps n []).1 (xK ps (gS ps n []).2 k).c=c at hl
 rcases hn with rfl | rfl
 · match c,hl with
   | [a,b],_=>simp[List.range,List.range.loop,cW]
 · match c,hl with
   | [a,b,e],_=>simp[List.range,List.range.loop,cW]
def cD:Sf:=(zJ (sIf (zWg 8 (yX (zY (eV 4) (zY (eV 6) zR)))) (yC (eC .non)) xL)
   (zJ (aL 8 (yX (zY (eV 4) (zY (eV 6) zR))) (eC (.bl true)))
   (zJ (uU (zM 3 w6 (zY (eV 0) (zY (eV 4) (zY (rF (wT (xE "Curve" "parts" (eV 0))) (eC (.int 1))) zR)))) (gT (zP (gN 9) (zP (gN 4) xZ))))
   (zJ (yK 3 (zM 2 tD (zY (eV 3) (zY (eV 9) zR))))
   (zJ (uU (zM 3 w6 (zY (eV 0) (zY (eV 6) (zY (eC (.int 0)) zR)))) (gT (zP (gN 9) (zP (gN 6) xZ))))
   (zJ (yK 5 (zM 2 tD (zY (eV 5) (zY (eV 9) zR))))
   (yK 7 (lW (eV 7) (eC (.int 1))))))))))
def aE (n:Nat)(j:Bool)(ps:List Pt)(k m:Nat)(x1 x2:B)(kvs:List (D×D))(x9:D)(o9:Bool):List B :=
 [.fz (zA n j ps),x1,x2,.fz (yW (gP ps n (yO ps k m))),.fz (stD (gS ps n (yO ps k m)).1 (gS ps n (yO ps k m)).2),
   .fz (yW (gP ps n (yZ k m))),.fz (stD (gS ps n (yZ k m)).1 (gS ps n (yZ k m)).2),.fz (.int ((m:Int)+1)),.od kvs,if o9 then .fz x9 else .no]
theorem zZr {k:Nat}(hk:k+1 < ps.length)(d1 d2:D):∀(fuel m:Nat) (kvs:List (D×D)) (ks:List KT) (x9:D) (o9:Bool),(kvs.map fun p=>ktD 8 p.1)=ks.map some->ks.Nodup->(∀x∈ks,x∈zTv n)->(∀x∈ks,∃i,i < m/\x=cP (gS ps n (yO ps k i)) (gS ps n (yZ k i)))->ks.length=m->(∀i,i < m->Adj ps n k i)->9216 < m+fuel ->
   (uM (tB1 (zM 2 rX (zY (eV 3) (zY (eV 5) zR)))) cD fuel (aE n j ps k m (.fz d1) (.fz d2) kvs x9 o9)=some (.rt .non)/\∀i,Adj ps n k i) ∨
   ∃m' kvs' x9' o9',m'<=9216/\uM (tB1 (zM 2 rX (zY (eV 3) (zY (eV 5) zR)))) cD fuel (aE n j ps k m (.fz d1) (.fz d2) kvs x9 o9)=some (.nx (aE n j ps k m' (.fz d1) (.fz d2) kvs' x9' o9'))/\¬Adj ps n k m'/\∀i,i < m'->Adj ps n k i
 | 0,m,kvs,ks,x9,o9,h1,h2,h3,h5,h6,h7,h4=>by
   have:=pig ks (zTv n) h2 h3
   have:=zUY hn
   omega
 | fuel+1,m,kvs,ks,x9,o9,h1,h2,h3,h5,h6,h7,h4=>by
   have hB:0 < ps.length:=by omega
   have hlast:ps.length - 1 < ps.length:=by omega
   have hdE:=mR hn ok hk m
   have hdS:=pY hn ok hk m
   have nx:=zN3 hn (gP ps n (yO ps k m)) (gP ps n (yZ k m)) (by simp[gP]) (by simp[gP])
   have p1:=lS hn ok j hdE hlast
   have p2:=zYP hn ok hdE hlast
   have p3:=lS hn ok j hdS hB
   have p4:=zYP hn ok hdS hB
   have tE:=zSp (oS hn ok hdE) (gS ps n (yO ps k m)).2
   have tS:=zSp (oS hn ok hdS) (gS ps n (yZ k m)).2
   have hkey:=zMe (gS ps n (yO ps k m)) (gS ps n (yZ k m))
   have hin:=zPF tE tS
   have hlk:kvs.length=ks.length:=by
     have:=Rp List.length h1
     simpa using this
   have hle:=Eu (pig ks (zTv n) h2 h3) (zUY hn)
   have tst:tB1 (zM 2 rX (zY (eV 3) (zY (eV 5) zR))) (aE n j ps k m (.fz d1) (.fz d2) kvs x9 o9)=some (decide (dst (gP ps n (yO ps k m)) (gP ps n (yZ k m))=1)):=by
     unfold tB1 aE;rw[w9 rfl rfl,nx];rfl
   by_cases ha:Adj ps n k m
   · rw[Qc ((zSj hn).mpr ha)] at tst
     rw[uM,tst,Qe,Qn rfl]
     have mem:some (cP (gS ps n (yO ps k m)) (gS ps n (yZ k m)))∈(kvs.map fun p=>ktD 8 p.1)↔cP (gS ps n (yO ps k m)) (gS ps n (yZ k m))∈ks:=by
       rw[h1]
       constructor
       · intro z;obtain⟨x,hx,e⟩:=Wg.mp z;cases e;exact hx
       · intro z;exact Wg.mpr ⟨_,z,rfl⟩
     have tin:zWg 8 (yX (zY (eV 4) (zY (eV 6) zR))) (aE n j ps k m (.fz d1) (.fz d2) kvs x9 o9)=some (decide (some (cP (gS ps n (yO ps k m)) (gS ps n (yZ k m)))∈kvs.map fun p=>ktD 8 p.1)):=by
       unfold zWg aE
       show((some (D.tup [stD (gS ps n (yO ps k m)).1 (gS ps n (yO ps k m)).2,stD (gS ps n (yZ k m)).1 (gS ps n (yZ k m)).2])).bind fun d=>_)=_
       rw[Qe,hkey]
       rfl
     by_cases hm:cP (gS ps n (yO ps k m)) (gS ps n (yZ k m))∈ks
     · left
       constructor
       · unfold cD
         rw[zWJ (d:=.non) ((vK tin).trans (by rw[Qc (mem.mpr hm)];rfl))]
         rfl
       · obtain⟨i,hi,e⟩:=h5 _ hm
         obtain⟨e1,e2⟩:=zQf e
         exact zU9 hn ok hk hi ⟨e1.symm,e2.symm⟩ fun q hq=>by
           rcases Yz hq with z | rfl
           · exact h7 q z
           · exact ha
     · have hm':some (cP (gS ps n (yO ps k m)) (gS ps n (yZ k m)))∉kvs.map fun p=>ktD 8 p.1:=fun z=>hm (mem.mp z)
       have ih:=zZr hk d1 d2 fuel (m+1) (kvs++[(.tup [stD (gS ps n (yO ps k m)).1 (gS ps n (yO ps k m)).2,stD (gS ps n (yZ k m)).1 (gS ps n (yZ k m)).2],.bl true)]) (ks++[cP (gS ps n (yO ps k m)) (gS ps n (yZ k m))]) (yW (zL (gS ps n (yZ k m)).1 (xK ps (gS ps n (yZ k m)).2 0).c)) true (by
           rw[Wb,Wb,h1]
           show _++[ktD 8 (.tup [stD (gS ps n (yO ps k m)).1 (gS ps n (yO ps k m)).2,stD (gS ps n (yZ k m)).1 (gS ps n (yZ k m)).2])]=_
           rw[show ktD 8 (.tup [stD (gS ps n (yO ps k m)).1 (gS ps n (yO ps k m)).2,stD (gS ps n (yZ k m)).1 (gS ps n (yZ k m)).2])=some (cP (gS ps n (yO ps k m)) (gS ps n (yZ k m))) from hkey]
           rfl) (Ye.mpr ⟨h2,by simp,fun x hx y hy=>by rw[Wf] at hy;subst hy;intro z;exact hm (z ▸ hx)⟩) (fun x hx=>by
           rcases Eh.mp hx with z | z
           · exact h3 x z
           · rw[Wf.mp z];exact hin) (fun x hx=>by
           rcases Eh.mp hx with z | z
           · obtain⟨i,hi,e⟩:=h5 x z;exact⟨i,by omega,e⟩
           · exact⟨m,by omega,Wf.mp z⟩) (by rw[Wr,h6];rfl) (fun i hi=>by
           rcases Yz (Nat.le_of_lt_succ hi) with z | rfl
           · exact h7 i z
           · exact ha) (by omega)
       have step:cD (aE n j ps k m (.fz d1) (.fz d2) kvs x9 o9)=some (.nx (aE n j ps k (m+1) (.fz d1) (.fz d2) (kvs++[(.tup [stD (gS ps n (yO ps k m)).1 (gS ps n (yO ps k m)).2,stD (gS ps n (yZ k m)).1 (gS ps n (yZ k m)).2],.bl true)]) (yW (zL (gS ps n (yZ k m)).1 (xK ps (gS ps n (yZ k m)).2 0).c)) true)):=by
         unfold cD
         rw[yT ((vK tin).trans (by rw[Qv hm'];rfl))]
         unfold aE
         rw[←sB] at p1 p2
         rw[←tY] at p3 p4
         have hcast:(((m+1:Nat):Int)+1)=(m:Int)+1+1:=by omega
         rw[hcast]
         generalize gP ps n (yO ps k m)=a3 at *
         generalize gS ps n (yO ps k m)=a4 at *
         generalize gP ps n (yZ k m)=a5 at *
         generalize gS ps n (yZ k m)=a6 at *
         have sd:aL 8 (yX (zY (eV 4) (zY (eV 6) zR))) (eC (.bl true)) [.fz (zA n j ps),.fz d1,.fz d2,.fz (yW a3),.fz (stD a4.1 a4.2),.fz (yW a5),.fz (stD a6.1 a6.2),.fz (.int ((m:Int)+1)),.od kvs,if o9 then .fz x9 else .no]=some (.nx [.fz (zA n j ps),.fz d1,.fz d2,.fz (yW a3),.fz (stD a4.1 a4.2),.fz (yW a5),.fz (stD a6.1 a6.2),.fz (.int ((m:Int)+1)),.od (kvs++[(.tup [stD a4.1 a4.2,stD a6.1 a6.2],.bl true)]),if o9 then .fz x9 else .no]):=by
           unfold aL
           show((some (D.bl true)).bind fun e=>((some (D.tup [stD a4.1 a4.2,stD a6.1 a6.2])).bind fun d=>_))=_
           rw[Qe,Qe,hkey,Qe]
           show(if kvs.length<=lim/\_/\_ then _ else none)=_
           rw[Qn ⟨show kvs.length<=100000 by omega,by cases o9<;>rfl,hm'⟩]
           rfl
         rw[yT sd]
         have hlp:∀ρ,eV 0 ρ=some (zA n j ps)->rF (wT (xE "Curve" "parts" (eV 0))) (eC (.int 1)) ρ=some (.int ((ps.length - 1:Nat):Nat)):=fun ρ h=>by
           rw[show((ps.length - 1:Nat):Int)=(ps.length:Int) - 1 by omega]
           exact wK (zXi h) rfl rfl
         rw[yT (ρ':=[.fz (zA n j ps),.fz d1,.fz d2,.fz (yW a3),.fz (stD (gS ps n (yO ps k (m+1))).1 (gS ps n (yO ps k (m+1))).2),.fz (yW a5),.fz (stD a6.1 a6.2),.fz (.int ((m:Int)+1)),.od (kvs++[(.tup [stD a4.1 a4.2,stD a6.1 a6.2],.bl true)]),.fz (yW (zL a4.1 (xK ps a4.2 (ps.length - 1)).c))]) (by
           unfold uU
           rw[jZ rfl rfl (hlp _ rfl),p1]
           cases o9<;>rfl)]
         rw[uN ((w9 rfl rfl).trans p2)]
         dsimp only[List.set]
         rw[yT (ρ':=[.fz (zA n j ps),.fz d1,.fz d2,.fz (yW (gP ps n (yO ps k (m+1)))),.fz (stD (gS ps n (yO ps k (m+1))).1 (gS ps n (yO ps k (m+1))).2),.fz (yW a5),.fz (stD (gS ps n (yZ k (m+1))).1 (gS ps n (yZ k (m+1))).2),.fz (.int ((m:Int)+1)),.od (kvs++[(.tup [stD a4.1 a4.2,stD a6.1 a6.2],.bl true)]),.fz (yW (zL a6.1 (xK ps a6.2 0).c))]) (by
           unfold uU
           rw[jZ rfl rfl (show eC (.int 0) _=some (.int ((0:Nat):Nat)) from rfl),p3]
           rfl)]
         rw[uN ((w9 rfl rfl).trans p4)]
         rfl
       rw[step,Qe]
       rcases ih with⟨q1,q2⟩ | ⟨m',kvs',x9',o9',q1,q2,q3,q4⟩
       · exact .inl ⟨q1,q2⟩
       · exact .inr ⟨m',kvs',x9',o9',q1,q2,q3,q4⟩
   · rw[Qv fun z=>ha ((zSj hn).mp z)] at tst
     refine .inr ⟨m,kvs,x9,o9,by omega,?_,ha,h7⟩
     rw[uM,tst,Qe,Wd (by decide)]
theorem zRV {k:Nat}(hk:k+1 < ps.length):(uV [zA n j ps,.int (k:Nat)]=some .non/\∀i,Adj ps n k i)∨∃m:Nat,m<=9216/\uV [zA n j ps,.int (k:Nat)]=some (.int ((m:Int)+1))/\¬Adj ps n k m/\∀i,i < m->Adj ps n k i:=by
 have e0:=zQD hn
 have p1:=lS hn ok j (pre:=[]) (by simp) (show k < ps.length by omega)
 have p2:=lS hn ok j (pre:=[]) (by simp) hk
 rw[qG hn ok (show k < ps.length by omega)] at p1
 rw[qG hn ok hk] at p2
 have lp:=zZr hn ok j hk (.int (k:Nat)) (stD (wB n) false) 10000 0 [] [] (.non) false rfl List.nodup_nil (by simp) (by simp) rfl (by simp) (by decide)
 have go:∀r,((zJ (uM (tB1 (zM 2 rX (zY (eV 3) (zY (eV 5) zR)))) cD 10000) dG) (aE n j ps k 0 (.fz (.int (k:Nat))) (.fz (stD (wB n) false)) [] .non false)).bind wA=r->uV [zA n j ps,.int (k:Nat)]=r:=fun r h=>by
   show(qE [.fz (zA n j ps),.fz (.int (k:Nat)),.no,.no,.no,.no,.no,.no,.no,.no]).bind wA=_
   unfold qE
   refine cI ((uA (zQs (n:=n) (j:=j) (ps:=ps) rfl)).trans e0) ?_
   unfold mC
   refine xF (ρ':=[.fz (zA n j ps),.fz (.int (k:Nat)),.fz (stD (wB n) false),.fz (yW (gP ps n [k])),.fz (stD (gS ps n [k]).1 (gS ps n [k]).2),.no,.no,.no,.no,.no]) (by
     unfold uU
     rw[jZ rfl rfl rfl,show w6 [zA n j ps,stD (wB n) false,.int (k:Nat)]=_ from p1]
     rfl) ?_
   unfold lM
   refine xF (ρ':=[.fz (zA n j ps),.fz (.int (k:Nat)),.fz (stD (wB n) false),.fz (yW (gP ps n [k])),.fz (stD (gS ps n [k]).1 (gS ps n [k]).2),.fz (yW (gP ps n [k+1])),.fz (stD (gS ps n [k+1]).1 (gS ps n [k+1]).2),.no,.no,.no]) (by
     unfold uU
     rw[jZ (z:=.int ((k+1:Nat):Nat)) rfl rfl (by rw[show((k+1:Nat):Int)=(k:Int)+1 by omega];exact wK rfl rfl rfl),show w6 [zA n j ps,stD (wB n) false,.int ((k+1:Nat):Nat)]=_ from p2]
     rfl) ?_
   unfold mG
   refine cI (d:=.int 1) rfl ?_
   unfold kZ
   exact xF (ρ':=aE n j ps k 0 (.fz (.int (k:Nat))) (.fz (stD (wB n) false)) [] .non false) rfl h
 rcases lp with⟨q1,q2⟩ | ⟨m',kvs',x9',o9',q1,q2,q3,q4⟩
 · exact .inl ⟨go _ (by rw[zWJ q1];rfl),q2⟩
 · exact .inr ⟨m',q1,go _ (by rw[yT q2];rfl),q3,q4⟩
end
end My
end
noncomputable section
namespace My
open PySem L2
section
variable {n:Nat} (hn:n=2∨n=3) {ps:List Pt} (ok:PtsOk n ps)
include hn ok
theorem dD {s t:Tn}(hs:s∈zI n)(ht:t∈zI n){c:List Int}(hc:c∈zO n):zL (yP s t) c=zL s (zL t c) :=
 zWv (trM hn hs) (trM hn ht) (wF hn c hc) (by
   have key:∀c∈zO n,∀x∈c,x=0∨x=1:=by rcases hn with rfl | rfl<;>decide +kernel
   exact key c hc)
end
end My
end
noncomputable section
namespace My
open PySem L2
def aW:List (List Int×Tn×Bool):=[([1,1],[(0,1),(1,0)],false),([0,1],[(1,0),(0,1)],false),([0,0],[(1,0),(0,0)],true),([1,0],[(1,1),(0,0)],false)]
def zYp (x:List Int×Tn×Bool):D:=.tup [yW x.1,z0 x.2.1,.bl x.2.2]
theorem zXt {t:Tn}(ht:t∈zI 2)(x0 x1:B):∀(bs:List (List Int×Tn×Bool)) (acc:List Pt) (x4 x5 x6 x7:B),(∀x∈bs,x.1∈zO 2/\x.2.1∈zI 2)->acc.length+bs.length<=100->(∀p∈acc,p.t∈zI 2) ->
   ∃(ps:List Pt) (y4 y5 y6 y7:B),ps.map (·.c)=acc.map (·.c)++bs.map (fun x=>zL t x.1)/\(∀p∈ps,p.t∈zI 2) /\
     nD (gT (zP (gN 4) (zP (gN 5) (zP (gN 6) xZ)))) vP (bs.map zYp) [x0,x1,.fz (z0 t),.ow (acc.map zH),x4,x5,x6,x7]=some (.nx [x0,x1,.fz (z0 t),.ow (ps.map zH),y4,y5,y6,y7])
 | [],acc,x4,x5,x6,x7,_,_,ha=>⟨acc,x4,x5,x6,x7,by simp,ha,rfl⟩
 | x::r,acc,x4,x5,x6,x7,hb,hl,ha=>by
   have hn:2=2∨2=3:=.inl rfl
   obtain⟨h1,h2⟩:=hb x Qf
   have um:=(kL hn ht).1
   have e1:=bS hn ht
   have e2:=pJ hn h2 um
   have m2:=uJ hn h2 um
   have e3:=pJ hn ht m2
   have m3:=uJ hn ht m2
   have T:=trM hn ht
   have e5:vV [z0 t,yW x.1]=some (yW (zL t x.1)):=by
     rw[gG]
     exact bW t x.1 (by rw[wF hn x.1 h1];exact T.fits) (by rw[T.len];decide)
   obtain⟨ps,y4,y5,y6,y7,q1,q2,q3⟩:=zXt ht x0 x1 r (acc++[⟨zL t x.1,yP t (yP x.2.1 (wL t)),x.2.2⟩]) (.fz (yW x.1)) (.fz (z0 x.2.1)) (.fz (.bl x.2.2)) (.fz (z0 (yP t (yP x.2.1 (wL t))))) (fun y hy=>hb y (Qd _ hy)) (by simp at hl ⊢;omega) (fun q hq=>by
     rcases Eh.mp hq with z | z
     · exact ha q z
     · rw[Wf.mp z];exact m3)
   refine⟨ps,y4,y5,y6,y7,by rw[q1];simp,q2,?_⟩
   rw[Wb] at q3
   rw[Qg,iM (ρ1:=[x0,x1,.fz (z0 t),.ow (acc.map zH),.fz (yW x.1),.fz (z0 x.2.1),.fz (.bl x.2.2),x7]) (ρ2:=[x0,x1,.fz (z0 t),.ow (acc.map zH++[zH ⟨zL t x.1,yP t (yP x.2.1 (wL t)),x.2.2⟩]),.fz (yW x.1),.fz (z0 x.2.1),.fz (.bl x.2.2),.fz (z0 (yP t (yP x.2.1 (wL t))))]) rfl ?_]
   · exact q3
   · unfold vP
     rw[uN ((w9 rfl ((w9 rfl ((uA rfl).trans e1)).trans e2)).trans e3)]
     unfold kW
     exact zT7 (zNU ((w9 rfl rfl).trans e5) rfl rfl) rfl (by rw[Qo];simp at hl;omega)
theorem zQX (q:Int):∃ps:List Pt,PtsOk 2 ps/\tG [.int q]=some (ps.map zH):=by
 have hn:2=2∨2=3:=.inl rfl
 obtain⟨t,tm,te⟩:=zZQ q hn
 have go:∀bs:List (List Int×Tn×Bool),(∀x∈bs,x.1∈zO 2/\x.2.1∈zI 2)->bs.length<=100->(bs.map fun x=>zL t x.1).Perm (zO 2)->∃ps:List Pt,PtsOk 2 ps/\(tT [.fz (.int q),.fz (.lst (bs.map zYp)),.no,.no,.no,.no,.no,.no]).bind zZD=some (ps.map zH):=fun bs h1 h2 h3=>by
   obtain⟨ps,y4,y5,y6,y7,q1,q2,q3⟩:=zXt tm (.fz (.int q)) (.fz (.lst (bs.map zYp))) bs [] .no .no .no .no h1 (by simpa using h2) (by simp)
   refine⟨ps,⟨by rw[q1];simpa using h3,q2⟩,?_⟩
   unfold tT
   rw[uN (d:=z0 t) ((w9 rfl rfl).trans te)]
   unfold oP
   rw[yT (ρ':=[.fz (.int q),.fz (.lst (bs.map zYp)),.fz (z0 t),.ow [],.no,.no,.no,.no]) rfl]
   unfold pO
   have fr:qP (iL (eV 1)) (gT (zP (gN 4) (zP (gN 5) (zP (gN 6) xZ)))) vP [.fz (.int q),.fz (.lst (bs.map zYp)),.fz (z0 t),.ow [],.no,.no,.no,.no]=some (.nx [.fz (.int q),.fz (.lst (bs.map zYp)),.fz (z0 t),.ow (ps.map zH),y4,y5,y6,y7]):=q3
   rw[yT fr]
   rfl
 have okb:∀x∈aW,x.1∈zO 2/\x.2.1∈zI 2:=by decide +kernel
 have perm:∀t∈zI 2,(aW.map fun x=>zL t x.1).Perm (zO 2):=by decide +kernel
 show ∃ps:List Pt,PtsOk 2 ps/\(sY [.fz (.int q),.no,.no,.no,.no,.no,.no,.no]).bind zZD=some (ps.map zH)
 have pre:(sY [.fz (.int q),.no,.no,.no,.no,.no,.no,.no])=sJ [.fz (.int q),.fz (.lst (aW.map zYp)),.no,.no,.no,.no,.no,.no]:=by kernel_rfl
 rw[pre]
 unfold sJ
 have ht1:eB2 gEq (uC (rZ (eV 0) (eC (.int 48))) (eC (.int 2))) (eC (.int 1)) [.fz (.int q),.fz (.lst (aW.map zYp)),.no,.no,.no,.no,.no,.no]=some (decide (q / 48 % 2=1)):=mE (wK (wK rfl rfl rfl) rfl rfl)
 by_cases hb:q / 48 % 2=1
 · obtain⟨ps,g1,g2⟩:=go aW.reverse (fun x hx=>okb x (List.mem_reverse.mp hx)) (by decide) (by rw[Oq];exact(List.reverse_perm _).trans (perm t tm))
   refine⟨ps,g1,?_⟩
   rw[yT (ρ':=[.fz (.int q),.fz (.lst (aW.reverse.map zYp)),.no,.no,.no,.no,.no,.no]) ((vK ht1).trans (by rw[Qc hb];rfl))]
   exact g2
 · obtain⟨ps,g1,g2⟩:=go aW okb (by decide) (perm t tm)
   refine⟨ps,g1,?_⟩
   rw[yT (ρ':=[.fz (.int q),.fz (.lst (aW.map zYp)),.no,.no,.no,.no,.no,.no]) ((vK ht1).trans (by rw[Qv hb];rfl))]
   exact g2
theorem zQh {n:Nat}(hn:n=2∨n=3)(cell:Int):∃ps:List Pt,PtsOk n ps/\jK [.int n,.int cell]=some (ps.map zH):=by
 have e1:=zYA cell 40692 (by decide) (by decide)
 generalize zRv cell 40692=r at e1
 show ∃ps:List Pt,PtsOk n ps/\(rR [.fz (.int n),.fz (.int cell),.no]).bind zZD=some (ps.map zH)
 unfold rR
 rw[uN (d:=.int r) ((w9 rfl rfl).trans e1)]
 dsimp only[List.set]
 unfold nK
 have tt:kX (eB2 gEq (eV 0) (eC (.int 2))) (eB2 gEq (uC (rZ (eV 2) (eC (.int 7))) (eC (.int 4))) (eC (.int 0))) [.fz (.int n),.fz (.int cell),.fz (.int r)]=some (decide ((n:Int)=2)&&decide (r / 7 % 4=0)):=by
   unfold kX
   rw[show eB2 gEq (eV 0) (eC (.int 2)) [.fz (.int n),.fz (.int cell),.fz (.int r)]=some (decide ((n:Int)=2)) from rfl,mE (x:=r / 7 % 4) (wK (wK rfl rfl rfl) rfl rfl),Qe]
   cases decide ((n:Int)=2)<;>rfl
 by_cases hf:(decide ((n:Int)=2)&&decide (r / 7 % 4=0))=true
 · rw[Qx] at hf
   have h2:n=2:=by have:=Ru hf.1;omega
   subst h2
   obtain⟨ps,ok,e⟩:=zQX (r / 28)
   refine⟨ps,ok,?_⟩
   rw[hf.1,hf.2] at tt
   have st:sIf (kX (eB2 gEq (eV 0) (eC (.int 2))) (eB2 gEq (uC (rZ (eV 2) (eC (.int 7))) (eC (.int 4))) (eC (.int 0)))) (sL (vY 1 tG (zY (rZ (eV 2) (eC (.int 28))) zR))) xL [.fz (.int ((2:Nat):Nat)),.fz (.int cell),.fz (.int r)]=some (Out.rl (ps.map zH)):=by
     refine(vK tt).trans ?_
     show sL _ _=_
     unfold sL vY
     rw[yL (d:=.int (r / 28)) (wK rfl rfl rfl) rfl,Qe]
     show(tG [.int (r / 28)]).map _=_
     rw[e];rfl
   unfold zJ
   rw[st]
   rfl
 · have hf':(decide ((n:Int)=2)&&decide (r / 7 % 4=0))=false:=by simpa using hf
   rw[hf'] at tt
   rw[yT (ρ':=[.fz (.int n),.fz (.int cell),.fz (.int r)]) ((vK tt).trans rfl)]
   unfold nI
   have t0:eB2 gEq (uC (eV 2) (eC (.int 4))) (eC (.int 0)) [.fz (.int n),.fz (.int cell),.fz (.int r)]=some (decide (r % 4=0)):=mE (wK rfl rfl rfl)
   have t1:eB2 gEq (uC (eV 2) (eC (.int 4))) (eC (.int 1)) [.fz (.int n),.fz (.int cell),.fz (.int r)]=some (decide (r % 4=1)):=mE (wK rfl rfl rfl)
   by_cases h0:r % 4=0
   · obtain⟨ps,ok,e⟩:=zPb hn cell
     refine⟨ps,ok,?_⟩
     rw[show zJ (sIf _ (sL (vY 2 nZ (zY (eV 0) (zY (eV 1) zR)))) xL) rM _=some (.rl (ps.map zH)) from by
       unfold zJ
       rw[show sIf _ _ _ _=some (Out.rl (ps.map zH)) from(vK t0).trans (by rw[Qc h0,Qn rfl];unfold sL;rw[fM rfl rfl,e];rfl)]
       rfl]
     rfl
   · rw[yT (ρ':=[.fz (.int n),.fz (.int cell),.fz (.int r)]) ((vK t0).trans (by rw[Qv h0];rfl))]
     unfold rM
     by_cases h1:r % 4=1
     · obtain⟨ps,ok,e⟩:=zX4 hn (r / 4)
       refine⟨ps,ok,?_⟩
       rw[show zJ (sIf _ (sL (vY 2 tL (zY (eV 0) (zY (rZ (eV 2) (eC (.int 4))) zR)))) xL) nL _=some (.rl (ps.map zH)) from by
         unfold zJ
         rw[show sIf _ _ _ _=some (Out.rl (ps.map zH)) from(vK t1).trans (by rw[Qc h1,Qn rfl];unfold sL;rw[fM rfl (wK (i:=r) (j:=4) rfl rfl rfl),e];rfl)]
         rfl]
       rfl
     · obtain⟨ps,ok,e⟩:=zTZ hn cell
       refine⟨ps,ok,?_⟩
       rw[yT (ρ':=[.fz (.int n),.fz (.int cell),.fz (.int r)]) ((vK t1).trans (by rw[Qv h1];rfl))]
       unfold nL sL
       rw[fM rfl rfl,e]
       rfl
end My
end
noncomputable section
namespace My
open PySem L2
instance (ps:List Pt)(n k m:Nat):Decidable (Adj ps n k m):=Classical.propDecidable _
def tO:Option Nat->D | none=>.non | some m=>.int ((m:Int)+1)
theorem zVZ:∀(l:List (Option Nat)) (x0:B) (acc:List D),sF (gN 0) (eB2 uB (eV 0) (eC .non)) (eV 0) (l.map tO) [x0] acc=some (acc++(l.filterMap id).map fun(m:Nat)=>.int ((m:Int)+1))
 | [],_,acc=>by simp[sF]
 | none::r,x0,acc=>by
   rw[Qg]
   show sF (gN 0) (eB2 uB (eV 0) (eC .non)) (eV 0) (r.map tO) [.fz .non] acc=_
   rw[zVZ r];rfl
 | some m::r,x0,acc=>by
   rw[Qg]
   show sF (gN 0) (eB2 uB (eV 0) (eC .non)) (eV 0) (r.map tO) [.fz (.int ((m:Int)+1))] (acc++[.int ((m:Int)+1)])=_
   rw[zVZ r,Yq];rfl
theorem zUz:∀l:List Nat,jY (l.map fun(m:Nat)=>.int ((m:Int)+1))=some (l.map fun(m:Nat)=>(m:Int)+1)
 | []=>rfl
 | m::r=>by rw[Qg,jY,zUz r];rfl
theorem zXv (val:Nat->Int):∀k,(∃i,i<=k/\vB val k=val i)/\∀i,i<=k->vB val k<=val i
 | 0=>by
   refine⟨⟨0,Ql _,rfl⟩,fun i hi=>?_⟩
   rw[Nat.le_zero.mp hi]
   exact Int.le_refl _
 | k+1=>by
   obtain⟨⟨i,hi,e⟩,h⟩:=zXv val k
   rw[vB]
   split
   · rename_i hb
     refine⟨⟨k+1,Ql _,rfl⟩,fun q hq=>?_⟩
     rcases Yz hq with z | rfl
     · have:=h q (by omega);omega
     · exact Int.le_refl _
   · rename_i hb
     refine⟨⟨i,by omega,e⟩,fun q hq=>?_⟩
     rcases Yz hq with z | rfl
     · exact h q (by omega)
     · omega
theorem zP3 {l:List Nat}(h:l≠[]):∃m0,m0∈l/\fZ (l.map fun(m:Nat)=>(m:Int)+1)=(m0:Int)+1/\∀m∈l,m0<=m:=by
 have hl:0 < l.length:=List.length_pos_iff.mpr h
 have gv:∀i (hi:i < l.length),(l.map fun(m:Nat)=>(m:Int)+1).getD i 0=(l[i]:Int)+1:=fun i hi=>by
   rw[Wo,Wq,Qu hi];rfl
 obtain⟨⟨i,hi,e⟩,hm⟩:=zXv (fun i=>(l.map fun(m:Nat)=>(m:Int)+1).getD i 0) (l.length - 1)
 have hi':i < l.length:=by omega
 refine⟨l[i],Rb _,?_,fun m hmm=>?_⟩
 · unfold fZ
   rw[Qo,e]
   exact gv i hi'
 · obtain⟨q,hq,rfl⟩:=List.mem_iff_getElem.mp hmm
   have:=hm q (by omega)
   rw[e] at this
   simp only[gv i hi',gv q hq] at this
   omega
theorem zQp (m0:Nat):∀o:Option Nat,eqN (tO o) (.int ((m0:Int)+1))=some (decide (o=some m0))
 | none=>rfl
 | some m=>by
   show eqD 8 (.int ((m:Int)+1)) (.int ((m0:Int)+1))=_
   show some (((m:Int)+1)==((m0:Int)+1))=_
   congr 1
   by_cases h:m=m0
   · subst h;simp
   · rw[Qv (by simpa using h)]
     simp;omega
theorem zMN (m0:Nat):∀l:List (Option Nat),some m0∈l->∃j,ixE (fun z=>eqN z (.int ((m0:Int)+1))) (l.map tO)=some j/\l[j]?=some (some m0)/\∀i,i < j->l[i]?≠some (some m0)
 | [],h=>by cases h
 | o::r,h=>by
   rw[Qg,ixE,zQp]
   by_cases ho:o=some m0
   · subst ho
     refine⟨0,?_,rfl,fun i hi=>absurd hi (Tx i)⟩
     rw[Qc rfl,Qe,Qn rfl,Qn]
     rw[List.all_map,Qh]
     intro x _
     show(eqN (tO x) _).isSome=true
     rw[zQp];rfl
   · obtain⟨j,e,g,lo⟩:=zMN m0 r ((Qj.mp h).resolve_left fun z=>ho z.symm)
     refine⟨j+1,?_,by simpa using g,fun i hi=>by
       cases i with
       | zero=>simp;exact ho
       | succ i=>simpa using lo i (by omega)⟩
     rw[Qv ho,Qe,Wd (by decide),e]
     rfl
section
variable {n:Nat} (hn:n=2∨n=3) {ps:List Pt} (ok:PtsOk n ps) (j:Bool)
include hn ok
theorem zUS:(xM [zA n j ps]=some .non/\∀k,k+1 < ps.length->∀i,Adj ps n k i)∨∃k m:Nat,k+1 < ps.length/\m<=9216/\xM [zA n j ps]=some (.tup [.int (k:Nat),.int ((m:Int)+1)])/\¬Adj ps n k m/\(∀k',k'+1 < ps.length->∀i,i < m->Adj ps n k' i)/\∀k',k' < k->Adj ps n k' m:=by
 have hs:=ok.small hn
 have hB:0 < ps.length:=by rw[ok.len];exact Nat.pow_pos (by decide)
 have ex:∀k,∃o:Option Nat,k+1 < ps.length->uV [zA n j ps,.int (k:Nat)]=some (tO o)/\(o=none->∀i,Adj ps n k i)/\∀m,o=some m->m<=9216/\¬Adj ps n k m/\∀i,i < m->Adj ps n k i:=fun k=>by
   by_cases hk:k+1 < ps.length
   · rcases zRV hn ok j hk with⟨e,h⟩ | ⟨m,hm,e,h1,h2⟩
     · exact⟨none,fun _=>⟨e,fun _=>h,fun m z=>by cases z⟩⟩
     · exact⟨some m,fun _=>⟨e,fun z=>(by cases z),fun m' z=>by cases z;exact⟨hm,h1,h2⟩⟩⟩
   · exact⟨none,fun h=>absurd h hk⟩
 obtain⟨lv,hlv⟩:∃lv:Nat->Option Nat,∀k,k+1 < ps.length->uV [zA n j ps,.int (k:Nat)]=some (tO (lv k))/\(lv k=none->∀i,Adj ps n k i)/\∀m,lv k=some m->m<=9216/\¬Adj ps n k m/\∀i,i < m->Adj ps n k i:=⟨fun k=>(ex k).choose,fun k=>(ex k).choose_spec⟩
 have src:iR (rF (wT (xE "Curve" "parts" (eV 0))) (eC (.int 1))) [.fz (zA n j ps),.no,.no]=some (vQ 0 (ps.length - 1)):=by
   have e:rF (wT (xE "Curve" "parts" (eV 0))) (eC (.int 1)) [.fz (zA n j ps),.no,.no]=some (.int ((ps.length - 1:Nat):Nat)):=by
     rw[show((ps.length - 1:Nat):Int)=(ps.length:Int) - 1 by omega]
     exact wK (zXi (n:=n) (j:=j) (ps:=ps) rfl) rfl rfl
   unfold iR
   rw[e,Qe]
   show(if decide (-1000000<=((ps.length - 1:Nat):Int))&&decide (((ps.length - 1:Nat):Int)<=1000000) then some (vQ 0 ((ps.length - 1:Nat):Int).toNat) else none)=_
   rw[Qc (by omega),Qc (by omega),Rt]
   rfl
 have comp:xY (iR (rF (wT (xE "Curve" "parts" (eV 0))) (eC (.int 1)))) 1 [0] (gN 0) tOK (zM 2 uV (zY (eV 1) (zY (eV 0) zR))) [.fz (zA n j ps),.no,.no]=some (((List.range (ps.length - 1)).map lv).map tO):=by
   unfold xY
   rw[src,Qe,fQ (by rw[zZ4];omega),Qe]
   show sF (gN 0) tOK _ _ [.no,.fz (zA n j ps)] []=_
   rw[zVz (h:=fun d=>match d with | .int x=>tO (lv x.toNat) | d=>d)]
   · rw[Eb]
     unfold vQ
     rw[Tu,Tu]
     congr 1
     refine Rv fun i _=>?_
     show tO (lv ((0:Int)+(i:Nat)).toNat)=tO (lv i)
     rw[show((0:Int)+(i:Nat)).toNat=i by omega]
   · intro d hd
     obtain⟨i,hi,rfl⟩:=zVf hd
     refine(w9 rfl rfl).trans ?_
     show _=some (tO (lv ((0:Int)+(i:Nat)).toNat))
     rw[show((0:Int)+(i:Nat)).toNat=i by omega,show(0:Int)+(i:Nat)=(i:Nat) by omega]
     exact(hlv i (by omega)).1
 generalize hl:(List.range (ps.length - 1)).map lv=l at comp
 have hlen:l.length=ps.length - 1:=by rw[←hl,Qo,List.length_range]
 have e2:xY (iL (eV 1)) 1 [] (gN 0) (eB2 uB (eV 0) (eC .non)) (eV 0) [.fz (zA n j ps),.fz (.lst (l.map tO)),.no]=some ((l.filterMap id).map fun(m:Nat)=>.int ((m:Int)+1)):=by
   unfold xY
   show((okL (l.map tO)).bind fun ds=>sF (gN 0) _ _ ds [.no] [])=_
   rw[fQ (by rw[Qo];omega),Qe,zVZ,Eb]
 have pre:∀(d:D) (r:Option D),zZk (xY (iL (eV 1)) 1 [] (gN 0) (eB2 uB (eV 0) (eC .non)) (eV 0)) [.fz (zA n j ps),.fz (.lst (l.map tO)),.no]=some d->(tR [.fz (zA n j ps),.fz (.lst (l.map tO)),.fz d]).bind wA=r->xM [zA n j ps]=r:=fun d r h1 h2=>by
   show(sH [.fz (zA n j ps),.no,.no]).bind wA=_
   unfold sH
   refine xF (ρ':=[.fz (zA n j ps),.ow (l.map tO),.no]) (by unfold tV;rw[comp];rfl) ?_
   unfold pR
   refine xF (ρ':=[.fz (zA n j ps),.fz (.lst (l.map tO)),.fz d]) ?_ h2
   show yK 2 (zZk (xY (iL (eV 1)) 1 [] (gN 0) (eB2 uB (eV 0) (eC .non)) (eV 0))) [.fz (zA n j ps),.fz (.lst (l.map tO)),.no]=_
   unfold yK
   rw[h1];rfl
 have minv:zZk (xY (iL (eV 1)) 1 [] (gN 0) (eB2 uB (eV 0) (eC .non)) (eV 0)) [.fz (zA n j ps),.fz (.lst (l.map tO)),.no]=if ((l.filterMap id).map fun(m:Nat)=>(m:Int)+1).isEmpty=true then some .non else some (.int (fZ ((l.filterMap id).map fun(m:Nat)=>(m:Int)+1))):=by
   unfold zZk
   rw[e2,Qe,zUz,Qe]
 have mem_l:∀ {k:Nat} {m:Nat},k+1 < ps.length->lv k=some m->m∈l.filterMap id:=fun {k m} hk e=>by
   rw[Yg]
   refine⟨some m,?_,rfl⟩
   rw[←hl,←e]
   exact Wg.mpr ⟨k,Es.mpr (by omega),rfl⟩
 by_cases he:l.filterMap id=[]
 · left
   refine⟨pre .non _ (by rw[minv,he];rfl) rfl,fun k hk=>?_⟩
   cases ho:lv k with
   | none=>exact(hlv k hk).2.1 ho
   | some m=>have:=mem_l hk ho;rw[he] at this;cases this
 · right
   obtain⟨m0,hm0,le,mn⟩:=zP3 he
   have hsm:some m0∈l:=by
     obtain⟨o,ho,e⟩:=Yg.mp hm0
     have:o=some m0:=e
     rw[←this];exact ho
   obtain⟨k,ik,gk,lo⟩:=zMN m0 l hsm
   have hk:k < ps.length - 1:=by rw[←hlen];exact(Qk.mp gk).1
   have lvk:lv k=some m0:=by
     rw[←hl,Wq,Tk hk] at gk
     exact Wa gk
   obtain⟨q1,q2,q3⟩:=(hlv k (by omega)).2.2 m0 lvk
   refine⟨k,m0,by omega,q1,pre (.int ((m0:Int)+1)) _ ?_ ?_,q2,fun k' hk' i hi=>?_,fun k' hk'=>?_⟩
   · rw[minv,le,Wd]
     intro z
     rw[List.isEmpty_iff,List.map_eq_nil_iff] at z
     exact he z
   · unfold tR
     refine zME rfl ?_
     unfold jI yC yX
     rw[yL (d:=.int (k:Nat)) (ds:=[.int ((m0:Int)+1)]) ?_ rfl]
     · rfl
     · unfold zZX
       show(if (l.map tO).length<=100000 then(ixE (fun z=>eqN z (.int ((m0:Int)+1))) (l.map tO)).map _ else none)=_
       rw[Qn (by rw[Qo];omega),ik]
       rfl
   · cases ho:lv k' with
     | none=>exact(hlv k' hk').2.1 ho i
     | some m=>exact((hlv k' hk').2.2 m ho).2.2 i (by have:=mn m (mem_l hk' ho);omega)
   · have hk2:k'+1 < ps.length:=by omega
     cases ho:lv k' with
     | none=>exact(hlv k' hk2).2.1 ho m0
     | some m =>
       have ne:m≠m0:=fun z=>lo k' hk' (by rw[←hl,Wq,Tk (by omega),Wy,ho,z])
       exact((hlv k' hk2).2.2 m ho).2.2 m0 (by have:=mn m (mem_l hk2 ho);omega)
end
end My
end
noncomputable section
namespace My
open PySem L2
def rep {α:Type}(f:α->α):Nat->α->α
 | 0,x=>x
 | m+1,x=>rep f m (f x)
theorem zZK {α:Type}(f:α->α):∀(a b:Nat) (x:α),rep f (a+b) x=rep f b (rep f a x)
 | 0,b,x=>by rw[Il];rfl
 | a+1,b,x=>by rw[show a+1+b=(a+b)+1 by omega];exact zZK f a b (f x)
theorem dS {α:Type}(f:α->α)(m:Nat)(x:α):rep f (m+1) x=f (rep f m x):=zZK f m 1 x
section
variable {n:Nat} (hn:n=2∨n=3)
include hn
theorem zPr:∀g∈zI n,∀c∈zO n,rep (zL g) 12 c=c:=by
 rcases hn with rfl | rfl
 · have:∀g∈zI 2,∀c∈zO 2,rep (zL g) 12 c=c:=by decide +kernel
   exact this
 · have:∀g∈zI 3,∀c∈zO 3,rep (zL g) 12 c=c:=by decide +kernel
   exact this
theorem zOQ:∀s∈zI n,∀t∈zI n,(∀c∈zO n,zL s c=zL t c)->s=t:=by
 rcases hn with rfl | rfl
 · have:∀s∈zI 2,∀t∈zI 2,(∀c∈zO 2,zL s c=zL t c)->s=t:=by decide +kernel
   exact this
 · have:∀s∈zI 3,∀t∈zI 3,(∀c∈zO 3,zL s c=zL t c)->s=t:=by decide +kernel
   exact this
variable {ps:List Pt} (ok:PtsOk n ps)
include ok
def wS (ps:List Pt)(d:Nat)(x:Tn×Bool):Tn×Bool:=(yP x.1 (xK ps x.2 d).t,x.2 != (xK ps x.2 d).b)
theorem zRu {d:Nat}(hd:d < ps.length){x:Tn×Bool}(hx:x.1∈zI n):(wS ps d x).1∈zI n:=zRe hn ok hx hd
theorem fA {g:Tn}(hg:g∈zI n):∀(m:Nat) (c:List Int),c∈zO n->rep (zL g) m c∈zO n
 | 0,c,hc=>hc
 | m+1,c,hc=>fA hg m _ (oZ hn g hg c hc)
theorem zVd {d:Nat}(hd:d < ps.length){b:Bool}(hb:(b != (xK ps b d).b)=b):∀(m:Nat) (t:Tn),t∈zI n->(rep (wS ps d) m (t,b)).2=b/\(rep (wS ps d) m (t,b)).1∈zI n/\∀c∈zO n,zL (rep (wS ps d) m (t,b)).1 c=zL t (rep (zL (xK ps b d).t) m c)
 | 0,t,ht=>⟨rfl,ht,fun _ _=>rfl⟩
 | m+1,t,ht=>by
   have pm:=ok.turn _ (rH (b:=b) hd)
   have st:wS ps d (t,b)=(yP t (xK ps b d).t,b):=by unfold wS;rw[hb]
   obtain⟨h1,h2,h3⟩:=zVd hd hb m (yP t (xK ps b d).t) (zRe hn ok ht hd)
   refine⟨?_,?_,fun c hc=>?_⟩
   · show(rep (wS ps d) m (wS ps d (t,b))).2=b
     rw[st];exact h1
   · show(rep (wS ps d) m (wS ps d (t,b))).1∈_
     rw[st];exact h2
   · show zL (rep (wS ps d) m (wS ps d (t,b))).1 c=_
     rw[st,h3 c hc,dD hn ok ht pm (fA hn ok pm m c hc),dS]
theorem zVt {d:Nat}(hd:d < ps.length){b:Bool}(hb:(b != (xK ps b d).b) = !b)(hb':((!b) != (xK ps (!b) d).b)=b):∀(m:Nat) (t:Tn),t∈zI n->(rep (wS ps d) (2*m) (t,b)).2=b/\(rep (wS ps d) (2*m) (t,b)).1∈zI n/\∀c∈zO n,zL (rep (wS ps d) (2*m) (t,b)).1 c=zL t (rep (zL (yP (xK ps b d).t (xK ps (!b) d).t)) m c)
 | 0,t,ht=>⟨rfl,ht,fun _ _=>rfl⟩
 | m+1,t,ht=>by
   have pm:=ok.turn _ (rH (b:=b) hd)
   have pm':=ok.turn _ (rH (b := !b) hd)
   have pp:=uJ hn pm pm'
   have st:wS ps d (wS ps d (t,b))=(yP (yP t (xK ps b d).t) (xK ps (!b) d).t,b):=by
     have s1:wS ps d (t,b)=(yP t (xK ps b d).t,!b):=by unfold wS;rw[hb]
     rw[s1];unfold wS;rw[hb']
   have ht2:=zRe hn ok (b := !b) (zRe hn ok (b:=b) ht hd) hd
   obtain⟨h1,h2,h3⟩:=zVt hd hb hb' m _ ht2
   have e:rep (wS ps d) (2*(m+1)) (t,b)=rep (wS ps d) (2*m) (yP (yP t (xK ps b d).t) (xK ps (!b) d).t,b):=by
     rw[show 2*(m+1)=2+2*m by omega,zZK,←st];rfl
   rw[e]
   refine⟨h1,h2,fun c hc=>?_⟩
   rw[h3 c hc,dD hn ok (zRe hn ok ht hd) pm' (fA hn ok pp m c hc),dD hn ok ht pm (oZ hn _ pm' _ (fA hn ok pp m c hc)),←dD hn ok pm pm' (fA hn ok pp m c hc),dS]
theorem zUI {d:Nat}(hd:d < ps.length){x:Tn×Bool}(hx:x.1∈zI n):rep (wS ps d) 24 (wS ps d x)=wS ps d x:=by
 have hm:=zRu hn ok hd hx
 have two:∀g∈zI n,∀c∈zO n,rep (zL g) 24 c=c:=fun g hg c hc=>by
   rw[show 24=12+12 from rfl,zZK,zPr hn g hg c hc,zPr hn g hg c hc]
 have fin:∀y:Tn×Bool,y.1∈zI n->(y.2 != (xK ps y.2 d).b)=y.2->rep (wS ps d) 24 y=y:=fun y hy hb=>by
   obtain⟨h1,h2,h3⟩:=zVd hn ok hd hb 24 y.1 hy
   refine Prod.ext (zOQ hn _ h2 _ hy fun c hc=>?_) h1
   have:=h3 c hc
   rw[two _ (ok.turn _ (rH (b:=y.2) hd)) c hc] at this
   exact this
 have alt:∀y:Tn×Bool,y.1∈zI n->(y.2 != (xK ps y.2 d).b) = !y.2->((!y.2) != (xK ps (!y.2) d).b)=y.2->rep (wS ps d) 24 y=y:=fun y hy hb hb'=>by
   obtain⟨h1,h2,h3⟩:=zVt hn ok hd hb hb' 12 y.1 hy
   refine Prod.ext (zOQ hn _ h2 _ hy fun c hc=>?_) h1
   have:=h3 c hc
   rw[zPr hn _ (uJ hn (ok.turn _ (rH (b:=y.2) hd)) (ok.turn _ (rH (b := !y.2) hd))) c hc] at this
   exact this
 obtain⟨t,b⟩:=x
 generalize hy:wS ps d (t,b)=y at hm
 have yb:y.2=(b != (xK ps b d).b):=by rw[←hy];rfl
 cases hF:(xK ps false d).b<;>cases hT:(xK ps true d).b<;>cases b
 all_goals rw[show(xK ps _ d).b=_ from by first | exact hF | exact hT] at yb
 all_goals obtain⟨t',b'⟩:=y
 all_goals simp only at yb
 all_goals subst yb
 all_goals first
   | (refine fin _ hm ?_;simp[hF,hT];done)
   | (refine alt _ hm ?_ ?_<;>simp[hF,hT])
theorem zY4 (k i:Nat):∀m,gS ps n (yO ps k (i+m))=rep (wS ps (ps.length - 1)) m (gS ps n (yO ps k i))
 | 0=>rfl
 | m+1=>by
   rw[←Ev,sB,oK,dS,←zY4 k i m]
   rfl
theorem cH (k i:Nat):∀m,gS ps n (yZ k (i+m))=rep (wS ps 0) m (gS ps n (yZ k i))
 | 0=>rfl
 | m+1=>by
   rw[←Ev,tY,oK,dS,←cH k i m]
   rfl
theorem zLe {k:Nat}(hk:k+1 < ps.length)(h:∀i,i < 39->Adj ps n k i):∀i,Adj ps n k i:=by
 have l1:gS ps n (yO ps k 1)=gS ps n (yO ps k 25):=by
   have a:=zY4 hn ok k 0 1
   have b:=zY4 hn ok k 1 24
   rw[show 1+24=25 from rfl,show gS ps n (yO ps k 1)=wS ps (ps.length - 1) (gS ps n (yO ps k 0)) from a,zUI hn ok (by omega) (oS hn ok (mR hn ok hk 0))] at b
   rw[b];exact a
 have l2:gS ps n (yZ k 1)=gS ps n (yZ k 25):=by
   have a:=cH hn ok k 0 1
   have b:=cH hn ok k 1 24
   rw[show 1+24=25 from rfl,show gS ps n (yZ k 1)=wS ps 0 (gS ps n (yZ k 0)) from a,zUI hn ok (by omega) (oS hn ok (pY hn ok hk 0))] at b
   rw[b];exact a
 exact zU9 hn ok hk (show 1 < 25 by decide) ⟨l1,l2⟩ fun j hj=>h j (by omega)
end
end My
end
noncomputable section
namespace My
open PySem L2
def zTh:Option D->Option Bool
 | some (.bl b)=>some b
 | _=>none
theorem zRJ {o:Option D}{b:Bool}(h:zTh o=some b):o=some (.bl b):=by
 unfold zTh at h
 split at h
 · cases h;rfl
 · cases h
def qT (n:Nat)(xs ys:List Int)(i:Nat)(u:Int):Bool:=(List.range n).all fun k=>if k=i then xs.getD k 0==u&&ys.getD k 0 != u else xs.getD k 0==ys.getD k 0
theorem zQJ {n:Nat}(hn:n=2∨n=3):((zO n).all fun xs=>(zO n).all fun ys=>(List.range n).all fun i=>[(0:Int),1].all fun u=>zTh (tZ [yW xs,yW ys,.int (i:Nat),.int u])==some (qT n xs ys i u))=true:=by
 rcases hn with rfl | rfl<;>decide +kernel
theorem zQ3 {n:Nat}(hn:n=2∨n=3){xs ys:List Int}(hx:xs∈zO n)(hy:ys∈zO n){i:Nat}(hi:i < n){u:Int}(hu:u=0∨u=1):tZ [yW xs,yW ys,.int (i:Nat),.int u]=some (.bl (qT n xs ys i u)):=by
 have h:=zQJ hn
 rw[Qh] at h
 have h:=h xs hx
 rw[Qh] at h
 have h:=h ys hy
 rw[Qh] at h
 have h:=h i (Es.mpr hi)
 rw[Qh] at h
 have h:=h u (by rcases hu with rfl | rfl<;>simp)
 exact zRJ (by simpa using h)
def zMI:Option (List D)->Option (List Int)
 | some ds=>jY ds
 | none=>none
theorem zO5 {o:Option (List D)}{ns:List Int}(h:zMI o=some ns):o=some (ns.map .int):=by
 cases o with
 | none=>cases h
 | some ds =>
   have h:jY ds=some ns:=h
   induction ds generalizing ns with
   | nil=>cases h;rfl
   | cons d r ih =>
     cases d with
     | int i =>
       unfold jY at h
       obtain⟨ms,h1,rfl⟩:=Qt.mp h
       have e:=ih h1 h1
       cases e
       rfl
     | _=>cases h
def oM (n:Nat)(xs ys:List Int):List Nat:=(List.range n).filter fun k=>xs.getD k 0 != ys.getD k 0
def zTB (n:Nat)(xs ys:List Int)(i:Nat):Bool:=(ys.getD i 0 - xs.getD i 0==1||ys.getD i 0 - xs.getD i 0 == -1)&&(List.range n).all fun j=>j==i||ys.getD j 0 - xs.getD j 0==0
theorem zTM {n:Nat}(hn:n=2∨n=3):((zO n).all fun xs=>(zO n).all fun ys=>(zMI (sF (gN 0) (eB2 gNe (eIx (eV 1) (eV 0)) (eIx (eV 2) (eV 0))) (eV 0) (vQ 0 n) [.no,.fz (yW xs),.fz (yW ys)] [])==some ((oM n xs ys).map fun(k:Nat)=>(k:Int)))&&match oM n xs ys with
   | [i]=>decide (i < n)&&zTB n xs ys i
   | _=>(List.range n).all fun i => !zTB n xs ys i)=true:=by
 rcases hn with rfl | rfl<;>decide +kernel
theorem zQY {n:Nat}(hn:n=2∨n=3){xs ys:List Int}(hx:xs∈zO n)(hy:ys∈zO n):sF (gN 0) (eB2 gNe (eIx (eV 1) (eV 0)) (eIx (eV 2) (eV 0))) (eV 0) (vQ 0 n) [.no,.fz (yW xs),.fz (yW ys)] []=some (((oM n xs ys).map fun(k:Nat)=>(k:Int)).map .int) /\
   ((∃i,i < n/\oM n xs ys=[i]/\zTB n xs ys i=true)∨((oM n xs ys).length≠1/\∀i,i < n->zTB n xs ys i=false)):=by
 have h:=zTM hn
 rw[Qh] at h
 have h:=h xs hx
 rw[Qh] at h
 have h:=h ys hy
 rw[Qx] at h
 refine⟨zO5 (by simpa using h.1),?_⟩
 have h:=h.2
 split at h
 · rename_i i e
   rw[Qx,Wc] at h
   exact .inl ⟨i,h.1,e,h.2⟩
 · rename_i ne
   refine .inr ⟨fun z=>?_,fun i hi=>?_⟩
   · obtain⟨i,e⟩:=List.length_eq_one_iff.mp z
     exact ne i e
   · rw[Qh] at h
     have:=h i (Es.mpr hi)
     simpa using this
theorem zVm {n:Nat}{xs ys:List Int}{i:Nat}:zTB n xs ys i=true↔(ys.getD i 0 - xs.getD i 0=1∨ys.getD i 0 - xs.getD i 0 = -1)/\∀j,j < n->j≠i->ys.getD j 0 - xs.getD j 0=0:=by
 unfold zTB
 rw[Qx,En,Wm,Wm,Qh]
 constructor
 · rintro⟨h1,h2⟩
   refine⟨h1,fun j hj ne=>?_⟩
   have:=h2 j (Es.mpr hj)
   rw[En,Wm,Wm] at this
   exact this.resolve_left ne
 · rintro⟨h1,h2⟩
   refine⟨h1,fun j hj=>?_⟩
   rw[En,Wm,Wm]
   by_cases z:j=i
   · exact .inl z
   · exact .inr (h2 j (Es.mp hj) z)
theorem zY0 {n:Nat}{xs ys:List Int}{i:Nat}{u:Int}(hi:i < n):qT n xs ys i u=true↔(xs.getD i 0=u/\ys.getD i 0≠u)/\∀j,j < n->j≠i->xs.getD j 0=ys.getD j 0:=by
 unfold qT
 rw[Qh]
 constructor
 · intro h
   refine⟨?_,fun j hj ne=>?_⟩
   · have:=h i (Es.mpr hi)
     rw[Qn rfl,Qx,Wm,bne_iff_ne] at this
     exact this
   · have:=h j (Es.mpr hj)
     rw[Wd ne,Wm] at this
     exact this
 · rintro⟨h1,h2⟩ k hk
   by_cases z:k=i
   · rw[Qn z,Qx,Wm,bne_iff_ne,z];exact h1
   · rw[Wd z,Wm];exact h2 k (Es.mp hk) z
theorem zQO (lo:Int)(c:Nat):vQ lo (c+1) = .int lo::vQ (lo+1) c:=by
 unfold vQ
 rw[Ui,Qg,Tu]
 congr 1
 · simp
 · refine Rv fun i _=>?_
   show D.int (lo+((i+1:Nat):Int))=D.int (lo+1+(i:Nat))
   congr 1
   omega
section
variable {n:Nat} (hn:n=2∨n=3) {ps:List Pt} (ok:PtsOk n ps)
include hn ok
theorem nW {pre:List Nat}(hd:∀d∈pre,d < ps.length){d:Nat}(hk:d < ps.length):xQ [.lst (ps.map zH),stD (gS ps n pre).1 (gS ps n pre).2,.int (d:Nat)]=some (.tup [yW (zL (gS ps n pre).1 (xK ps (gS ps n pre).2 d).c),stD (gS ps n (pre++[d])).1 (gS ps n (pre++[d])).2]):=by
 have e1:=zUR hn ok (oS hn ok hd) (gS ps n pre).2 hk
 rw[zVV hk] at e1
 rw[e1,oK]
 rfl
theorem pX {pre:List Nat}(hd:∀d∈pre,d < ps.length){d:Nat}(hk:d < ps.length):zL (gS ps n pre).1 (xK ps (gS ps n pre).2 d).c∈zO n:=oZ hn _ (oS hn ok hd) _ (zPL hn ok (b:=(gS ps n pre).2) hk)
theorem zZR {c:List Int}(hc:c∈zO n)(i:Nat):c.getD i 0=0∨c.getD i 0=1:=by
 have hl:=wF hn c hc
 by_cases hi:i < n
 · have:∀c∈zO n,∀i,i < n->c.getD i 0=0∨c.getD i 0=1:=by rcases hn with rfl | rfl<;>decide +kernel
   exact this c hc i hi
 · left
   rw[Wo,Em (by omega)];rfl
theorem zRS {k m:Nat}(hk:k+1 < ps.length){i:Nat}(hi:i < n){s u:Int}(hs:(s=1/\u=1)∨(s = -1/\u=0))(h1:dl ps n k m i=s)(h2:∀j,j < n->j≠i->dl ps n k m j=0) :
   (qT n (zL (gS ps n (yO ps k m)).1 (xK ps (gS ps n (yO ps k m)).2 (ps.length - 1)).c) (zL (gS ps n (yZ k m)).1 (xK ps (gS ps n (yZ k m)).2 0).c) i u=true->dl ps n k (m+1) i=s/\∀j,j < n->j≠i->dl ps n k (m+1) j=0) /\
   (qT n (zL (gS ps n (yO ps k m)).1 (xK ps (gS ps n (yO ps k m)).2 (ps.length - 1)).c) (zL (gS ps n (yZ k m)).1 (xK ps (gS ps n (yZ k m)).2 0).c) i u=false->¬Adj ps n k (m+1)):=by
 have hE:=pX hn ok (mR hn ok hk m) (show ps.length - 1 < ps.length by omega)
 have hS:=pX hn ok (pY hn ok hk m) (show 0 < ps.length by omega)
 have dE:∀j,dl ps n k (m+1) j=2*dl ps n k m j+((zL (gS ps n (yZ k m)).1 (xK ps (gS ps n (yZ k m)).2 0).c).getD j 0 - (zL (gS ps n (yO ps k m)).1 (xK ps (gS ps n (yO ps k m)).2 (ps.length - 1)).c).getD j 0):=fun j=>zZN ps n k m j
 generalize zL (gS ps n (yO ps k m)).1 (xK ps (gS ps n (yO ps k m)).2 (ps.length - 1)).c=xs at hE dE ⊢
 generalize zL (gS ps n (yZ k m)).1 (xK ps (gS ps n (yZ k m)).2 0).c=ys at hS dE ⊢
 have bx:=zZR hn ok hE
 have bY:=zZR hn ok hS
 constructor
 · intro hf
   obtain⟨⟨f1,f2⟩,f3⟩:=(zY0 hi).mp hf
   refine⟨?_,fun j hj ne=>?_⟩
   · rw[dE i,h1,f1]
     have:=bY i
     rcases hs with⟨rfl,rfl⟩ | ⟨rfl,rfl⟩
     · omega
     · omega
   · rw[dE j,h2 j hj ne,f3 j hj ne];omega
 · intro hf ha
   obtain⟨i',hi',a1,a2⟩:=ha
   have ei:i'=i:=by
     by_cases z:i'=i
     · exact z
     · have:=a2 i hi (fun y=>z y.symm)
       rw[dE i,h1] at this
       have b1:=bx i
       have b2:=bY i
       rcases hs with⟨rfl,rfl⟩ | ⟨rfl,rfl⟩<;>omega
   subst ei
   have:qT n xs ys i' u=true:=(zY0 hi).mpr (by
     rw[dE i',h1] at a1
     have b1:=bx i'
     have b2:=bY i'
     refine⟨?_,fun j hj ne=>?_⟩
     · rcases hs with⟨rfl,rfl⟩ | ⟨rfl,rfl⟩<;>omega
     · have:=a2 j hj ne
       rw[dE j,h2 j hj ne] at this
       omega)
   rw[hf] at this;cases this
def dI (n:Nat)(ps:List Pt)(k m i:Nat)(x10 x11 x12:B):List B :=
 [.fz (.lst (ps.map zH)),.fz (.int (n:Nat)),.fz (.int (k:Nat)),.fz (.int 40),.fz (.int ((ps.length - 1:Nat):Int)),.fz (yW (gP ps n [k])),.fz (stD (gS ps n (yO ps k m)).1 (gS ps n (yO ps k m)).2),.fz (yW (gP ps n [k+1])),.fz (stD (gS ps n (yZ k m)).1 (gS ps n (yZ k m)).2),.fz (.lst [.int (i:Nat)]),x10,x11,x12]
theorem aN {k:Nat}(hk:k+1 < ps.length){i:Nat}(hi:i < n){s u:Int}(hs:(s=1/\u=1)∨(s = -1/\u=0))(hu:atD (yW (gP ps n [k+1])) (.int (i:Nat))=some (.int u)):∀(c m:Nat) (x10 x11 x12:B),dl ps n k m i=s->(∀j,j < n->j≠i->dl ps n k m j=0)->(∀q,q<=m->Adj ps n k q) ->
   ((∃y10 y11 y12,nD (gN 10) xG (vQ ((m:Int)+2) c) (dI n ps k m i x10 x11 x12)=some (.nx (dI n ps k (m+c) i y10 y11 y12)))/\∀q,q<=m+c->Adj ps n k q)∨∃m',m'<=m+c/\nD (gN 10) xG (vQ ((m:Int)+2) c) (dI n ps k m i x10 x11 x12)=some (.rt (.int ((m':Int)+1)))/\¬Adj ps n k m'/\∀q,q < m'->Adj ps n k q
 | 0,m,x10,x11,x12,_,_,h3=>.inl ⟨⟨x10,x11,x12,rfl⟩,h3⟩
 | c+1,m,x10,x11,x12,h1,h2,h3=>by
   have p1:=nW hn ok (mR hn ok hk m) (show ps.length - 1 < ps.length by omega)
   have p2:=nW hn ok (pY hn ok hk m) (show 0 < ps.length by omega)
   rw[←sB] at p1
   rw[←tY] at p2
   obtain⟨fa,fb⟩:=zRS hn ok hk hi hs h1 h2
   have hE:=pX hn ok (mR hn ok hk m) (show ps.length - 1 < ps.length by omega)
   have hS:=pX hn ok (pY hn ok hk m) (show 0 < ps.length by omega)
   generalize hxs:zL (gS ps n (yO ps k m)).1 (xK ps (gS ps n (yO ps k m)).2 (ps.length - 1)).c=xs at p1 fa fb hE
   generalize hys:zL (gS ps n (yZ k m)).1 (xK ps (gS ps n (yZ k m)).2 0).c=ys at p2 fa fb hS
   have fe:=zQ3 hn hE hS hi (u:=u) (by rcases hs with⟨_,rfl⟩ | ⟨_,rfl⟩<;>simp)
   rw[zQO]
   have body:xG (dI n ps k m i (.fz (.int ((m:Int)+2))) x11 x12)=if qT n xs ys i u=true then some (.nx (dI n ps k (m+1) i (.fz (.int ((m:Int)+2))) (.fz (yW xs)) (.fz (yW ys)))) else some (.rt (.int ((m:Int)+2))):=by
     unfold xG
     rw[yT (ρ':=[.fz (.lst (ps.map zH)),.fz (.int (n:Nat)),.fz (.int (k:Nat)),.fz (.int 40),.fz (.int ((ps.length - 1:Nat):Int)),.fz (yW (gP ps n [k])),.fz (stD (gS ps n (yO ps k (m+1))).1 (gS ps n (yO ps k (m+1))).2),.fz (yW (gP ps n [k+1])),.fz (stD (gS ps n (yZ k m)).1 (gS ps n (yZ k m)).2),.fz (.lst [.int (i:Nat)]),.fz (.int ((m:Int)+2)),.fz (yW xs),x12]) (by
       unfold uU
       rw[show zM 3 xQ (zY (eV 0) (zY (eV 6) (zY (eV 4) zR))) (dI n ps k m i (.fz (.int ((m:Int)+2))) x11 x12)=_ from(jZ rfl rfl rfl).trans p1]
       rfl)]
     unfold pV
     rw[yT (ρ':=dI n ps k (m+1) i (.fz (.int ((m:Int)+2))) (.fz (yW xs)) (.fz (yW ys))) (by
       unfold uU
       rw[show zM 3 xQ (zY (eV 0) (zY (eV 8) (zY (eC (.int 0)) zR))) [.fz (.lst (ps.map zH)),.fz (.int (n:Nat)),.fz (.int (k:Nat)),.fz (.int 40),.fz (.int ((ps.length - 1:Nat):Int)),.fz (yW (gP ps n [k])),.fz (stD (gS ps n (yO ps k (m+1))).1 (gS ps n (yO ps k (m+1))).2),.fz (yW (gP ps n [k+1])),.fz (stD (gS ps n (yZ k m)).1 (gS ps n (yZ k m)).2),.fz (.lst [.int (i:Nat)]),.fz (.int ((m:Int)+2)),.fz (yW xs),x12]=_ from(jZ rfl rfl rfl).trans p2]
       rfl)]
     unfold jC
     have e:zM 4 tZ (zY (eV 11) (zY (eV 12) (zY (eIx (eV 9) (eC (.int 0))) (zY (eIx (eV 7) (eIx (eV 9) (eC (.int 0)))) zR)))) (dI n ps k (m+1) i (.fz (.int ((m:Int)+2))) (.fz (yW xs)) (.fz (yW ys)))=some (.bl (qT n xs ys i u)):=(zMV (z:=.int (i:Nat)) (u:=.int u) rfl rfl rfl (by
       unfold eIx
       show atD (yW (gP ps n [k+1])) (.int (i:Nat))=_
       exact hu)).trans fe
     have e':vM (tB1 (zM 4 tZ (zY (eV 11) (zY (eV 12) (zY (eIx (eV 9) (eC (.int 0))) (zY (eIx (eV 7) (eIx (eV 9) (eC (.int 0)))) zR)))))) (dI n ps k (m+1) i (.fz (.int ((m:Int)+2))) (.fz (yW xs)) (.fz (yW ys)))=some (!qT n xs ys i u):=by
       unfold vM tB1;rw[e];rfl
     rw[vK e']
     cases qT n xs ys i u<;>rfl
   have gn:gN 10 (.int ((m:Int)+2)) (dI n ps k m i x10 x11 x12)=some (dI n ps k m i (.fz (.int ((m:Int)+2))) x11 x12):=rfl
   cases hf:qT n xs ys i u with
   | true =>
     rw[hf,Qn rfl] at body
     obtain⟨d1,d2⟩:=fa hf
     have a1:Adj ps n k (m+1):=⟨i,hi,by rw[d1];rcases hs with⟨rfl,_⟩ | ⟨rfl,_⟩<;>simp,d2⟩
     rw[iM gn body,show(m:Int)+2+1=((m+1:Nat):Int)+2 by omega,show m+(c+1)=m+1+c by omega]
     exact aN hk hi hs hu c (m+1) _ _ _ d1 d2 fun q hq=>by
       by_cases z:q=m+1
       · rw[z];exact a1
       · exact h3 q (by omega)
   | false =>
     rw[hf,Wd (by decide)] at body
     refine .inr ⟨m+1,by omega,?_,fb hf,fun q hq=>h3 q (by omega)⟩
     unfold nD
     rw[gn,Qe,body]
     show some (Out.rt (.int ((m:Int)+2)))=some (Out.rt (.int (((m+1:Nat):Int)+1)))
     rw[show(m:Int)+2=((m+1:Nat):Int)+1 by omega]
theorem zTX {k:Nat}(hk:k+1 < ps.length):(vZ [.lst (ps.map zH),.int (n:Nat),.int (k:Nat),.int 40]=some .non/\∀i,Adj ps n k i)∨∃m:Nat,m < 39/\vZ [.lst (ps.map zH),.int (n:Nat),.int (k:Nat),.int 40]=some (.int ((m:Int)+1))/\¬Adj ps n k m/\∀i,i < m->Adj ps n k i:=by
 have e0:oA [.int (n:Nat)]=some (stD (wB n) false):=by rcases hn with rfl | rfl<;>kernel_rfl
 have p1:=nW hn ok (pre:=[]) (by simp) (show k < ps.length by omega)
 have p2:=nW hn ok (pre:=[]) (by simp) hk
 have c1:=pX hn ok (pre:=[]) (by simp) (show k < ps.length by omega)
 have c2:=pX hn ok (pre:=[]) (by simp) hk
 rw[qG hn ok (show k < ps.length by omega)] at p1 c1
 rw[qG hn ok hk] at p2 c2
 have d0:∀i,i < n->dl ps n k 0 i=(gP ps n [k+1]).getD i 0 - (gP ps n [k]).getD i 0:=fun i hi=>by
   unfold gP dl
   rw[Wo,Wo,Wq,Wq,Tk hi]
   rfl
 obtain⟨ue,uc⟩:=zQY hn c1 c2
 have n9:(n:Int)<=3:=by rcases hn with rfl | rfl<;>decide
 have comp:∀x6 x8 x9 x10 x11 x12:B,xY (iR (eV 1)) 1 [5,7] (gN 0) (eB2 gNe (eIx (eV 1) (eV 0)) (eIx (eV 2) (eV 0))) (eV 0) [.fz (.lst (ps.map zH)),.fz (.int (n:Nat)),.fz (.int (k:Nat)),.fz (.int 40),.fz (.int ((ps.length - 1:Nat):Int)),.fz (yW (gP ps n [k])),x6,.fz (yW (gP ps n [k+1])),x8,x9,x10,x11,x12]=some (((oM n (gP ps n [k]) (gP ps n [k+1])).map fun(k:Nat)=>(k:Int)).map .int):=fun x6 x8 x9 x10 x11 x12=>by
   unfold xY
   rw[show iR (eV 1) [.fz (.lst (ps.map zH)),.fz (.int (n:Nat)),.fz (.int (k:Nat)),.fz (.int 40),.fz (.int ((ps.length - 1:Nat):Int)),.fz (yW (gP ps n [k])),x6,.fz (yW (gP ps n [k+1])),x8,x9,x10,x11,x12]=some (vQ 0 n) from by
     show(if decide (-1000000<=(n:Int))&&decide ((n:Int)<=1000000) then some (vQ 0 ((n:Nat):Int).toNat) else none)=_
     rw[Qc (by omega),Qc (by omega),Rt];rfl,Qe,fQ (by rw[zZ4];omega),Qe]
   exact ue
 have go:∀r,(uG [.fz (.lst (ps.map zH)),.fz (.int (n:Nat)),.fz (.int (k:Nat)),.fz (.int 40),.fz (.int ((ps.length - 1:Nat):Int)),.fz (yW (gP ps n [k])),.fz (stD (gS ps n [k]).1 (gS ps n [k]).2),.fz (yW (gP ps n [k+1])),.fz (stD (gS ps n [k+1]).1 (gS ps n [k+1]).2),.ow (((oM n (gP ps n [k]) (gP ps n [k+1])).map fun(k:Nat)=>(k:Int)).map .int),.no,.no,.no]).bind wA=r->vZ [.lst (ps.map zH),.int (n:Nat),.int (k:Nat),.int 40]=r:=fun r h=>by
   show(rN [.fz (.lst (ps.map zH)),.fz (.int (n:Nat)),.fz (.int (k:Nat)),.fz (.int 40),.no,.no,.no,.no,.no,.no,.no,.no,.no]).bind wA=_
   unfold rN
   refine cI (d:=.int ((ps.length - 1:Nat):Int)) (by
     rw[show((ps.length - 1:Nat):Int)=(ps.length:Int) - 1 by omega]
     refine wK ?_ rfl rfl
     show some (D.int ((ps.map zH).length:Nat))=_
     rw[Qo]) ?_
   unfold nG
   refine xF (ρ':=[.fz (.lst (ps.map zH)),.fz (.int (n:Nat)),.fz (.int (k:Nat)),.fz (.int 40),.fz (.int ((ps.length - 1:Nat):Int)),.fz (yW (gP ps n [k])),.fz (stD (gS ps n [k]).1 (gS ps n [k]).2),.no,.no,.no,.no,.no,.no]) (by
     unfold uU
     rw[jZ rfl ((uA rfl).trans e0) rfl,show xQ [.lst (ps.map zH),stD (wB n) false,.int (k:Nat)]=_ from p1]
     rfl) ?_
   unfold mS
   refine xF (ρ':=[.fz (.lst (ps.map zH)),.fz (.int (n:Nat)),.fz (.int (k:Nat)),.fz (.int 40),.fz (.int ((ps.length - 1:Nat):Int)),.fz (yW (gP ps n [k])),.fz (stD (gS ps n [k]).1 (gS ps n [k]).2),.fz (yW (gP ps n [k+1])),.fz (stD (gS ps n [k+1]).1 (gS ps n [k+1]).2),.no,.no,.no,.no]) (by
     unfold uU
     rw[jZ (z:=.int ((k+1:Nat):Nat)) rfl ((uA rfl).trans e0) (by rw[show((k+1:Nat):Int)=(k:Int)+1 by omega];exact wK rfl rfl rfl),show xQ [.lst (ps.map zH),stD (wB n) false,.int ((k+1:Nat):Nat)]=_ from p2]
     rfl) ?_
   unfold nB
   exact xF (by unfold tV;rw[comp];rfl) h
 rcases uc with⟨i,hi,ei,ai⟩ | ⟨ul,an⟩
 · obtain⟨a1,a2⟩:=zVm.mp ai
   rw[ei] at go
   have b1:=zZR hn ok c1 i
   have b2:=zZR hn ok c2 i
   obtain⟨s,u,hs,hsd,hu⟩:∃s u:Int,((s=1/\u=1)∨(s = -1/\u=0))/\dl ps n k 0 i=s/\(gP ps n [k+1]).getD i 0=u:=by
     refine⟨_,_,?_,rfl,rfl⟩
     rw[d0 i hi]
     rcases a1 with z | z
     · left;omega
     · right;omega
   have hz:∀j,j < n->j≠i->dl ps n k 0 j=0:=fun j hj ne=>by rw[d0 j hj];exact a2 j hj ne
   have ad0:Adj ps n k 0:=⟨i,hi,by rw[hsd];rcases hs with⟨rfl,_⟩ | ⟨rfl,_⟩<;>simp,hz⟩
   have hat:atD (yW (gP ps n [k+1])) (.int (i:Nat))=some (.int u):=by
     show atI ((gP ps n [k+1]).map D.int) (i:Int)=_
     have hl:=wF hn _ c2
     rw[iK,dN (gP ps n [k+1]) (i:Int) 0 (by omega) (by omega),Rt,hu];rfl
   have lp:=aN hn ok hk hi hs hat 38 0 .no .no .no hsd hz (fun q hq=>by rw[show q=0 by omega];exact ad0)
   have fr:iR2 (eC (.int 2)) (eV 3) (dI n ps k 0 i .no .no .no)=some (vQ ((0:Nat)+2) 38):=rfl
   have st:∀o r,nD (gN 10) xG (vQ (((0:Nat):Int)+2) 38) (dI n ps k 0 i .no .no .no)=some o->((zJ (fun _=>some o) gX) []).bind wA=r->vZ [.lst (ps.map zH),.int (n:Nat),.int (k:Nat),.int 40]=r:=fun o r h1 h2=>by
     refine go r ?_
     unfold uG
     refine zME rfl ?_
     unfold mW
     have e:fL 9 (qP (iR2 (eC (.int 2)) (eV 3)) (gN 10) xG) [.fz (.lst (ps.map zH)),.fz (.int (n:Nat)),.fz (.int (k:Nat)),.fz (.int 40),.fz (.int ((ps.length - 1:Nat):Int)),.fz (yW (gP ps n [k])),.fz (stD (gS ps n [k]).1 (gS ps n [k]).2),.fz (yW (gP ps n [k+1])),.fz (stD (gS ps n [k+1]).1 (gS ps n [k+1]).2),.ow [.int (i:Nat)],.no,.no,.no]=some o:=by
       unfold fL
       show qP (iR2 (eC (.int 2)) (eV 3)) (gN 10) xG (dI n ps k 0 i .no .no .no)=_
       unfold qP
       rw[fr,Qe]
       exact h1
     unfold zJ at h2 ⊢
     rw[show(List.map D.int (List.map (fun(k:Nat)=>(k:Int)) [i]))=[.int (i:Nat)] from rfl,e]
     rw[Qe] at h2
     cases o<;>exact h2
   rcases lp with⟨⟨y10,y11,y12,q1⟩,q2⟩ | ⟨m',q1,q2,q3,q4⟩
   · exact .inl ⟨st _ _ q1 rfl,zLe hn ok hk fun q hq=>q2 q (by omega)⟩
   · exact .inr ⟨m',by omega,st _ _ q2 rfl,q3,q4⟩
 · refine .inr ⟨0,by decide,go _ ?_,fun ha=>?_,fun i hi=>absurd hi (Tx i)⟩
   · unfold uG
     rw[zWJ (d:=.int 1) (by
       refine(vK (b:=true) ?_).trans rfl
       show some (!decide (((List.map D.int (List.map (fun(k:Nat)=>(k:Int)) (oM n (gP ps n [k]) (gP ps n [k+1])))).length:Int)=1))=_
       rw[Qo,Qo,Qv (by omega)];rfl)]
     rfl
   · obtain⟨i,hi,a1,a2⟩:=ha
     have:zTB n (gP ps n [k]) (gP ps n [k+1]) i=true:=zVm.mpr ⟨by rw[←d0 i hi];exact a1,fun j hj ne=>by rw[←d0 j hj];exact a2 j hj ne⟩
     rw[an i hi] at this;cases this
end
end My
end
namespace My
open PySem L2
def zNQ (c:List Int):Str:=⟨(c.map fun i=>if i=1 then 49 else 48).toArray⟩
def zKR (t:Tn):Str:=⟨(t.flatMap fun p=>[if p.2=1 then 45 else 43,if p.1=0 then 120 else if p.1=1 then 121 else 122]).toArray⟩
def vS (p:Pt):List Str:="part"::zNQ p.c::zKR p.t::(if p.b=true then ["back"] else [])
def wW (p:Pt):Str:=Str.join " " (vS p)
def prs (n:Nat):List (List Int×Tn):=(zO n).flatMap fun c=>(zI n).map fun t=>(c,t)
theorem oB {n:Nat}{c:List Int}{t:Tn}(hc:c∈zO n)(ht:t∈zI n):(c,t)∈prs n:=Yt.mpr ⟨c,hc,Wg.mpr ⟨t,ht,rfl⟩⟩
def wY (k:Nat):List (List Int×Tn):=(((zO 3).drop (2*k)).take 2).flatMap fun c=>(zI 3).map fun t=>(c,t)
theorem zXE:prs 3=wY 0++wY 1++wY 2++wY 3:=by kernel_rfl
theorem zOd {β:Type}{f g:List Int×Tn->β}(h0:(wY 0).map f=(wY 0).map g)(h1:(wY 1).map f=(wY 1).map g)(h2:(wY 2).map f=(wY 2).map g)(h3:(wY 3).map f=(wY 3).map g):(prs 3).map f=(prs 3).map g:=by
 rw[zXE,Wb,Wb,Wb,Wb,Wb,Wb,h0,h1,h2,h3]
theorem cF {α β:Type}{f g:α->β}{l:List α}(h:l.map f=l.map g){x:α}(hx:x∈l):f x=g x:=List.map_inj_left.mp h x hx
theorem zKV (r:Int)(b:Bool):b=true∨b=false->(prs 2).map (fun q=>xR [.lst ((vS ⟨q.1,q.2,b⟩).map .str),.int 2,.int r])=(prs 2).map fun q=>some (yS ⟨q.1,q.2,b⟩):=by
 rintro(rfl | rfl)<;>kernel_rfl
theorem zNK (r:Int):(wY 0).map (fun q=>xR [.lst ((vS ⟨q.1,q.2,true⟩).map .str),.int 3,.int r])=(wY 0).map (fun q=>some (yS ⟨q.1,q.2,true⟩)):=by kernel_rfl
theorem zNy (r:Int):(wY 1).map (fun q=>xR [.lst ((vS ⟨q.1,q.2,true⟩).map .str),.int 3,.int r])=(wY 1).map (fun q=>some (yS ⟨q.1,q.2,true⟩)):=by kernel_rfl
theorem zNT (r:Int):(wY 2).map (fun q=>xR [.lst ((vS ⟨q.1,q.2,true⟩).map .str),.int 3,.int r])=(wY 2).map (fun q=>some (yS ⟨q.1,q.2,true⟩)):=by kernel_rfl
theorem zOc (r:Int):(wY 3).map (fun q=>xR [.lst ((vS ⟨q.1,q.2,true⟩).map .str),.int 3,.int r])=(wY 3).map (fun q=>some (yS ⟨q.1,q.2,true⟩)):=by kernel_rfl
theorem zOg (r:Int):(wY 0).map (fun q=>xR [.lst ((vS ⟨q.1,q.2,false⟩).map .str),.int 3,.int r])=(wY 0).map (fun q=>some (yS ⟨q.1,q.2,false⟩)):=by kernel_rfl
theorem zNG (r:Int):(wY 1).map (fun q=>xR [.lst ((vS ⟨q.1,q.2,false⟩).map .str),.int 3,.int r])=(wY 1).map (fun q=>some (yS ⟨q.1,q.2,false⟩)):=by kernel_rfl
theorem zNf (r:Int):(wY 2).map (fun q=>xR [.lst ((vS ⟨q.1,q.2,false⟩).map .str),.int 3,.int r])=(wY 2).map (fun q=>some (yS ⟨q.1,q.2,false⟩)):=by kernel_rfl
theorem zOo (r:Int):(wY 3).map (fun q=>xR [.lst ((vS ⟨q.1,q.2,false⟩).map .str),.int 3,.int r])=(wY 3).map (fun q=>some (yS ⟨q.1,q.2,false⟩)):=by kernel_rfl
theorem zKO (r:Int)(b:Bool):b=true∨b=false->(prs 3).map (fun q=>xR [.lst ((vS ⟨q.1,q.2,b⟩).map .str),.int 3,.int r])=(prs 3).map (fun q=>some (yS ⟨q.1,q.2,b⟩)):=by
 rintro(rfl | rfl)
 · exact zOd (zNK r) (zNy r) (zNT r) (zOc r)
 · exact zOd (zOg r) (zNG r) (zNf r) (zOo r)
theorem zMX:(" ":Str)=⟨#[32]⟩:=by decide +kernel
theorem zMF:("\n":Str)=⟨#[10]⟩:=by decide +kernel
def vF (p:Pt):Bool:=decide ((wW p).length<=30) && !(wW p).cps.toList.contains 10&&(vS p).all fun w => !w.cps.toList.contains 32
theorem zJL:((prs 2).all fun q=>vF ⟨q.1,q.2,true⟩&&vF ⟨q.1,q.2,false⟩)=true:=by kernel_rfl
theorem zL8:((wY 0).all fun q=>vF ⟨q.1,q.2,true⟩)=true:=by kernel_rfl
theorem zLV:((wY 1).all fun q=>vF ⟨q.1,q.2,true⟩)=true:=by kernel_rfl
theorem zMB:((wY 2).all fun q=>vF ⟨q.1,q.2,true⟩)=true:=by kernel_rfl
theorem zMa:((wY 3).all fun q=>vF ⟨q.1,q.2,true⟩)=true:=by kernel_rfl
theorem zLN:((wY 0).all fun q=>vF ⟨q.1,q.2,false⟩)=true:=by kernel_rfl
theorem zM3:((wY 1).all fun q=>vF ⟨q.1,q.2,false⟩)=true:=by kernel_rfl
theorem zLt:((wY 2).all fun q=>vF ⟨q.1,q.2,false⟩)=true:=by kernel_rfl
theorem zMy:((wY 3).all fun q=>vF ⟨q.1,q.2,false⟩)=true:=by kernel_rfl
theorem zJP:((prs 3).all fun q=>vF ⟨q.1,q.2,true⟩&&vF ⟨q.1,q.2,false⟩)=true:=by
 refine Qh.mpr fun q hq=>?_
 rw[zXE,Eh,Eh,Eh] at hq
 rw[Ee]
 rcases hq with((hq | hq) | hq) | hq
 · exact⟨Qh.mp zL8 q hq,Qh.mp zLN q hq⟩
 · exact⟨Qh.mp zLV q hq,Qh.mp zM3 q hq⟩
 · exact⟨Qh.mp zMB q hq,Qh.mp zLt q hq⟩
 · exact⟨Qh.mp zMa q hq,Qh.mp zMy q hq⟩
section
variable {n:Nat} (hn:n=2∨n=3)
include hn
theorem zVR (p:Pt)(hc:p.c∈zO n)(ht:p.t∈zI n):vF p=true:=by
 obtain⟨c,t,b⟩:=p
 have h:(vF ⟨c,t,true⟩&&vF ⟨c,t,false⟩)=true:=by
   rcases hn with rfl | rfl
   · have h:=Qh.mp zJL _ (oB hc ht);exact h
   · have h:=Qh.mp zJP _ (oB hc ht);exact h
 have h:=Ee.mp h
 cases b with
 | true=>exact h.1
 | false=>exact h.2
theorem zSq (p:Pt)(hc:p.c∈zO n)(ht:p.t∈zI n):(wW p).length<=30:=by
 have h:=zVR hn p hc ht
 unfold vF at h
 rw[Ee,Ee] at h
 exact Ru h.1.1
theorem zUh (p:Pt)(hc:p.c∈zO n)(ht:p.t∈zI n):mX 10 (wW p):=by
 have h:=zVR hn p hc ht
 unfold vF at h
 rw[Ee,Ee] at h
 have h:=h.1.2
 intro z
 rw[Ug.mpr z] at h
 exact absurd h (by decide)
theorem zQI (p:Pt)(hc:p.c∈zO n)(ht:p.t∈zI n):gE (.str (wW p)) (.str " ")=some ((vS p).map .str):=by
 have h:=zVR hn p hc ht
 unfold vF at h
 rw[Ee,Ee] at h
 have hw:∀w∈vS p,mX 32 w:=fun w hw z=>by
   have q:=Qh.mp h.2 w hw
   rw[Ug.mpr z] at q
   exact absurd q (by decide)
 have e:Txt.split (wW p) ⟨#[32]⟩=vS p:=by
   unfold wW
   rw[zMX]
   exact zZp 32 (vS p) hw (by unfold vS;exact Uu _ _)
 have hl:=Ru h.1.1
 rw[zMX]
 show(if 1<=(⟨#[32]⟩:Str).length/\(wW p).length<=100000 then some ((Txt.split (wW p) ⟨#[32]⟩).map D.str) else none)=_
 rw[Qn ⟨Ql 1,by omega⟩,e]
end
theorem zVD (R:List Str)(i:Nat)(z:Str)(ws:List D)(hz:R[i]?=some z)(hs:gE (.str z) (.str " ")=some ws):uD [.lst (R.map .str),.int ((i:Int)+1)]=some ws:=by
 have hi:i < R.length:=by
   rcases Nat.lt_or_ge i R.length with h | h
   · exact h
   · rw[Em h] at hz;cases hz
 show(qB [.fz (.lst (R.map .str)),.fz (.int ((i:Int)+1))]).bind zZD=some ws
 unfold qB
 have t:eB2 gGt (eV 1) (wT (eV 0)) [.fz (.lst (R.map .str)),.fz (.int ((i:Int)+1))]=some (decide ((((R.map D.str).length:Nat):Int) < (i:Int)+1)):=rfl
 rw[yT (ρ':=[.fz (.lst (R.map .str)),.fz (.int ((i:Int)+1))]) ((vK t).trans (by rw[Qo,Qv (by omega)];rfl))]
 unfold dY sL jT
 have e1:rF (eV 1) (eC (.int 1)) [.fz (.lst (R.map .str)),.fz (.int ((i:Int)+1))]=some (.int (i:Int)):=by
   refine(wK (i:=(i:Int)+1) (j:=1) rfl rfl rfl).trans ?_
   show some (D.int ((i:Int)+1 - 1))=_
   rw[show(i:Int)+1 - 1=i from by omega]
 have e2:eIx (eV 0) (rF (eV 1) (eC (.int 1))) [.fz (.lst (R.map .str)),.fz (.int ((i:Int)+1))]=some (.str z):=by
   unfold eIx
   rw[e1]
   show atI (R.map D.str) (i:Int)=_
   unfold atI
   rw[Qo]
   have:ixN R.length (i:Int)=some i:=by unfold ixN;rw[Qn (by omega),Qn (by omega)];rfl
   rw[this]
   show(R.map D.str)[i]?=_
   rw[Wq,hz];rfl
 rw[e2]
 show(((gE (.str z) (.str " "))).map Out.rl).bind zZD=_
 rw[hs]
 rfl
def kC (xs:List Int):KT:=.tup (xs.map .int)
theorem zXj (n:Nat):∀xs:List Int,bL (ktD n) (xs.map .int)=some (xs.map .int)
 | []=>rfl
 | x::r=>by
   have e:ktD n (.int x)=some (.int x):=by cases n<;>rfl
   rw[Qg,bL,e,zXj n r]
   rfl
theorem zPf (xs:List Int):zPV (yW xs)=some (kC xs):=by
 show(bL (ktD 7) (xs.map .int)).map KT.tup=_
 rw[zXj]
 rfl
theorem zKk (xs:List Int):ktD 8 (yW xs)=some (kC xs):=zPf xs
theorem zLY {xs ys:List Int}(h:kC xs=kC ys):xs=ys:=by
 unfold kC at h
 injection h with h
 exact(List.map_inj_right (fun a b e=>by injection e)).mp h
def vT (ps:List Pt):List (D×D):=ps.map fun p=>(yW p.c,.bl true)
theorem zQR (ps:List Pt):(vT ps).map (fun p=>ktD 8 p.1)=ps.map fun p=>some (kC p.c):=by
 unfold vT
 rw[Tu]
 exact Rv fun p _=>zKk p.c
theorem zVC {ps:List Pt}{c:List Int}(h:c∉ps.map (·.c)):some (kC c)∉(vT ps).map fun p=>ktD 8 p.1:=by
 rw[zQR]
 intro z
 obtain⟨p,hp,e⟩:=Wg.mp z
 exact h (Wg.mpr ⟨p,hp,zLY (Wa e)⟩)
section
variable {n:Nat} (hn:n=2∨n=3)
include hn
theorem zNp (p:Pt)(hc:p.c∈zO n)(ht:p.t∈zI n)(r:Int):xR [.lst ((vS p).map .str),.int n,.int r]=some (yS p):=by
 obtain⟨c,t,b⟩:=p
 have hb:b=true∨b=false:=by cases b<;>simp
 rcases hn with rfl | rfl
 · have h:=cF (zKV r b hb) (oB hc ht);exact h
 · have h:=cF (zKO r b hb) (oB hc ht);exact h
theorem zR7 (R:List Str)(i:Nat)(p:Pt)(hc:p.c∈zO n)(ht:p.t∈zI n)(hz:R[i]?=some (wW p))(acc:List Pt)(ha:acc.length<=100)(hnew:p.c∉acc.map (·.c))(a b:D)(x7:B) :
   vO [.fz (.lst (R.map .str)),.fz a,.fz b,.fz (.int n),.ow (acc.map yS),.od (vT acc),.fz (.int ((i:Int)+1)),x7] =
     some (.nx [.fz (.lst (R.map .str)),.fz a,.fz b,.fz (.int n),.ow ((acc++[p]).map yS),.od (vT (acc++[p])),.fz (.int ((i:Int)+1)),.fz (yS p)]):=by
 have hw:=zVD R i _ _ hz (zQI hn p hc ht)
 have h1:zM 3 xR (zY (eL (vY 2 uD (zY (eV 0) (zY (eV 6) zR)))) (zY (eV 3) (zY (eV 6) zR))) [.fz (.lst (R.map .str)),.fz a,.fz b,.fz (.int n),.ow (acc.map yS),.od (vT acc),.fz (.int ((i:Int)+1)),x7]=some (yS p):=by
   refine(jZ (x:=.lst ((vS p).map .str)) (y:=.int n) (z:=.int ((i:Int)+1)) ?_ rfl rfl).trans (zNp hn p hc ht _)
   unfold eL
   rw[fM rfl rfl,hw]
   rfl
 have hf:∀ρ:List B,eV 7 ρ=some (yS p)->xE "Part" "corner" (eV 7) ρ=some (yW p.c):=fun ρ h=>zUD ρ (eV 7) p h
 unfold vO
 rw[uN h1]
 dsimp only[List.set]
 unfold qR
 have t:zWg 5 (xE "Part" "corner" (eV 7)) [.fz (.lst (R.map .str)),.fz a,.fz b,.fz (.int n),.ow (acc.map yS),.od (vT acc),.fz (.int ((i:Int)+1)),.fz (yS p)]=some false:=by
   unfold zWg
   rw[hf _ rfl,Qe,zPf,Qe]
   show some (decide (some (kC p.c)∈(vT acc).map fun p=>ktD 8 p.1))=_
   rw[Qv (zVC hnew)]
 rw[yT (ρ':=[.fz (.lst (R.map .str)),.fz a,.fz b,.fz (.int n),.ow (acc.map yS),.od (vT acc),.fz (.int ((i:Int)+1)),.fz (yS p)]) ((vK t).trans rfl)]
 unfold qV
 rw[yT (ρ':=[.fz (.lst (R.map .str)),.fz a,.fz b,.fz (.int n),.ow (acc.map yS),.od (vT (acc++[p])),.fz (.int ((i:Int)+1)),.fz (yS p)])]
 · unfold kQ
   rw[zT7 (d:=yS p) (ds:=acc.map yS) rfl rfl (by rw[Qo];omega)]
   rw[Wb,Qg,Rs]
   rfl
 · unfold aL
   rw[show eC (.bl true) _=some (D.bl true) from rfl,Qe,hf _ rfl,Qe,zPf,Qe]
   show(if (vT acc).length<=lim/\_ then _ else none)=_
   rw[Qn]
   · unfold vT
     rw[Wb]
     rfl
   · refine⟨?_,?_,?_⟩
     · unfold vT;rw[Qo];show acc.length<=100000;omega
     · rfl
     · exact zVC hnew
theorem zWT (R:List Str)(a b:D):∀(r acc:List Pt) (k:Nat) (x6 x7:B),(∀(i:Nat) (p:Pt),r[i]?=some p->R[k+i]?=some (wW p))->(∀p∈r,p.c∈zO n/\p.t∈zI n)->((acc++r).map (·.c)).Nodup->acc.length+r.length<=100 ->
   ∃y6 y7,nD (gN 6) vO ((List.range r.length).map fun(i:Nat)=>D.int (((k+i:Nat):Int)+1)) [.fz (.lst (R.map .str)),.fz a,.fz b,.fz (.int n),.ow (acc.map yS),.od (vT acc),x6,x7] =
     some (.nx [.fz (.lst (R.map .str)),.fz a,.fz b,.fz (.int n),.ow ((acc++r).map yS),.od (vT (acc++r)),y6,y7])
 | [],acc,k,x6,x7,_,_,_,_=>⟨x6,x7,by rw[Ek,List.range_zero,Rs,Wh,nD]⟩
 | p::r,acc,k,x6,x7,hR,ok,nd,hl=>by
   rw[Qp] at hl
   have hp:=ok p Qf
   have hnew:p.c∉acc.map (·.c):=by
     rw[Wb,Qg] at nd
     intro z
     exact(Ye.mp nd).2.2 _ z _ Qf rfl
   have s:=zR7 hn R k p hp.1 hp.2 (by have h:=hR 0 p rfl;exact h) acc (by omega) hnew a b x7
   obtain⟨y6,y7,e⟩:=zWT R a b r (acc++[p]) (k+1) (.fz (.int ((k:Int)+1))) (.fz (yS p)) (fun i q hq=>by have h:=hR (i+1) q hq;rw[show k+1+i=k+(i+1) from by omega];exact h) (fun q hq=>ok q (Qd _ hq)) (by rw[Yq,List.singleton_append];exact nd) (by rw[Wr,Ud];omega)
   refine⟨y6,y7,?_⟩
   rw[Qp,Ui,Qg,Tu]
   rw[iM (ρ1:=[.fz (.lst (R.map .str)),.fz a,.fz b,.fz (.int n),.ow (acc.map yS),.od (vT acc),.fz (.int ((k:Int)+1)),x7]) rfl s]
   rw[Yq,List.singleton_append] at e
   rw[←e]
   congr 1
   refine Rv fun i _=>?_
   show D.int (((k+(i+1):Nat):Int)+1)=D.int (((k+1+i:Nat):Int)+1)
   rw[show k+1+i=k+(i+1) from by omega]
end
theorem zJN:(prs 2).map (fun q=>xW [yS ⟨q.1,q.2,true⟩])=(prs 2).map (fun q=>some (D.str (wW ⟨q.1,q.2,true⟩))):=by kernel_rfl
theorem zMt:(wY 0).map (fun q=>xW [yS ⟨q.1,q.2,true⟩])=(wY 0).map (fun q=>some (D.str (wW ⟨q.1,q.2,true⟩))):=by kernel_rfl
theorem zLA:(wY 1).map (fun q=>xW [yS ⟨q.1,q.2,true⟩])=(wY 1).map (fun q=>some (D.str (wW ⟨q.1,q.2,true⟩))):=by kernel_rfl
theorem zLu:(wY 2).map (fun q=>xW [yS ⟨q.1,q.2,true⟩])=(wY 2).map (fun q=>some (D.str (wW ⟨q.1,q.2,true⟩))):=by kernel_rfl
theorem zMf:(wY 3).map (fun q=>xW [yS ⟨q.1,q.2,true⟩])=(wY 3).map (fun q=>some (D.str (wW ⟨q.1,q.2,true⟩))):=by kernel_rfl
theorem zKb:(prs 3).map (fun q=>xW [yS ⟨q.1,q.2,true⟩])=(prs 3).map (fun q=>some (D.str (wW ⟨q.1,q.2,true⟩))):=zOd zMt zLA zLu zMf
theorem zJV:(prs 2).map (fun q=>xW [yS ⟨q.1,q.2,false⟩])=(prs 2).map (fun q=>some (D.str (wW ⟨q.1,q.2,false⟩))):=by kernel_rfl
theorem zL0:(wY 0).map (fun q=>xW [yS ⟨q.1,q.2,false⟩])=(wY 0).map (fun q=>some (D.str (wW ⟨q.1,q.2,false⟩))):=by kernel_rfl
theorem zM8:(wY 1).map (fun q=>xW [yS ⟨q.1,q.2,false⟩])=(wY 1).map (fun q=>some (D.str (wW ⟨q.1,q.2,false⟩))):=by kernel_rfl
theorem zMs:(wY 2).map (fun q=>xW [yS ⟨q.1,q.2,false⟩])=(wY 2).map (fun q=>some (D.str (wW ⟨q.1,q.2,false⟩))):=by kernel_rfl
theorem zLT:(wY 3).map (fun q=>xW [yS ⟨q.1,q.2,false⟩])=(wY 3).map (fun q=>some (D.str (wW ⟨q.1,q.2,false⟩))):=by kernel_rfl
theorem zKn:(prs 3).map (fun q=>xW [yS ⟨q.1,q.2,false⟩])=(prs 3).map (fun q=>some (D.str (wW ⟨q.1,q.2,false⟩))):=zOd zL0 zM8 zMs zLT
theorem zLQ {f:Ef}{ρ:List B}{d:D}(h:f ρ=some d):xS (zY f zR) ρ=some [d]:=by unfold xS;rw[yL h rfl];rfl
section
variable {n:Nat} (hn:n=2∨n=3)
include hn
theorem zUk (p:Pt)(hc:p.c∈zO n)(ht:p.t∈zI n):xW [yS p]=some (.str (wW p)):=by
 obtain⟨c,t,b⟩:=p
 cases b with
 | true =>
   rcases hn with rfl | rfl
   · have h:=cF zJN (oB hc ht);exact h
   · have h:=cF zKb (oB hc ht);exact h
 | false =>
   rcases hn with rfl | rfl
   · have h:=cF zJV (oB hc ht);exact h
   · have h:=cF zKn (oB hc ht);exact h
end
theorem zWb {i:Nat}{f:Ef}{ρ:List B}{d:D}(h:f ρ=some d):yK i f ρ=some (.nx (ρ.set i (.fz d))):=by unfold yK;rw[h];rfl
theorem iZ {f:Sf}{y:Ef}{ρ ρ':List B}(h:f ρ=some (.nx ρ')):zYj zZz f y ρ=y ρ':=by unfold zYj zZz;rw[h];rfl
def eQ (n:Nat)(j:Bool):List Str:=["curve","fold",if j=true then "joined" else "loose",if n=2 then "2" else "3"]
def wJ (n:Nat)(j:Bool):Str:=Str.join " " (eQ n j)
theorem zTL {n:Nat}(hn:n=2∨n=3)(j:Bool):gE (.str (wJ n j)) (.str " ")=some ((eQ n j).map .str):=by
 rcases hn with rfl | rfl<;>cases j<;>kernel_rfl
theorem zRY {n:Nat}(hn:n=2∨n=3)(j:Bool):oH [.lst ((eQ n j).map .str)]=some (.tup [.str "fold",.bl j,.int n]):=by
 rcases hn with rfl | rfl<;>cases j<;>kernel_rfl
theorem zPG {n:Nat}(hn:n=2∨n=3):zYt [.int n,.int 1]=some (.int (2^n)):=by
 rcases hn with rfl | rfl<;>kernel_rfl
section
variable {n:Nat} (hn:n=2∨n=3) {ps:List Pt} (ok:PtsOk n ps)
include hn ok
theorem zNs (R:List Str)(j:Bool)(h0:R[0]?=some (wJ n j))(hR:∀(i:Nat) (p:Pt),ps[i]?=some p->R[1+i]?=some (wW p)):sK [.lst (R.map .str)]=some (zA n j ps):=by
 have hw:=zVD R 0 _ _ h0 (zTL hn j)
 have hlen:=ok.len
 have hcs:∀p∈ps,p.c∈zO n/\p.t∈zI n:=fun p hp=>⟨ok.perm.mem_iff.mp (Wg.mpr ⟨p,hp,rfl⟩),ok.turn p hp⟩
 have hnd:((([]:List Pt)++ps).map (·.c)).Nodup:=by rw[Eb];exact ok.perm.nodup_iff.mpr (zZy hn)
 have hs:=ok.small hn
 obtain⟨y6,y7,e⟩:=zWT hn R (.str "fold") (.bl j) ps [] 1 .no .no hR hcs hnd (by simp;omega)
 show(tQ [.fz (.lst (R.map .str)),.no,.no,.no,.no,.no,.no,.no]).bind wA=_
 unfold tQ
 rw[yT (ρ':=[.fz (.lst (R.map .str)),.fz (.str "fold"),.fz (.bl j),.fz (.int n),.no,.no,.no,.no]) (by
   unfold uU
   rw[show zM 1 oH (zY (eL (vY 2 uD (zY (eV 0) (zY (eC (.int 1)) zR)))) zR) [.fz (.lst (R.map .str)),.no,.no,.no,.no,.no,.no,.no]=some (.tup [.str "fold",.bl j,.int n]) from by
     refine(uA (x:=.lst ((eQ n j).map .str)) ?_).trans (zRY hn j)
     unfold eL
     rw[fM (x:=.lst (R.map .str)) (y:=.int 1) rfl rfl,show uD [.lst (R.map .str),.int 1]=some ((eQ n j).map .str) from hw]
     rfl]
   rfl)]
 unfold pQ
 rw[yT (ρ':=[.fz (.lst (R.map .str)),.fz (.str "fold"),.fz (.bl j),.fz (.int n),.ow [],.no,.no,.no]) rfl]
 unfold pU
 rw[yT (ρ':=[.fz (.lst (R.map .str)),.fz (.str "fold"),.fz (.bl j),.fz (.int n),.ow [],.od [],.no,.no]) rfl]
 unfold pS
 rw[yT (ρ':=[.fz (.lst (R.map .str)),.fz (.str "fold"),.fz (.bl j),.fz (.int n),.ow (ps.map yS),.od (vT ps),y6,y7])]
 · have ea:=yL (f:=eV 1) (ρ:=[.fz (.lst (R.map .str)),.fz (.str "fold"),.fz (.bl j),.fz (.int n),.fz (.lst (ps.map yS)),.od (vT ps),y6,y7]) (d:=.str "fold") rfl (yL (f:=eV 3) (d:=.int n) rfl (yL (f:=eV 2) (d:=.bl j) rfl (yL (f:=eV 4) (d:=.lst (ps.map yS)) (g:=zR) (ds:=[]) rfl rfl)))
   have em:=zVq (c:="Curve") (ns:=["name","dims","joined","parts"]) (n:=4) (f:=oU) (xs:=[.str "fold",.int n,.bl j,.lst (ps.map yS)]) ea rfl rfl rfl
   have q:=zZh ((mK "Curve" ["name","dims","joined","parts"] 4 oU (zY (eV 1) (zY (eV 3) (zY (eV 2) (zY (eV 4) zR))))) [.fz (.lst (R.map .str)),.fz (.str "fold"),.fz (.bl j),.fz (.int n),.fz (.lst (ps.map yS)),.od (vT ps),y6,y7])
   exact q.trans em
 · unfold qP
   rw[show iR2 (eC (.int 2)) (lW (eC (.int 2)) (zM 2 zYt (zY (eV 3) (zY (eC (.int 1)) zR)))) [.fz (.lst (R.map .str)),.fz (.str "fold"),.fz (.bl j),.fz (.int n),.ow [],.od [],.no,.no]=some ((List.range ps.length).map fun(i:Nat)=>D.int (((1+i:Nat):Int)+1)) from by
     unfold iR2
     rw[show eC (.int 2) [.fz (.lst (R.map .str)),.fz (.str "fold"),.fz (.bl j),.fz (.int n),.ow [],.od [],.no,.no]=some (D.int 2) from rfl,Qe,show lW (eC (.int 2)) (zM 2 zYt (zY (eV 3) (zY (eC (.int 1)) zR))) [.fz (.lst (R.map .str)),.fz (.str "fold"),.fz (.bl j),.fz (.int n),.ow [],.od [],.no,.no]=some (D.int (2+2^n)) from wK (i:=2) (j:=2^n) rfl ((w9 rfl rfl).trans (zPG hn)) rfl,Qe]
     rw[hlen]
     rcases hn with rfl | rfl<;>rfl]
   exact e
theorem of_eq (j:Bool)(T:Str)(hT:T=Str.join "\n" (wJ n j::ps.map wW)):fP [.str T]=mO [zA n j ps]/\fH [.str T]=rK [zA n j ps]:=by
 have hs:=ok.small hn
 have hcs:∀p∈ps,p.c∈zO n/\p.t∈zI n:=fun p hp=>⟨ok.perm.mem_iff.mp (Wg.mpr ⟨p,hp,rfl⟩),ok.turn p hp⟩
 have hfree:∀y∈wJ n j::ps.map wW,mX 10 y:=fun y hy=>by
   rcases Qj.mp hy with rfl | hy
   · rcases hn with rfl | rfl<;>cases j<;>(unfold L2.mX;decide +kernel)
   · obtain⟨p,hp,rfl⟩:=Wg.mp hy
     exact zUh hn p (hcs p hp).1 (hcs p hp).2
 have hlen:T.length<=100000:=by
   rw[hT]
   refine Eu (StrLaws.join_length_le _ _) ?_
   have h1:(wJ n j).length<=30:=by rcases hn with rfl | rfl<;>cases j<;>decide +kernel
   have h2:∀l:List Pt,(∀p∈l,p∈ps)->((l.map wW).map (·.length)).sum<=30*l.length:=by
     intro l
     induction l with
     | nil=>intro _;exact Ql _
     | cons p r ih =>
       intro h
       have h3:=zSq hn p (hcs p (h p Qf)).1 (hcs p (h p Qf)).2
       have h4:=ih fun q hq=>h q (Qd _ hq)
       rw[Qg,Qg,Ur,Qp]
       omega
   have h5:=h2 ps fun _ h=>h
   have h6:("\n":Str).length=1:=by decide +kernel
   rw[Qg,Ur,Qp,Qo,h6]
   omega
 have hsp:gE (.str T) (.str "\n")=some ((wJ n j::ps.map wW).map .str):=by
   rw[zMF]
   show(if 1<=(⟨#[10]⟩:Str).length/\T.length<=100000 then some ((Txt.split T ⟨#[10]⟩).map D.str) else none)=_
   rw[Qn ⟨Ql 1,hlen⟩,hT,zMF,zZp 10 _ hfree (Uu _ _)]
 have hfrom:=zNs hn ok (wJ n j::ps.map wW) j rfl (fun i p hp=>by rw[show 1+i=i+1 from by omega,Qz,Wq,hp];rfl)
 have s1:yK 1 (eL (jT (eV 0) (eC (.str "\n")))) [.fz (.str T),.no,.no,.no]=some (.nx [.fz (.str T),.fz (.lst ((wJ n j::ps.map wW).map .str)),.no,.no]):=zWb (by
   unfold eL jT
   rw[show eV 0 [.fz (.str T),.no,.no,.no]=some (D.str T) from rfl,Qe,show eC (.str "\n") [.fz (.str T),.no,.no,.no]=some (D.str "\n") from rfl,Qe,hsp]
   rfl)
 have s2:yK 2 (zM 1 sK (zY (eV 1) zR)) [.fz (.str T),.fz (.lst ((wJ n j::ps.map wW).map .str)),.no,.no]=some (.nx [.fz (.str T),.fz (.lst ((wJ n j::ps.map wW).map .str)),.fz (zA n j ps),.no]):=zWb ((uA rfl).trans hfrom)
 have s3:yK 3 (lW (eC (.int 1)) (wT (xE "Curve" "parts" (eV 2)))) [.fz (.str T),.fz (.lst ((wJ n j::ps.map wW).map .str)),.fz (zA n j ps),.no]=some (.nx [.fz (.str T),.fz (.lst ((wJ n j::ps.map wW).map .str)),.fz (zA n j ps),.fz (.int (1+(ps.length:Nat)))]):=zWb (by
   refine(wK (i:=1) (j:=(ps.length:Nat)) rfl ?_ rfl)
   unfold wT
   rw[cS _ (eV 2) (n:=n) (j:=j) (ps:=ps) rfl]
   show some (D.int ((ps.map yS).length:Nat))=_
   rw[Qo])
 have t:eB2 gGt (wT (eV 1)) (eV 3) [.fz (.str T),.fz (.lst ((wJ n j::ps.map wW).map .str)),.fz (zA n j ps),.fz (.int (1+(ps.length:Nat)))]=some (decide ((1+(ps.length:Nat):Int) < (((wJ n j::ps.map wW).map D.str).length:Nat))):=rfl
 have s4:sIf (eB2 gGt (wT (eV 1)) (eV 3)) (fun _=>none) xL [.fz (.str T),.fz (.lst ((wJ n j::ps.map wW).map .str)),.fz (zA n j ps),.fz (.int (1+(ps.length:Nat)))]=some (.nx [.fz (.str T),.fz (.lst ((wJ n j::ps.map wW).map .str)),.fz (zA n j ps),.fz (.int (1+(ps.length:Nat)))]):=(vK t).trans (by rw[Qo,Qp,Qo,Qv (by omega)];rfl)
 refine⟨?_,?_⟩
 · show(qJ [.fz (.str T),.no,.no,.no]).bind wA=_
   unfold qJ lD lJ lP dU
   rw[yT s1,yT s2,yT s3,yT s4]
   exact(zZh _).trans (uA rfl)
 · show nU [.fz (.str T),.no,.no,.no]=_
   unfold nU
   rw[iZ s1,iZ s2,iZ s3,iZ s4]
   exact uA rfl
end
theorem zZw:∀ys:List Str,zXD (ys.map D.str)=some ys
 | []=>rfl
 | y::r=>by rw[Qg,zXD,zZw r];rfl
section
variable {n:Nat} (hn:n=2∨n=3)
include hn
theorem zXe:∀(ps:List Pt) (x0:B) (acc:List D),(∀p∈ps,p.c∈zO n/\p.t∈zI n)->sF (gN 0) tOK (zM 1 xW (zY (eV 0) zR)) (ps.map yS) [x0] acc=some (acc++ps.map fun p=>.str (wW p))
 | [],_,acc,_=>by simp[sF]
 | p::r,x0,acc,h=>by
   rw[Qg]
   unfold sF
   have hp:=h p Qf
   have e1:gN 0 (yS p) [x0]=some [.fz (yS p)]:=rfl
   have e2:tOK [.fz (yS p)]=some true:=rfl
   rw[e1,Qe,e2,Qe,Qn rfl,(uA (x:=yS p) rfl).trans (zUk hn p hp.1 hp.2),Qe,zXe r _ _ fun q hq=>h q (Qd _ hq)]
   simp
variable {ps:List Pt} (ok:PtsOk n ps) (j:Bool)
include ok
theorem zPN:(∀y∈wJ n j::ps.map wW,mX 10 y)/\((wJ n j::ps.map wW).map (·.length)).sum+(wJ n j::ps.map wW).length<=1000:=by
 have hs:=ok.small hn
 have hcs:∀p∈ps,p.c∈zO n/\p.t∈zI n:=fun p hp=>⟨ok.perm.mem_iff.mp (Wg.mpr ⟨p,hp,rfl⟩),ok.turn p hp⟩
 refine⟨fun y hy=>?_,?_⟩
 · rcases Qj.mp hy with rfl | hy
   · rcases hn with rfl | rfl<;>cases j<;>(unfold L2.mX;decide +kernel)
   · obtain⟨p,hp,rfl⟩:=Wg.mp hy
     exact zUh hn p (hcs p hp).1 (hcs p hp).2
 · have h1:(wJ n j).length<=40:=by rcases hn with rfl | rfl<;>cases j<;>decide +kernel
   have h2:∀l:List Pt,(∀p∈l,p∈ps)->((l.map wW).map (·.length)).sum<=30*l.length:=by
     intro l
     induction l with
     | nil=>intro _;exact Ql _
     | cons p r ih =>
       intro h
       have h3:=zSq hn p (hcs p (h p Qf)).1 (hcs p (h p Qf)).2
       have h4:=ih fun q hq=>h q (Qd _ hq)
       rw[Qg,Qg,Ur,Qp]
       omega
   have h5:=h2 ps fun _ h=>h
   rw[Qg,Ur,Qp,Qo]
   omega
theorem zQW {g:Lf}{ρ:List B}(h:g ρ=some ((wJ n j::ps.map wW).map D.str)):gR (eC (.str "\n")) g ρ=some (.str (Str.join "\n" (wJ n j::ps.map wW))):=by
 have hsum:=(zPN hn ok j).2
 have h6:("\n":Str).length=1:=by decide +kernel
 unfold gR
 rw[show eC (.str "\n") ρ=some (D.str "\n") from rfl,Qe,h,Qe]
 dsimp only
 rw[zZw,Qe,Qn]
 · exact Rp (fun z=>some (D.str z)) (StrLaws.glued_eq_join _ _)
 · rw[h6];omega
theorem zYf:lE [zA n j ps]=some ((wJ n j::ps.map wW).map D.str):=by
 have hs:=ok.small hn
 have hcs:∀p∈ps,p.c∈zO n/\p.t∈zI n:=fun p hp=>⟨ok.perm.mem_iff.mp (Wg.mpr ⟨p,hp,rfl⟩),ok.turn p hp⟩
 show(sM [.fz (zA n j ps),.no,.no]).bind zZD=_
 unfold sM
 rw[uN (d:=.str (if j=true then "joined" else "loose")) (by cases j<;>rfl)]
 dsimp only[List.set]
 unfold oW
 rw[uN (d:=.str (wJ n j)) (by
   have e5:bX (xE "Curve" "dims" (eV 0)) [.fz (zA n j ps),.fz (.str (if j=true then "joined" else "loose")),.no]=some (.str (if n=2 then("2":Str) else "3")):=by
     unfold bX
     rw[show xE "Curve" "dims" (eV 0) [.fz (zA n j ps),.fz (.str (if j=true then "joined" else "loose")),.no]=some (.int n) from rfl]
     rcases hn with rfl | rfl<;>kernel_rfl
   have l3:(if j=true then("joined":Str) else "loose").length<=6:=by cases j<;>decide +kernel
   have l4:(if n=2 then("2":Str) else "3").length<=1:=by split<;>decide +kernel
   have h2:("fold":Str).length<=12:=by decide +kernel
   unfold gR
   rw[show eC (.str " ") _=some (D.str " ") from rfl,Qe,show xS (zY (eC (.str "curve")) (zY (xE "Curve" "name" (eV 0)) (zY (eV 1) (zY (bX (xE "Curve" "dims" (eV 0))) zR)))) [.fz (zA n j ps),.fz (.str (if j=true then "joined" else "loose")),.no]=some ((eQ n j).map D.str) from by
     unfold xS
     rw[yL rfl (yL (d:=.str "fold") rfl (yL rfl (yL e5 rfl)))]
     rfl,Qe]
   dsimp only
   rw[zZw,Qe,Qn]
   · exact Rp (fun z=>some (D.str z)) (StrLaws.glued_eq_join _ _)
   · show((eQ n j).map (·.length)).sum+(eQ n j).length*1<=100000
     unfold eQ
     have l1:("curve":Str).length=5:=by decide +kernel
     simp only[Qg,Rs,Ur,List.sum_nil,Qp,Ek]
     omega)]
 dsimp only[List.set]
 unfold jR sL
 have ec:xY (iL (xE "Curve" "parts" (eV 0))) 1 [] (gN 0) tOK (zM 1 xW (zY (eV 0) zR)) [.fz (zA n j ps),.fz (.str (if j=true then "joined" else "loose")),.fz (.str (wJ n j))]=some (ps.map fun p=>.str (wW p)):=by
   unfold xY
   rw[show iL (xE "Curve" "parts" (eV 0)) [.fz (zA n j ps),.fz (.str (if j=true then "joined" else "loose")),.fz (.str (wJ n j))]=some (ps.map yS) from by
     unfold iL
     rw[cS _ (eV 0) (n:=n) (j:=j) (ps:=ps) rfl]
     rfl,Qe,fQ (by rw[Qo];omega),Qe]
   exact(zXe hn ps .no [] hcs).trans (by rw[Eb])
 unfold fS
 rw[zLQ (d:=.str (wJ n j)) rfl,Qe,ec,Qe,fQ (by simp;omega),Qg,Tu]
 rfl
theorem iD:uS [zA n j ps]=some (.str (Str.join "\n" (wJ n j::ps.map wW))):=by
 refine(zZh _).trans (zQW hn ok j ?_)
 unfold vY
 rw[yL (d:=zA n j ps) rfl rfl,Qe]
 exact zYf hn ok j
end
end My
noncomputable section
namespace My
open PySem L2
def bP (k m:Nat):D:=.exc "Unmet" ["first","second","level"] [.int (k:Nat),.int ((k:Int)+1),.int ((m:Int)+1)]
theorem zTg {n:Nat}{ps:List Pt}{d:D}(h:xM [zA n true ps]=some d):yK 1 (eIf (tB1 (xE "Curve" "joined" (eV 0))) (zM 1 xM (zY (eV 0) zR)) (eC .non)) [.fz (zA n true ps),.no,.no,.no]=some (.nx [.fz (zA n true ps),.fz d,.no,.no]):=by
 refine zWb ?_
 unfold eIf
 rw[show tB1 (xE "Curve" "joined" (eV 0)) [.fz (zA n true ps),.no,.no,.no]=some true from rfl,Qe,Qn rfl,uA (x:=zA n true ps) rfl,h]
theorem zN6 {n:Nat}{ps:List Pt}(h:xM [zA n true ps]=some .non):mO [zA n true ps]=some (zA n true ps)/\rK [zA n true ps]=none:=by
 refine⟨?_,?_⟩
 · show(lK [.fz (zA n true ps),.no,.no,.no]).bind wA=_
   unfold lK
   rw[yT (zTg h)]
   rfl
 · show pW [.fz (zA n true ps),.no,.no,.no]=_
   unfold pW
   rw[iZ (zTg h)]
   rfl
theorem zRm {n:Nat}{ps:List Pt}{k m:Nat}(h:xM [zA n true ps]=some (.tup [.int (k:Nat),.int ((m:Int)+1)])):rK [zA n true ps]=some (bP k m):=by
 show pW [.fz (zA n true ps),.no,.no,.no]=_
 unfold pW
 rw[iZ (zTg h)]
 rfl
theorem cG {g:Gf}{body:Sf}{P:List B->Prop}:∀(ds:List D),(∀d∈ds,∀ρ,P ρ->∃ρ1 ρ2,g d ρ=some ρ1/\(body ρ1=some (.nx ρ2)∨body ρ1=some (.ct ρ2))/\P ρ2)->∀ρ,P ρ->∃ρ',nD g body ds ρ=some (.nx ρ')/\P ρ'
 | [],_,ρ,h=>⟨ρ,rfl,h⟩
 | d::r,hs,ρ,h=>by
   obtain⟨ρ1,ρ2,e1,e2,h2⟩:=hs d Qf ρ h
   obtain⟨ρ',e,h'⟩:=cG r (fun d hd=>hs d (Qd _ hd)) ρ2 h2
   refine⟨ρ',?_,h'⟩
   rw[nD,e1,Qe]
   rcases e2 with e2 | e2<;>rw[e2,Qe]<;>exact e
def sD:Option (Nat×Nat)->D
 | none=>.non
 | some x=>.tup [.int (x.1:Nat),.int ((x.2:Int)+1)]
def zVi (lv:Nat->Option Nat)(i:Nat):Option (Nat×Nat)->Prop
 | none=>∀k,k < i->lv k=none
 | some x=>x.1 < i/\lv x.1=some x.2/\∀k,k < i->∀m,lv k=some m->x.2<=m/\(k < x.1->x.2 < m)
def zZ8 (lv:Nat->Option Nat)(i:Nat)(o:Option (Nat×Nat)):Option (Nat×Nat):=match lv i,o with
 | none,o=>o
 | some m,none=>some (i,m)
 | some m,some x=>if m < x.2 then some (i,m) else some x
theorem zTD {lv:Nat->Option Nat}{i:Nat}{o:Option (Nat×Nat)}(h:zVi lv i o):zVi lv (i+1) (zZ8 lv i o):=by
 unfold zZ8
 cases hi:lv i with
 | none =>
   cases o with
   | none =>
     intro k hk
     by_cases z:k=i
     · rw[z];exact hi
     · exact h k (by omega)
   | some x =>
     obtain⟨h1,h2,h3⟩:=h
     refine⟨by omega,h2,fun k hk m hm=>?_⟩
     by_cases z:k=i
     · rw[z,hi] at hm;cases hm
     · exact h3 k (by omega) m hm
 | some m =>
   cases o with
   | none =>
     refine⟨by show i < i+1;omega,hi,fun k hk m' hm=>?_⟩
     by_cases z:k=i
     · rw[z,hi] at hm;cases hm;exact⟨Ql _,fun y=>by show m < m;have y:k < i:=y;omega⟩
     · have:=h k (by omega);rw[this] at hm;cases hm
   | some x =>
     obtain⟨h1,h2,h3⟩:=h
     show zVi lv (i+1) (if m < x.2 then some (i,m) else some x)
     by_cases hm:m < x.2
     · rw[Qn hm]
       refine⟨by show i < i+1;omega,hi,fun k hk m' hm'=>?_⟩
       by_cases z:k=i
       · rw[z,hi] at hm';cases hm';exact⟨Ql _,fun y=>by have y:k < i:=y;omega⟩
       · obtain⟨q1,q2⟩:=h3 k (by omega) m' hm'
         exact⟨by show m<=m';omega,fun _=>by show m < m';omega⟩
     · rw[Wd hm]
       refine⟨by omega,h2,fun k hk m' hm'=>?_⟩
       by_cases z:k=i
       · rw[z,hi] at hm';cases hm';exact⟨by omega,fun y=>by omega⟩
       · exact h3 k (by omega) m' hm'
theorem zMC {d:D}(h:okS 3 d=true){f g:Ef}{ρ:List B}(h1:f ρ=some d)(h2:g ρ=some d):vM (tB1 (zM 2 fY (zY f (zY g zR)))) ρ=some false:=zP2 ((w9 h1 h2).trans (zXl 3 d h))
section
variable {n:Nat} (hn:n=2∨n=3) {ps:List Pt} (ok:PtsOk n ps)
include hn ok
theorem zLH:∃lv:Nat->Option Nat,∀k,k+1 < ps.length->vZ [.lst (ps.map zH),.int (n:Nat),.int (k:Nat),.int 40]=some (tO (lv k))/\(lv k=none->∀i,Adj ps n k i)/\∀m,lv k=some m->¬Adj ps n k m/\∀i,i < m->Adj ps n k i:=by
 have ex:∀k,∃o:Option Nat,k+1 < ps.length->vZ [.lst (ps.map zH),.int (n:Nat),.int (k:Nat),.int 40]=some (tO o)/\(o=none->∀i,Adj ps n k i)/\∀m,o=some m->¬Adj ps n k m/\∀i,i < m->Adj ps n k i:=fun k=>by
   by_cases hk:k+1 < ps.length
   · rcases zTX hn ok hk with⟨e',h'⟩ | ⟨m',_,e',h1',h2'⟩
     · exact⟨none,fun _=>⟨e',fun _=>h',fun m z=>by cases z⟩⟩
     · exact⟨some m',fun _=>⟨e',fun z=>(by cases z),fun m z=>by cases z;exact⟨h1',h2'⟩⟩⟩
   · exact⟨none,fun h=>absurd h hk⟩
 exact⟨fun k=>(ex k).choose,fun k=>(ex k).choose_spec⟩
theorem zTa {lv:Nat->Option Nat}(hlv:∀k,k+1 < ps.length->(lv k=none->∀i,Adj ps n k i)/\∀m,lv k=some m->¬Adj ps n k m/\∀i,i < m->Adj ps n k i){o:Option (Nat×Nat)}(h:zVi lv (ps.length - 1) o):xM [zA n true ps]=some (sD o):=by
 have hB:0 < ps.length:=by rw[ok.len];exact Nat.pow_pos (by decide)
 rcases zUS hn ok true with⟨e,ha⟩ | ⟨k,m,hk,_,e,h1,h2,h3⟩
 · cases o with
   | none=>exact e
   | some x =>
     obtain⟨q1,q2,_⟩:=h
     exact absurd (ha x.1 (by omega) x.2) ((hlv x.1 (by omega)).2 x.2 q2).1
 · have lk:lv k=some m:=by
     cases hl:lv k with
     | none=>exact absurd ((hlv k hk).1 hl m) h1
     | some m' =>
       obtain⟨a1,a2⟩:=(hlv k hk).2 m' hl
       rcases Ij m' m with z | z | z
       · exact absurd (h2 k hk m' z) a1
       · rw[z]
       · exact absurd (a2 m z) h1
   cases o with
   | none=>have:=h k (by omega);rw[lk] at this;cases this
   | some x =>
     obtain⟨q1,q2,q3⟩:=h
     obtain⟨r1,r2⟩:=q3 k (by omega) m lk
     obtain⟨a1,a2⟩:=(hlv x.1 (by omega)).2 x.2 q2
     have em:x.2=m:=by
       rcases Ij x.2 m with z | z | z
       · exact absurd (h2 x.1 (by omega) x.2 z) a1
       · exact z
       · omega
     have ek:x.1=k:=by
       rcases Ij x.1 k with z | z | z
       · have:=h3 x.1 z;rw[←em] at this;exact absurd this a1
       · exact z
       · have:=r2 z;omega
     rw[e]
     show _=some (D.tup [.int (x.1:Nat),.int ((x.2:Int)+1)])
     rw[em,ek]
theorem zQe:∃o:Option (Nat×Nat),jM [.lst (ps.map zH),.int (n:Nat)]=some (sD o)/\xM [zA n true ps]=some (sD o):=by
 have hs:=ok.small hn
 have hB:0 < ps.length:=by rw[ok.len];exact Nat.pow_pos (by decide)
 obtain⟨lv,hlv⟩:=zLH hn ok
 obtain⟨ρ',e,o,z3,z4,rfl,ho⟩:=zSM (g:=gN 3) (body:=tI) (P:=fun i ρ=>∃o z3 z4,ρ=[.fz (.lst (ps.map zH)),.fz (.int (n:Nat)),.fz (sD o),z3,z4]/\zVi lv i o) (vQ 0 (ps.length - 1)) 0 (fun i d hd ρ hρ=>by
   obtain⟨o,z3,z4,rfl,ho⟩:=hρ
   obtain⟨hi,rfl⟩:=zPw hd
   rw[Il] at ho ⊢
   rw[Int.zero_add]
   obtain⟨l2,_⟩:=hlv i (by omega)
   refine⟨[.fz (.lst (ps.map zH)),.fz (.int (n:Nat)),.fz (sD o),.fz (.int (i:Nat)),z4],[.fz (.lst (ps.map zH)),.fz (.int (n:Nat)),.fz (sD (zZ8 lv i o)),.fz (.int (i:Nat)),.fz (tO (lv i))],rfl,?_,zZ8 lv i o,_,_,rfl,zTD ho⟩
   unfold tI
   rw[uN (d:=tO (lv i)) ((zMV rfl rfl rfl rfl).trans l2)]
   dsimp only[List.set]
   unfold jU zZ8
   cases lv i with
   | none=>rfl
   | some m =>
     cases o with
     | none=>rfl
     | some x =>
       have t:kX (eB2 uB (eV 4) (eC .non)) (eR (eB2 kA (eV 2) (eC .non)) (eB2 gLt (eV 4) (eIx (eV 2) (eC (.int 1))))) [.fz (.lst (ps.map zH)),.fz (.int (n:Nat)),.fz (sD (some x)),.fz (.int (i:Nat)),.fz (tO (some m))]=some (decide ((m:Int)+1 < (x.2:Int)+1)):=rfl
       rw[vK t]
       show _=some (Out.nx [.fz (.lst (ps.map zH)),.fz (.int (n:Nat)),.fz (sD (if m < x.2 then some (i,m) else some x)),.fz (.int (i:Nat)),.fz (tO (some m))])
       by_cases h:m < x.2
       · rw[Qc (show(m:Int)+1 < (x.2:Int)+1 by omega),Qn h];rfl
       · rw[Qv (show ¬(m:Int)+1 < (x.2:Int)+1 by omega),Wd h];rfl) [.fz (.lst (ps.map zH)),.fz (.int (n:Nat)),.fz (sD none),.no,.no] ⟨none,_,_,rfl,fun k hk=>absurd hk (Tx k)⟩
 rw[zZ4,Il] at ho
 have hm:=zTa hn ok (fun k hk=>(hlv k hk).2) ho
 refine⟨o,?_,hm⟩
 show(rV [.fz (.lst (ps.map zH)),.fz (.int (n:Nat)),.no,.no,.no]).bind wA=_
 unfold rV
 refine cI (d:=.non) rfl ?_
 unfold nC
 dsimp only[List.set]
 refine xF (ρ':=[.fz (.lst (ps.map zH)),.fz (.int (n:Nat)),.fz (sD o),z3,z4]) ?_ rfl
 unfold qP
 rw[show iR (rF (wT (eV 0)) (eC (.int 1))) [.fz (.lst (ps.map zH)),.fz (.int (n:Nat)),.fz .non,.no,.no]=some (vQ 0 (ps.length - 1)) from by
   have e:rF (wT (eV 0)) (eC (.int 1)) [.fz (.lst (ps.map zH)),.fz (.int (n:Nat)),.fz .non,.no,.no]=some (.int ((ps.length - 1:Nat):Nat)):=by
     rw[show((ps.length - 1:Nat):Int)=(ps.length:Int) - 1 by omega]
     refine wK ?_ rfl rfl
     show some (D.int ((ps.map zH).length:Nat))=_
     rw[Qo]
   unfold iR
   rw[e,Qe]
   show(if decide (-1000000<=((ps.length - 1:Nat):Int))&&decide (((ps.length - 1:Nat):Int)<=1000000) then some (vQ 0 ((ps.length - 1:Nat):Int).toNat) else none)=_
   rw[Qc (by omega),Qc (by omega),Rt]
   rfl,Qe]
 exact e
theorem zZn (j b:Bool)(h1:mO [zA n j ps]=some (zA n j ps))(h2:rK [zA n j ps]=none):uO [zA n j ps,.bl b]=some .non:=by
 have et:=iD hn ok j
 obtain⟨o1,o2⟩:=of_eq hn ok j _ rfl
 rw[h1] at o1
 rw[h2] at o2
 generalize Str.join "\n" (wJ n j::ps.map wW)=T at *
 generalize zA n j ps=cv at *
 show(w8 [.fz cv,.fz (.bl b),.no,.no]).bind wA=_
 unfold w8
 refine cI (d:=.non) rfl ?_
 unfold tN
 dsimp only[List.set]
 refine xF (ρ':=[.fz cv,.fz (.bl b),.fz .non,.no]) ?_ rfl
 have tc:zM 1 uS (zY (eV 0) zR) [.fz cv,.fz (.bl b),.fz .non,.no]=some (.str T):=(uA rfl).trans et
 unfold zUK vIf
 cases b with
 | true =>
   rw[show tB1 (eV 1) [.fz cv,.fz (.bl true),.fz .non,.no]=some true from rfl,Qe,Qn rfl,(uA tc).trans o2]
   dsimp only
   unfold sIf
   rw[show tB1 (eV 1) [.fz cv,.fz (.bl true),.fz .non,.no]=some true from rfl,Qe,Qn rfl]
   unfold zXB
   rw[(uA tc).trans o1]
   rfl
 | false =>
   rw[show tB1 (eV 1) [.fz cv,.fz (.bl false),.fz .non,.no]=some false from rfl,Qe,Wd (by decide),(uA rfl).trans h2]
   dsimp only
   unfold sIf
   rw[show tB1 (eV 1) [.fz cv,.fz (.bl false),.fz .non,.no]=some false from rfl,Qe,Wd (by decide)]
   unfold zXB
   rw[(uA rfl).trans h1]
   rfl
theorem zST (j b:Bool){k m:Nat}(h2:rK [zA n j ps]=some (bP k m)):uO [zA n j ps,.bl b]=some (bP k m):=by
 have et:=iD hn ok j
 obtain⟨_,o2⟩:=of_eq hn ok j _ rfl
 rw[h2] at o2
 generalize Str.join "\n" (wJ n j::ps.map wW)=T at *
 generalize zA n j ps=cv at *
 show(w8 [.fz cv,.fz (.bl b),.no,.no]).bind wA=_
 unfold w8
 refine cI (d:=.non) rfl ?_
 unfold tN
 dsimp only[List.set]
 refine xF (ρ':=[.fz cv,.fz (.bl b),.fz (bP k m),.no]) ?_ rfl
 have tc:zM 1 uS (zY (eV 0) zR) [.fz cv,.fz (.bl b),.fz .non,.no]=some (.str T):=(uA rfl).trans et
 unfold zUK vIf
 cases b with
 | true =>
   rw[show tB1 (eV 1) [.fz cv,.fz (.bl true),.fz .non,.no]=some true from rfl,Qe,Qn rfl,(uA tc).trans o2]
   rfl
 | false =>
   rw[show tB1 (eV 1) [.fz cv,.fz (.bl false),.fz .non,.no]=some false from rfl,Qe,Wd (by decide),(uA rfl).trans h2]
   rfl
end
theorem zX2 (cv:D)(h:∀b,uO [cv,.bl b]=some .non):uW [cv,.non]=some (.bl true):=by
 show(vJ [.fz cv,.fz .non,.no,.no]).bind wA=_
 unfold vJ
 obtain⟨ρ',e,y2,y3,rfl⟩:=cG (g:=gN 2) (body:=w4) (P:=fun ρ=>∃y2 y3,ρ=[.fz cv,.fz .non,y2,y3]) [.bl true,.bl false] (fun d hd ρ hρ=>by
   obtain⟨y2,y3,rfl⟩:=hρ
   obtain⟨b,rfl⟩:∃b,d = .bl b:=by
     rcases Qj.mp hd with rfl | hd
     · exact⟨_,rfl⟩
     · rw[Wf.mp hd];exact⟨_,rfl⟩
   refine⟨[.fz cv,.fz .non,.fz (.bl b),y3],[.fz cv,.fz .non,.fz (.bl b),.fz .non],rfl,.inr ?_,_,_,rfl⟩
   unfold w4
   rw[uN ((w9 rfl rfl).trans (h b))]
   rfl) [.fz cv,.fz .non,.no,.no] ⟨_,_,rfl⟩
 exact xF (g:=mZ) (ρ':=[.fz cv,.fz .non,y2,y3]) e rfl
theorem zQV (cv:D){k m:Nat}(h:∀b,uO [cv,.bl b]=some (bP k m)):uW [cv,sD (some (k,m))]=some (.bl true):=by
 show(vJ [.fz cv,.fz (sD (some (k,m))),.no,.no]).bind wA=_
 unfold vJ
 obtain⟨ρ',e,y2,y3,rfl⟩:=cG (g:=gN 2) (body:=w4) (P:=fun ρ=>∃y2 y3,ρ=[.fz cv,.fz (sD (some (k,m))),y2,y3]) [.bl true,.bl false] (fun d hd ρ hρ=>by
   obtain⟨y2,y3,rfl⟩:=hρ
   obtain⟨b,rfl⟩:∃b,d = .bl b:=by
     rcases Qj.mp hd with rfl | hd
     · exact⟨_,rfl⟩
     · rw[Wf.mp hd];exact⟨_,rfl⟩
   refine⟨[.fz cv,.fz (sD (some (k,m))),.fz (.bl b),y3],[.fz cv,.fz (sD (some (k,m))),.fz (.bl b),.fz (bP k m)],rfl,.inl ?_,_,_,rfl⟩
   unfold w4
   rw[uN ((w9 rfl rfl).trans (h b))]
   dsimp only[List.set]
   unfold oV
   rw[yT ((vK (b:=false) rfl).trans rfl)]
   unfold pE
   rw[yT ((vK (b:=false) (by kernel_rfl)).trans rfl)]
   unfold jP
   exact(vK (zMC (d:=.lst [.int (k:Nat),.int ((k:Int)+1),.int ((m:Int)+1)]) rfl rfl rfl)).trans rfl) [.fz cv,.fz (sD (some (k,m))),.no,.no] ⟨_,_,rfl⟩
 exact xF (g:=mZ) (ρ':=[.fz cv,.fz (sD (some (k,m))),y2,y3]) e rfl
theorem zQ2 (x0:B)(c:Int)(y2 y3:B):∃z2 z3,mI [x0,.fz (.int c),y2,y3]=some (.nx [x0,.fz (.int c),z2,z3]):=by
 have e1:=zYA c 69621 (by decide) (by decide)
 generalize zRv c 69621=r at e1
 obtain⟨n,hn,en⟩:∃n:Nat,(n=2∨n=3)/\2+r % 2=(n:Int):=⟨(2+r % 2).toNat,by omega,by omega⟩
 obtain⟨ps,ok,de⟩:=zQh hn c
 have h8:=ok.small hn
 obtain⟨o,lo,mo⟩:=zQe hn ok
 have ct:=zUv n true ps h8
 have cf:=zUv n false ps h8
 have a1:uW [zA n true ps,sD o]=some (.bl true):=by
   cases o with
   | none =>
     obtain⟨f1,f2⟩:=zN6 mo
     exact zX2 _ fun b=>zZn hn ok true b f1 f2
   | some x =>
     have f:=zRm (k:=x.1) (m:=x.2) mo
     exact zQV (k:=x.1) (m:=x.2) _ fun b=>zST hn ok true b f
 have a2:uW [zA n false ps,.non]=some (.bl true):=zX2 _ fun b=>zZn hn ok false b rfl rfl
 refine⟨.fz (.int (n:Nat)),.fz (.lst (ps.map zH)),?_⟩
 unfold mI
 rw[uN (d:=.int (n:Nat)) (by rw[←en];exact wK rfl (wK ((w9 rfl rfl).trans e1) rfl rfl) rfl)]
 dsimp only[List.set]
 unfold zZs
 rw[uN (d:=.lst (ps.map zH)) (zO7 ((fM rfl rfl).trans de))]
 dsimp only[List.set]
 unfold zYv
 rw[yT ((vK (zP2 ((w9 ((jZ rfl rfl rfl).trans ct) ((w9 rfl rfl).trans lo)).trans a1))).trans rfl)]
 unfold zU4
 exact(vK (zP2 ((w9 ((jZ rfl rfl rfl).trans cf) rfl).trans a2))).trans rfl
theorem zQg (ns:List Int)(h:ns.length<=63):zWZ [.lst (ns.map .int)]=some (.bl true):=by
 have hc:zNN (ns.map .int) none (some 6)=(ns.take 6).map .int:=by
   unfold zNN
   have z2:∀m:Nat,HT.sIx m m (some (6:Int))=min 6 m:=fun m=>HT.sIx_nat m m 6
   rw[HT.sIx_none,z2,List.drop_zero,Nat.sub_zero,Qo,List.map_take]
   rw[List.take_eq_take_iff,Qo]
   omega
 have src:fS (kJ (eV 0) oNo (gQ (eC (.int 6)))) (xS (zY (eC (.int 21)) zR)) [.fz (.lst (ns.map .int)),.no,.no,.no]=some ((ns.take 6++[21]).map .int):=by
   have e2:kJ (eV 0) oNo (gQ (eC (.int 6))) [.fz (.lst (ns.map .int)),.no,.no,.no]=some ((ns.take 6).map .int):=by
     simp only[kJ,gQ,oNo,eV,eC,qI,Qm,Qe,hc]
   have e1:xS (zY (eC (.int 21)) zR) [.fz (.lst (ns.map .int)),.no,.no,.no]=some [.int 21]:=rfl
   unfold fS
   rw[e2,e1,Qe,Qe]
   rw[fQ (by simp;omega),Wb]
   rfl
 obtain⟨ρ',e,y1,y2,y3,rfl⟩:=zY8 (g:=gN 1) (body:=mI) (P:=fun ρ=>∃y1 y2 y3,ρ=[.fz (.lst (ns.map .int)),y1,y2,y3]) ((ns.take 6++[21]).map .int) (fun d hd ρ hρ=>by
     obtain⟨c,hcm,rfl⟩:=Wg.mp hd
     obtain⟨y1,y2,y3,rfl⟩:=hρ
     obtain⟨z2,z3,e⟩:=zQ2 (.fz (.lst (ns.map .int))) c y2 y3
     exact⟨_,_,rfl,e,_,_,_,rfl⟩) [.fz (.lst (ns.map .int)),.no,.no,.no] ⟨_,_,_,rfl⟩
 have es:qP (fS (kJ (eV 0) oNo (gQ (eC (.int 6)))) (xS (zY (eC (.int 21)) zR))) (gN 1) mI [.fz (.lst (ns.map .int)),.no,.no,.no]=some (.nx [.fz (.lst (ns.map .int)),y1,y2,y3]):=by
   unfold qP;rw[src,Qe];exact e
 exact xF (g:=zSC) es rfl
end My
end
open PySem PySem.W PyProof.Rows
set_option maxRecDepth 100000 in
set_option maxHeartbeats 0 in
theorem PySem.Challenge.cw_curveyard_k12_promises_asked_holds : PySem.Challenge.rw_curveyard_k12_promises_asked.Holds := by
 w_on;o_law
 refine PySem.W.holds_open (r:=PySem.Challenge.rw_curveyard_k12_promises_asked.row) (q:=My.oF) (loose:=My.loose) (XP:=PySem.W.XL My.oF [])
   (YP:=PySem.W.InK My.zTr) My.zNc (PySem.W.InK.of My.zUL) PySem.W.InK.keeps
   (fun s e=>PySem.W.xl_of s (Ee.mp e).1) PySem.W.XL.keeps (by rfl) (by rfl) (by rfl)
   (fun s e=>PySem.W.recFacts_of (Ee.mp e).2) (by rfl) (by assumption) (by decide +kernel)
   ⟨rfl,rfl,rfl,rfl,rfl,by decide +kernel⟩ ?hw ?hc
 case hw=>w_witness2
 k_fill
 refine L2.zOx (l:=PySem.Challenge.rw_curveyard_k12_promises_asked) (n:=63) (k:=9) (x:="_law_script") (CX:=fun _=>L2.CX0) (sp:=fun w=>L2.spF _ 1 My.zWZ) rfl (by decide) rfl ⟨rfl,by decide,by decide⟩ (fun w h Y=>Y) ?F (fun w H a ns hl hO hS=>My.zL9 hS (My.zQg ns hl)) (fun _ _ _ _ _ z=>z)
 case F =>
   intro w mg fa h KX G hmg
   refine' My.zMz KX G hmg ?g0 ?g1 ?g2 ?g3 ?g4 ?g5 ?g6 ?g7 ?g8 ?g9 ?g10 ?g11 ?g12 ?g13 ?g14 ?g15 ?g16 ?g17 ?g18 ?g19 ?g20 ?g21 ?g22 ?g23 ?g24 ?g25 ?g26 ?g27 ?g28 ?g29 ?g30 ?g31 ?g32 ?g33 ?g34 ?g35 ?g36 ?g37 ?g38 ?g39 ?g40 ?g41 ?g42 ?g43 ?g44 ?g45 ?g46 ?g47 ?ca0 ?ci0 ?cn0 ?cl0 ?cc0 ?ck0 ?cpg0 ?chd0 ?cpo0 ?csa0 ?cmk0 ?ckc0 ?cf0_back ?cf0_corner ?cf0_turn ?ca1 ?ci1 ?cn1 ?cl1 ?cc1 ?ck1 ?cpg1 ?chd1 ?cpo1 ?csa1 ?cmk1 ?ckc1 ?cf1_dims ?cf1_joined ?cf1_name ?cf1_parts ?xa0 ?xk0 ?xe0 ?xo0 ?xi0 ?xn0 ?xt0 ?xf0_first ?xf0_second ?xf0_level ?xa1 ?xa2 ?yl0 ?yc0 ?yk0 ?ix_Unmet ?ix_TextError ?ix_ValueError ?em_YardError_Unmet ?g_BITS ?g_FLIPS ?g_AXES ?g_LETTERS ?g_LONGEST_WORD ?g_PROMISES ?dl_PROMISES ?ds_PROMISES ?g_DIMS ?dl_DIMS ?ds_DIMS ?z_ValueError ?z_abs ?z_all ?z_bool ?z_int ?z_isinstance ?z_len ?z_list ?z_min ?z_range ?z_reversed ?z_sorted ?z_str ?z_sum ?z_tuple ?z_zip
   all_goals (try exact⟨_,_,_,_,_,_,_,_,_,_,by k_is,by k_is,by k_is,by k_is⟩)
   all_goals (try k_is)
   all_goals kernel_rfl

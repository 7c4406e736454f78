import PyProof.Rows.All
import OpenK.KLine
import KE.KItem
import Wide.Once
import Wide.FinOn
import Lean
import PyProof.EqAt
import PyProof.EqKinds
import PyProof.TupleCall
import PyProof.TupleKey
import KE.KIntText
import KE.IntTextLaws
import OpenK.KOwn
import KE.KIsAll
import PyProof.InstStoreFacts
import PyProof.RaisesMany
import PyProof.RulesAs
import KE.KTryMore
import PyProof.MaxThree
import PyProof.WalkInts
import KE.KRevIter
import PyProof.ListRange
import KE.RegMulBits
import PyProof.ReprRoads
import PyProof.ReprLen
import PyProof.Rows.SumAny
import PyProof.Rows.RuleN_abs
import Wide.Seal
import PyProof.FactsAll.bool_1
import PyProof.DictRoadsH
import PyProof.MinMaxWalk
import PyProof.Rows.CallKwBuiltin
import PyProof.ZipIter
import PyProof.StrLaws
import PyProof.Rows.FStr
import PyProof.Rows.StrNews
import PyProof.Rows.StrItems
import PyProof.StrLawsChain
import PyProof.StrLawsTight
import PyProof.StrCalls
import PyProof.LongRange
import OpenK.KTop
import PySem.Challenge.RW_curveyard_k51_whole_joined_or_shown
set_option Elab.async false
set_option Elab.async false
set_option linter.all false
set_option maxRecDepth 100000
set_option maxRecDepth 100000
noncomputable section
section
open PySem PySem.Spec PyProof.Rows
def Qq:=@Option.bind_eq_some_iff
def Qw:=@wpAny_bind
def Qe:=@Heap.get?_push_of_some
def Qr:=@Option.bind_some
def Qt:=@decide_eq_true
def Qy:=@Heap.lt_size
def Qu:=@Option.map_eq_some_iff
def Qi:=@List.length_cons
def Qo:=@wpAny_pure
def Qp:=@List.getElem?_eq_getElem
def Qa:=@Heap.get?_push_size
def Qs:=@List.size_toArray
def Qd:=@List.mem_cons_of_mem
def Qf:=@decide_eq_false
def Qg:=@List.length_map
def Qh:=@List.mem_cons_self
def Qj:=@List.map_cons
def Qk:=@Nat.le_refl
def Ql:=@List.getElem?_eq_some_iff
def Qz:=@List.mem_cons
def Qx:=@if_pos
def Qc:=@Bool.false_ne_true
def Qv:=@List.all_eq_true
def Qb:=@List.length_append
def Qn:=@Bool.and_eq_true
def Qm:=@Nat.lt_of_lt_of_le
def Wq:=@List.getD_eq_getElem?_getD
def Ww:=@Nat.lt_irrefl
def We:=@Nat.ne_of_lt
def Wr:=@List.getElem?_cons_succ
def Wt:=@List.getElem?_set_ne
def Wy:=@if_neg
def Wu:=@List.getElem?_map
def Wi:=@Nat.le_trans
def Wo:=@decide_eq_true_eq
def Wp:=@Option.some.inj
def Wa:=@List.append_nil
def Ws:=@wpAny_loadPart_at
def Wd:=@Nat.le_of_lt
def Wf:=@Heap.get?_update_self
def Wg:=@Bool.false_eq_true
def Wh:=@List.mem_singleton
def Wj:=@List.replicate_succ
def Wk:=@Option.map_some
def Wl:=@List.map_append
def Wz:=@Heap.get?_update_other
def Wx:=@List.mem_map
def Wc:=@List.mem_append_right
def Wv:=@List.getElem?_cons_zero
def Wb:=@wpAny_field
def Wn:=@Around.under_plainId
def Wm:=@Bool.and_eq_true_iff
def Ew:=@PyProof.Rows.callWith_type1
def Ee:=@wpAny_seqItems
def Er:=@List.lookup_cons
def Et:=@List.not_mem_nil
def Ey:=@PassesOwn.never
def Eu:=@PySem.F.plainAttrs_str
def Ei:=@beq_eq_false_iff_ne
def Eo:=@List.nil_append
def Ep:=@List.cons_append
def Ea:=@PySem.F.plainAttrs_list
def Es:=@List.getElem?_append_right
def Ed:=@Nat.pow_pos
def Eg:=@List.getElem?_set_self
def Eh:=@List.mem_append
def Ej:=@List.reverse_cons
def Ek:=@Heap.size_push
def El:=@plainId_quiet
def Ez:=@codeAny_builtin
def Ex:=@wpAny_ite_split
def Ec:=@Int.natAbs_natCast
def Ev:=@Nat.mul_comm
def Eb:=@wpAny_truthy_bool
def En:=@PySem.mem_of_lookup
def Em:=@wpAny_newObj_type
def Rq:=@wpAny_holding
def Rw:=@List.getElem?_append_left
def Re:=@List.length_nil
def Rr:=@PySem.F.slot_list_append
def Rt:=@PySem.F.type_list_append
def Ry:=@List.getElem?_replicate
def Ru:=@wpAny_callSpecial?_slot
def Ri:=@Nat.mul_assoc
def Ro:=@List.map_nil
def Rp:=@wpAny_mono
def Ra:=@List.append_assoc
def Rs:=@Int.toNat_natCast
def Rf:=@Array.getElem?_eq_some_iff
def Rg:=@congrArg
def Rh:=@wpAny_Call_Name_kw
def Rj:=@Nat.lt_of_le_of_lt
def Rk:=@wpAny_setField_rec
def Rl:=@builtinLookup_eq_fast
def Rz:=@List.contains_cons
def Rx:=@List.getElem?_eq_none
def Rc:=@Nat.add_assoc
def Rv:=@Nat.pow_succ
def Rb:=@List.replicate_succ'
def Rn:=@Nat.pow_lt_pow_right
def Rm:=@Nat.pow_le_pow_right
def Tq:=@beq_iff_eq
def Tw:=@Option.isSome_iff_exists
def Te:=@of_decide_eq_true
def Tt:=@wpAny_updateSeq
def Tu:=@Array.length_toList
def Ti:=@List.map_congr_left
def To:=@List.mem_range
def Tp:=@if_true
def Ta:=@if_false
def Ts:=@wpAny_passesOwn
def Td:=@Nat.le_succ
def Tg:=@List.length_set
def Th:=@List.length_singleton
def Tj:=@Bool.or_eq_true
def Tk:=@Int.natCast_mul
def Tl:=@List.flatten_cons
def Tz:=@List.mem_of_getElem?
def Tx:=@wpAny_is_other
def Tc:=@Nat.mul_le_mul
def Tv:=@MeetsSeq.plain_index_loop
def Tb:=@beq_self_eq_true
def Yq:=@wpAny_call_entry
def Yw:=@List.filterMap_cons
def Ye:=@Nat.zero_le
def Yr:=@List.length_reverse
def Yt:=@Nat.mul_pos
def Yy:=@call_meets
def Yu:=@List.map_map
def Yi:=@wpAny_execs_nil
def Yo:=@Bool.eq_iff_iff
def Yp:=@or_false
def Ya:=@List.pairwise_cons
def Ys:=@typeLookup_type
def Yd:=@List.eraseIdx_cons_succ
def Yf:=@Int.emod_lt_of_pos
def Yg:=@wpAny_letGo
def Yh:=@List.nodup_append
def Yj:=@List.length_replicate
def Yk:=@List.getElem_mem
def Yl:=@List.mem_flatMap
def Yz:=@Nat.mod_eq_of_lt
def Yx:=@List.nodup_cons
def Yc:=@SeqAt.EqAt.same
def Yv:=@List.forIn_cons
def Yb:=@Heap.SameBut.update
def Yn:=@wpAny_specialOf
def Ym:=@wpAny_isSubtype_exc
def Uq:=@List.find?_cons
def Uw:=@Int.emod_nonneg
def Ue:=@Int.fdiv_eq_ediv_of_nonneg
def Ur:=@List.mem_filterMap
def Ut:=@codeAny_mono
def Uy:=@PySem.W.callWith_K
def Uu:=@Array.forIn_toList
def Ui:=@Heap.get?_some_iff
def Uo:=@Nat.lt_or_eq_of_le
def Up:=@wpAny_tryCatch
def Ua:=@wpAny_pyIter_list
def Us:=@List.getElem?_set
def Ud:=@wpAny_standAt
def Uf:=@sizeLine_eq
def Ug:=@List.all_cons
def Uh:=@wpAny_onRaise
def Uj:=@Nat.one_mul
def Uk:=@wpAny_execs_cons
def Ul:=@List.length_take
def Uz:=@wpAny_isInstance
def Ux:=@List.cons_ne_nil
def Uc:=@List.mem_reverse
def Uv:=@List.map_reverse
def Ub:=@wpAny_nextOf_list_item
def Um:=@PySem.F.slot_str_split
def Iq:=@PySem.F.type_str_split
def Iw:=@List.contains_iff_mem
def Ie:=@List.getElem?_toArray
def Ir:=@Array.getElem?_setIfInBounds_self_of_lt
def Iy:=@PySem.F.slot_str_find
def Iu:=@PySem.F.type_str_find
def Ii:=@PySem.F.slot_str_join
def Ip:=@PySem.F.type_str_join
def Ia:=@List.singleton_append
def Ig:=@wpAny_call
def Ih:=@typeIs_str
def Ij:=@List.mem_append_left
def Ik:=@SeqAt.EqAt.bool_bool
def Il:=@wpAny_updateSeq_pair
def Ix:=@codeAny_call_builtin
def Ic:=@List.forIn_nil
def Iv:=@ne_true_of_eq_false
def Ib:=@Nat.pow_mul
def Im:=@Nat.mul_le_mul_left
def Oq:=@wpAny_pyIter_tuple
def Ow:=@Array.find?_toList
def Oe:=@Calls.spliced_cons
def Ot:=@evalPart_none
def Oy:=@SeqAt.EqAt.int_int
def Ou:=@wpAny_attempt
def Oi:=@List.cons.inj
def Oo:=@List.sum_cons
def Op:=@plainObj_wpAny_Assign_Attribute
def Oa:=@Calls.spliced_nil
def Os:=@typeIs_int
def Od:=@wpAny_rule
def Og:=@wpAny_typeOf
def Oh:=@wpAny_lookBehind
def Oj:=@pastItsLine_dict
def Ol:=@Nat.lt_succ_self
def Oz:=@wpAny_pyIter_zip
def Ox:=@List.of_mem_zip
def Oc:=@Iff.rfl
def Ov:=@Nat.not_lt_zero
def Ob:=@wpAny_of_eq
def On:=@Nat.mul_one
def Om:=@Calls.Name_function_global
def Pq:=@SeqAt.RcNeAt.lists_lengths
def Pw:=@wpAny_binaryOp_repeat_ref
def Pe:=@List.drop_eq_getElem_cons
def Pr:=@wpAny_setField
def Py:=@MeetsSeq.entry_index_loop
def Pu:=@refuseLoop_ref
end
namespace L2
open PySem PySem.Spec PyProof.Rows
def vY (s:Stmt)(j:Nat):Stmt:=match s with
 | .ClassDef _ _ _ body _ _ _ _ _ _ _=>body.getD j (.Pass ⟨0,0,0,0⟩)
 | _=>.Pass ⟨0,0,0,0⟩
def zB (s:Stmt):Arguments:=match s with
 | .FunctionDef _ a _ _ _ _ _ _ _ _=>a
 | _=>{ posonlyargs:=[],args:=[],vararg:=none,kwonlyargs:=[],kw_defaults:=[],kwarg:=none,defaults:=[] }
def zI (s:Stmt):List Stmt:=match s with
 | .FunctionDef _ _ b _ _ _ _ _ _ _=>b
 | _=>[]
def zU (s:Stmt):Scope:=match s with
 | .FunctionDef _ _ _ _ _ _ sc _ _ _=>sc
 | _=>{ kind:=.function,names:=[],isGenerator:=false,isCoroutine:=false }
end L2
namespace My
open PySem L2
def top (i:Nat):Stmt:=PySem.Challenge.pw_curveyard_k51_whole_joined_or_shown.main.body.getD i (.Pass ⟨0,0,0,0⟩)
end My
namespace My
open PySem PySem.W L2 PyData
def zUh:Params->Frag:=fun P =>
 (nat_lit 3,⟨.type "dict",none,.dict #[⟨keyHash P "__name__",.str "__name__" 165,.str "law_curveyard_k51_whole_joined_or_shown" 612⟩,⟨keyHash P "__doc__",.str "__doc__" 166,.none⟩,⟨keyHash P "__package__",.str "__package__" 167,.none⟩,⟨keyHash P "__loader__",.str "__loader__" 168,.builtin "__main__.__loader__#opaque"⟩,⟨keyHash P "__spec__",.str "__spec__" 169,.none⟩,⟨keyHash P "__annotations__",.str "__annotations__" 170,.ref 6⟩,⟨keyHash P "__builtins__",.str "__builtins__" 171,.ref 4⟩,⟨keyHash P "__file__",.str "__file__" 173,.str "/claim/cut.py" 172⟩,⟨keyHash P "__cached__",.str "__cached__" 174,.none⟩,⟨keyHash P "BITS",.str "BITS" 190,.str "01" 189⟩,⟨keyHash P "FLIPS",.str "FLIPS" 192,.str "+-" 191⟩,⟨keyHash P "AXES",.str "AXES" 194,.str "xyz" 193⟩,⟨keyHash P "turned",.str "turned" 200,.ref 19⟩,⟨keyHash P "still",.str "still" 206,.ref 24⟩,⟨keyHash P "after",.str "after" 212,.ref 29⟩,⟨keyHash P "turn_of",.str "turn_of" 218,.ref 34⟩,⟨keyHash P "corner_of",.str "corner_of" 224,.ref 39⟩,⟨keyHash P "Part",.str "Part" 259,.ref 56⟩,⟨keyHash P "Curve",.str "Curve" 294,.ref 77⟩,⟨keyHash P "first_state",.str "first_state" 301,.ref 88⟩,⟨keyHash P "part_at",.str "part_at" 314,.ref 95⟩,⟨keyHash P "walked",.str "walked" 323,.ref 102⟩,⟨keyHash P "YardError",.str "YardError" 343,.ref 112⟩,⟨keyHash P "OffFloor",.str "OffFloor" 359,.ref 125⟩,⟨keyHash P "TextError",.str "TextError" 384,.ref 144⟩,⟨keyHash P "BadRow",.str "BadRow" 400,.ref 156⟩,⟨keyHash P "CornerTwice",.str "CornerTwice" 416,.ref 168⟩,⟨keyHash P "Unmet",.str "Unmet" 445,.ref 187⟩,⟨keyHash P "LETTERS",.str "LETTERS" 449,.str "abcdefghijklmnopqrstuvwxyz" 448⟩,⟨keyHash P "LONGEST_WORD",.str "LONGEST_WORD" 451,.int 12 450⟩,⟨keyHash P "is_word",.str "is_word" 458,.ref 196⟩,⟨keyHash P "is_made_of",.str "is_made_of" 464,.ref 201⟩,⟨keyHash P "full",.str "full" 476,.ref 208⟩,⟨keyHash P "place_at",.str "place_at" 489,.ref 215⟩,⟨keyHash P "digits_of",.str "digits_of" 500,.ref 222⟩,⟨keyHash P "deeper",.str "deeper" 506,.ref 227⟩,⟨keyHash P "next_to",.str "next_to" 512,.ref 232⟩,⟨keyHash P "unmet_at",.str "unmet_at" 530,.ref 239⟩,⟨keyHash P "meeting_of",.str "meeting_of" 536,.ref 244⟩,⟨keyHash P "PROMISES",.str "PROMISES" 543,.ref 245⟩,⟨keyHash P "DIMS",.str "DIMS" 550,.ref 246⟩,⟨keyHash P "curve_of",.str "curve_of" 560,.ref 253⟩,⟨keyHash P "curve_from",.str "curve_from" 574,.ref 260⟩,⟨keyHash P "words_at",.str "words_at" 582,.ref 267⟩,⟨keyHash P "read_head",.str "read_head" 589,.ref 274⟩,⟨keyHash P "read_part",.str "read_part" 601,.ref 281⟩,⟨keyHash P "fitted",.str "fitted" 611,.ref 288⟩,⟨keyHash P "_law_cell_at",.str "_law_cell_at" 621,.ref 295⟩,⟨keyHash P "_law_mix",.str "_law_mix" 630,.ref 302⟩,⟨keyHash P "_law_cut",.str "_law_cut" 639,.ref 309⟩,⟨keyHash P "_law_turned",.str "_law_turned" 645,.ref 314⟩,⟨keyHash P "_law_after",.str "_law_after" 651,.ref 319⟩,⟨keyHash P "_law_undone",.str "_law_undone" 660,.ref 326⟩,⟨keyHash P "_law_turn",.str "_law_turn" 666,.ref 331⟩,⟨keyHash P "_law_base",.str "_law_base" 675,.ref 338⟩,⟨keyHash P "_law_joined",.str "_law_joined" 681,.ref 343⟩,⟨keyHash P "_law_corners",.str "_law_corners" 687,.ref 348⟩,⟨keyHash P "_law_loose",.str "_law_loose" 699,.ref 355⟩,⟨keyHash P "_law_altered",.str "_law_altered" 714,.ref 362⟩,⟨keyHash P "_law_fourth",.str "_law_fourth" 728,.ref 369⟩,⟨keyHash P "_law_drawn",.str "_law_drawn" 737,.ref 376⟩,⟨keyHash P "_law_text",.str "_law_text" 743,.ref 381⟩,⟨keyHash P "_law_level",.str "_law_level" 750,.ref 388⟩,⟨keyHash P "_law_number",.str "_law_number" 763,.ref 395⟩,⟨keyHash P "_law_ahead",.str "_law_ahead" 778,.ref 402⟩,⟨keyHash P "_law_met",.str "_law_met" 784,.ref 407⟩,⟨keyHash P "_law_shown",.str "_law_shown" 795,.ref 414⟩,⟨keyHash P "law",.str "law" 811,.ref 421⟩] 68,#[]⟩) ::
 (nat_lit 18,⟨.type "code",none,.fields #[.str "turned" 195,.str "turned" 196,.str "/claim/cut.py" 197,.int 5 0,.int 2 0,.int 0 0,.int 0 0,.int 3 0,.ref 15,.bool true,.int 181 0,.ref 16,.none,.none,.none,.ref 17,.int 198 0,.int 5 0,.str "/claim/cut.py" 199],#[]⟩) ::
 (nat_lit 19,⟨.type "function",none,.func (fnOf "turned" "turned" (zB (top 4)) (zI (top 4)) (zU (top 4)) (.none) (.none) (.none) (.str "curveyard.turns" 187) none (.ref 18) (.none)),#[]⟩) ::
 (nat_lit 23,⟨.type "code",none,.fields #[.str "still" 201,.str "still" 202,.str "/claim/cut.py" 203,.int 7 0,.int 1 0,.int 0 0,.int 0 0,.int 3 0,.ref 20,.bool true,.int 181 0,.ref 21,.none,.none,.none,.ref 22,.int 204 0,.int 7 0,.str "/claim/cut.py" 205],#[]⟩) ::
 (nat_lit 24,⟨.type "function",none,.func (fnOf "still" "still" (zB (top 5)) (zI (top 5)) (zU (top 5)) (.none) (.none) (.none) (.str "curveyard.turns" 187) none (.ref 23) (.none)),#[]⟩) ::
 (nat_lit 28,⟨.type "code",none,.fields #[.str "after" 207,.str "after" 208,.str "/claim/cut.py" 209,.int 9 0,.int 2 0,.int 0 0,.int 0 0,.int 3 0,.ref 25,.bool true,.int 181 0,.ref 26,.none,.none,.none,.ref 27,.int 210 0,.int 9 0,.str "/claim/cut.py" 211],#[]⟩) ::
 (nat_lit 29,⟨.type "function",none,.func (fnOf "after" "after" (zB (top 6)) (zI (top 6)) (zU (top 6)) (.none) (.none) (.none) (.str "curveyard.turns" 187) none (.ref 28) (.none)),#[]⟩) ::
 (nat_lit 33,⟨.type "code",none,.fields #[.str "turn_of" 213,.str "turn_of" 214,.str "/claim/cut.py" 215,.int 11 0,.int 2 0,.int 0 0,.int 0 0,.int 3 0,.ref 30,.bool true,.int 181 0,.ref 31,.none,.none,.none,.ref 32,.int 216 0,.int 11 0,.str "/claim/cut.py" 217],#[]⟩) ::
 (nat_lit 34,⟨.type "function",none,.func (fnOf "turn_of" "turn_of" (zB (top 7)) (zI (top 7)) (zU (top 7)) (.none) (.none) (.none) (.str "curveyard.turns" 187) none (.ref 33) (.none)),#[]⟩) ::
 (nat_lit 38,⟨.type "code",none,.fields #[.str "corner_of" 219,.str "corner_of" 220,.str "/claim/cut.py" 221,.int 19 0,.int 2 0,.int 0 0,.int 0 0,.int 3 0,.ref 35,.bool true,.int 181 0,.ref 36,.none,.none,.none,.ref 37,.int 222 0,.int 19 0,.str "/claim/cut.py" 223],#[]⟩) ::
 (nat_lit 39,⟨.type "function",none,.func (fnOf "corner_of" "corner_of" (zB (top 8)) (zI (top 8)) (zU (top 8)) (.none) (.none) (.none) (.str "curveyard.turns" 187) none (.ref 38) (.none)),#[]⟩) ::
 (nat_lit 52,⟨.type "code",none,.fields #[.str "__init__" 239,.str "Part.__init__" 240,.str "/claim/cut.py" 241,.int 27 0,.int 4 0,.int 0 0,.int 0 0,.int 3 0,.ref 47,.bool true,.int 181 0,.ref 48,.none,.ref 49,.ref 50,.ref 51,.int 246 0,.int 27 0,.str "/claim/cut.py" 247],#[]⟩) ::
 (nat_lit 53,⟨.type "function",none,.func (fnOf "__init__" "Part.__init__" (zB (vY (top 10) 0)) (zI (vY (top 10) 0)) (zU (vY (top 10) 0)) (.none) (.none) (.none) (.str "curveyard.curves" 225) none (.ref 52) (.none)),#[]⟩) ::
 (nat_lit 55,⟨.type "dict",none,.dict #[⟨keyHash P "__module__",.str "__module__" 234,.str "curveyard.curves" 225⟩,⟨keyHash P "__firstlineno__",.str "__firstlineno__" 238,.int 25 237⟩,⟨keyHash P "__init__",.str "__init__" 248,.ref 53⟩,⟨keyHash P "__static_attributes__",.str "__static_attributes__" 252,.ref 54⟩,⟨keyHash P "__dict__",.str "__dict__" 254,.ref 57⟩,⟨keyHash P "__weakref__",.str "__weakref__" 256,.ref 58⟩,⟨keyHash P "__doc__",.str "__doc__" 257,.none⟩] 4,#[]⟩) ::
 (nat_lit 56,⟨.type "type",none,.cls { name:="Part",bases:=[.type "object"],mro:=[.ref 56,.type "object"],ns:=55,qualname:="Part",hasDict:=true,slotNames:=[],subclasses:=[],abstract:=false,collection:=none,hasDel:=false },#[none,none,some (.str "Part" 227),some (.str "Part" 235),some (.builtin "object.__new__"),some (.bool true)]⟩) ::
 (nat_lit 57,⟨.type "getset_descriptor",none,.fields #[.str "__dict__" 253,.ref 56,.builtin "function.__dict__",.builtin "function.__dict__#set"],#[]⟩) ::
 (nat_lit 58,⟨.type "getset_descriptor",none,.fields #[.str "__weakref__" 255,.ref 56,.builtin "ExceptionGroup.__weakref__",.none],#[]⟩) ::
 (nat_lit 73,⟨.type "code",none,.fields #[.str "__init__" 272,.str "Curve.__init__" 273,.str "/claim/cut.py" 274,.int 33 0,.int 5 0,.int 0 0,.int 0 0,.int 3 0,.ref 68,.bool true,.int 181 0,.ref 69,.none,.ref 70,.ref 71,.ref 72,.int 280 0,.int 33 0,.str "/claim/cut.py" 281],#[]⟩) ::
 (nat_lit 74,⟨.type "function",none,.func (fnOf "__init__" "Curve.__init__" (zB (vY (top 11) 0)) (zI (vY (top 11) 0)) (zU (vY (top 11) 0)) (.none) (.none) (.none) (.str "curveyard.curves" 225) none (.ref 73) (.none)),#[]⟩) ::
 (nat_lit 76,⟨.type "dict",none,.dict #[⟨keyHash P "__module__",.str "__module__" 267,.str "curveyard.curves" 225⟩,⟨keyHash P "__firstlineno__",.str "__firstlineno__" 271,.int 31 270⟩,⟨keyHash P "__init__",.str "__init__" 282,.ref 74⟩,⟨keyHash P "__static_attributes__",.str "__static_attributes__" 287,.ref 75⟩,⟨keyHash P "__dict__",.str "__dict__" 289,.ref 78⟩,⟨keyHash P "__weakref__",.str "__weakref__" 291,.ref 79⟩,⟨keyHash P "__doc__",.str "__doc__" 292,.none⟩] 4,#[]⟩) ::
 (nat_lit 77,⟨.type "type",none,.cls { name:="Curve",bases:=[.type "object"],mro:=[.ref 77,.type "object"],ns:=76,qualname:="Curve",hasDict:=true,slotNames:=[],subclasses:=[],abstract:=false,collection:=none,hasDel:=false },#[none,none,some (.str "Curve" 260),some (.str "Curve" 268),some (.builtin "object.__new__"),some (.bool true)]⟩) ::
 (nat_lit 78,⟨.type "getset_descriptor",none,.fields #[.str "__dict__" 288,.ref 77,.builtin "function.__dict__",.builtin "function.__dict__#set"],#[]⟩) ::
 (nat_lit 79,⟨.type "getset_descriptor",none,.fields #[.str "__weakref__" 290,.ref 77,.builtin "ExceptionGroup.__weakref__",.none],#[]⟩) ::
 (nat_lit 87,⟨.type "code",none,.fields #[.str "first_state" 295,.str "first_state" 296,.str "/claim/cut.py" 297,.int 38 0,.int 1 0,.int 0 0,.int 0 0,.int 3 0,.ref 82,.bool true,.int 181 0,.ref 83,.none,.ref 84,.ref 85,.ref 86,.int 299 0,.int 38 0,.str "/claim/cut.py" 300],#[]⟩) ::
 (nat_lit 88,⟨.type "function",none,.func (fnOf "first_state" "first_state" (zB (top 12)) (zI (top 12)) (zU (top 12)) (.none) (.none) (.none) (.str "curveyard.curves" 225) none (.ref 87) (.none)),#[]⟩) ::
 (nat_lit 94,⟨.type "code",none,.fields #[.str "part_at" 302,.str "part_at" 303,.str "/claim/cut.py" 304,.int 40 0,.int 3 0,.int 0 0,.int 0 0,.int 3 0,.ref 89,.bool true,.int 181 0,.ref 90,.none,.ref 91,.ref 92,.ref 93,.int 312 0,.int 40 0,.str "/claim/cut.py" 313],#[]⟩) ::
 (nat_lit 95,⟨.type "function",none,.func (fnOf "part_at" "part_at" (zB (top 13)) (zI (top 13)) (zU (top 13)) (.none) (.none) (.none) (.str "curveyard.curves" 225) none (.ref 94) (.none)),#[]⟩) ::
 (nat_lit 101,⟨.type "code",none,.fields #[.str "walked" 315,.str "walked" 316,.str "/claim/cut.py" 317,.int 45 0,.int 3 0,.int 0 0,.int 0 0,.int 3 0,.ref 96,.bool true,.int 181 0,.ref 97,.none,.ref 98,.ref 99,.ref 100,.int 321 0,.int 45 0,.str "/claim/cut.py" 322],#[]⟩) ::
 (nat_lit 102,⟨.type "function",none,.func (fnOf "walked" "walked" (zB (top 14)) (zI (top 14)) (zU (top 14)) (.none) (.none) (.none) (.str "curveyard.curves" 225) none (.ref 101) (.none)),#[]⟩) ::
 (nat_lit 111,⟨.type "dict",none,.dict #[⟨keyHash P "__module__",.str "__module__" 333,.str "curveyard.errors" 324⟩,⟨keyHash P "__firstlineno__",.str "__firstlineno__" 337,.int 48 336⟩,⟨keyHash P "__static_attributes__",.str "__static_attributes__" 338,.ref 110⟩,⟨keyHash P "__weakref__",.str "__weakref__" 340,.ref 113⟩,⟨keyHash P "__doc__",.str "__doc__" 341,.none⟩] 3,#[]⟩) ::
 (nat_lit 112,⟨.type "type",none,.cls { name:="YardError",bases:=[.type "ValueError"],mro:=[.ref 112,.type "ValueError",.type "Exception",.type "BaseException",.type "object"],ns:=111,qualname:="YardError",hasDict:=true,slotNames:=[],subclasses:=[.ref 125,.ref 144,.ref 187],abstract:=false,collection:=none,hasDel:=false },#[some (.ref 103),none,some (.str "YardError" 326),some (.str "YardError" 334),some (.builtin "ValueError.__new__"),some (.bool true)]⟩) ::
 (nat_lit 113,⟨.type "getset_descriptor",none,.fields #[.str "__weakref__" 339,.ref 112,.builtin "ExceptionGroup.__weakref__",.none],#[]⟩) ::
 (nat_lit 124,⟨.type "dict",none,.dict #[⟨keyHash P "__module__",.str "__module__" 351,.str "curveyard.errors" 324⟩,⟨keyHash P "__firstlineno__",.str "__firstlineno__" 355,.int 50 354⟩,⟨keyHash P "__static_attributes__",.str "__static_attributes__" 356,.ref 123⟩,⟨keyHash P "__doc__",.str "__doc__" 357,.none⟩] 2,#[]⟩) ::
 (nat_lit 125,⟨.type "type",none,.cls { name:="OffFloor",bases:=[.ref 112],mro:=[.ref 125,.ref 112,.type "ValueError",.type "Exception",.type "BaseException",.type "object"],ns:=124,qualname:="OffFloor",hasDict:=true,slotNames:=[],subclasses:=[],abstract:=false,collection:=none,hasDel:=false },#[some (.ref 116),none,some (.str "OffFloor" 344),some (.str "OffFloor" 352),some (.builtin "ValueError.__new__"),some (.bool true)]⟩) ::
 (nat_lit 140,⟨.type "code",none,.fields #[.str "__init__" 372,.str "TextError.__init__" 373,.str "/claim/cut.py" 374,.int 54 0,.int 2 0,.int 0 0,.int 0 0,.int 3 0,.ref 135,.bool true,.int 181 0,.ref 136,.none,.ref 137,.ref 138,.ref 139,.int 377 0,.int 54 0,.str "/claim/cut.py" 378],#[]⟩) ::
 (nat_lit 141,⟨.type "function",none,.func (fnOf "__init__" "TextError.__init__" (zB (vY (top 18) 0)) (zI (vY (top 18) 0)) (zU (vY (top 18) 0)) (.none) (.none) (.none) (.str "curveyard.errors" 324) none (.ref 140) (.none)),#[]⟩) ::
 (nat_lit 143,⟨.type "dict",none,.dict #[⟨keyHash P "__module__",.str "__module__" 367,.str "curveyard.errors" 324⟩,⟨keyHash P "__firstlineno__",.str "__firstlineno__" 371,.int 52 370⟩,⟨keyHash P "__init__",.str "__init__" 379,.ref 141⟩,⟨keyHash P "__static_attributes__",.str "__static_attributes__" 381,.ref 142⟩,⟨keyHash P "__doc__",.str "__doc__" 382,.none⟩] 2,#[]⟩) ::
 (nat_lit 144,⟨.type "type",none,.cls { name:="TextError",bases:=[.ref 112],mro:=[.ref 144,.ref 112,.type "ValueError",.type "Exception",.type "BaseException",.type "object"],ns:=143,qualname:="TextError",hasDict:=true,slotNames:=[],subclasses:=[.ref 156,.ref 168],abstract:=false,collection:=none,hasDel:=false },#[some (.ref 128),none,some (.str "TextError" 360),some (.str "TextError" 368),some (.builtin "ValueError.__new__"),some (.bool true)]⟩) ::
 (nat_lit 155,⟨.type "dict",none,.dict #[⟨keyHash P "__module__",.str "__module__" 392,.str "curveyard.errors" 324⟩,⟨keyHash P "__firstlineno__",.str "__firstlineno__" 396,.int 56 395⟩,⟨keyHash P "__static_attributes__",.str "__static_attributes__" 397,.ref 154⟩,⟨keyHash P "__doc__",.str "__doc__" 398,.none⟩] 2,#[]⟩) ::
 (nat_lit 156,⟨.type "type",none,.cls { name:="BadRow",bases:=[.ref 144],mro:=[.ref 156,.ref 144,.ref 112,.type "ValueError",.type "Exception",.type "BaseException",.type "object"],ns:=155,qualname:="BadRow",hasDict:=true,slotNames:=[],subclasses:=[],abstract:=false,collection:=none,hasDel:=false },#[some (.ref 147),none,some (.str "BadRow" 385),some (.str "BadRow" 393),some (.builtin "ValueError.__new__"),some (.bool true)]⟩) ::
 (nat_lit 167,⟨.type "dict",none,.dict #[⟨keyHash P "__module__",.str "__module__" 408,.str "curveyard.errors" 324⟩,⟨keyHash P "__firstlineno__",.str "__firstlineno__" 412,.int 58 411⟩,⟨keyHash P "__static_attributes__",.str "__static_attributes__" 413,.ref 166⟩,⟨keyHash P "__doc__",.str "__doc__" 414,.none⟩] 2,#[]⟩) ::
 (nat_lit 168,⟨.type "type",none,.cls { name:="CornerTwice",bases:=[.ref 144],mro:=[.ref 168,.ref 144,.ref 112,.type "ValueError",.type "Exception",.type "BaseException",.type "object"],ns:=167,qualname:="CornerTwice",hasDict:=true,slotNames:=[],subclasses:=[],abstract:=false,collection:=none,hasDel:=false },#[some (.ref 159),none,some (.str "CornerTwice" 401),some (.str "CornerTwice" 409),some (.builtin "ValueError.__new__"),some (.bool true)]⟩) ::
 (nat_lit 183,⟨.type "code",none,.fields #[.str "__init__" 429,.str "Unmet.__init__" 430,.str "/claim/cut.py" 431,.int 62 0,.int 4 0,.int 0 0,.int 0 0,.int 3 0,.ref 178,.bool true,.int 181 0,.ref 179,.none,.ref 180,.ref 181,.ref 182,.int 436 0,.int 62 0,.str "/claim/cut.py" 437],#[]⟩) ::
 (nat_lit 184,⟨.type "function",none,.func (fnOf "__init__" "Unmet.__init__" (zB (vY (top 21) 0)) (zI (vY (top 21) 0)) (zU (vY (top 21) 0)) (.none) (.none) (.none) (.str "curveyard.errors" 324) none (.ref 183) (.none)),#[]⟩) ::
 (nat_lit 186,⟨.type "dict",none,.dict #[⟨keyHash P "__module__",.str "__module__" 424,.str "curveyard.errors" 324⟩,⟨keyHash P "__firstlineno__",.str "__firstlineno__" 428,.int 60 427⟩,⟨keyHash P "__init__",.str "__init__" 438,.ref 184⟩,⟨keyHash P "__static_attributes__",.str "__static_attributes__" 442,.ref 185⟩,⟨keyHash P "__doc__",.str "__doc__" 443,.none⟩] 2,#[]⟩) ::
 (nat_lit 187,⟨.type "type",none,.cls { name:="Unmet",bases:=[.ref 112],mro:=[.ref 187,.ref 112,.type "ValueError",.type "Exception",.type "BaseException",.type "object"],ns:=186,qualname:="Unmet",hasDict:=true,slotNames:=[],subclasses:=[],abstract:=false,collection:=none,hasDel:=false },#[some (.ref 171),none,some (.str "Unmet" 417),some (.str "Unmet" 425),some (.builtin "ValueError.__new__"),some (.bool true)]⟩) ::
 (nat_lit 195,⟨.type "code",none,.fields #[.str "is_word" 452,.str "is_word" 453,.str "/claim/cut.py" 454,.int 69 0,.int 1 0,.int 0 0,.int 0 0,.int 3 0,.ref 190,.bool true,.int 181 0,.ref 191,.none,.ref 192,.ref 193,.ref 194,.int 456 0,.int 69 0,.str "/claim/cut.py" 457],#[]⟩) ::
 (nat_lit 196,⟨.type "function",none,.func (fnOf "is_word" "is_word" (zB (top 25)) (zI (top 25)) (zU (top 25)) (.none) (.none) (.none) (.str "curveyard.figures" 446) none (.ref 195) (.none)),#[]⟩) ::
 (nat_lit 200,⟨.type "code",none,.fields #[.str "is_made_of" 459,.str "is_made_of" 460,.str "/claim/cut.py" 461,.int 71 0,.int 3 0,.int 0 0,.int 0 0,.int 3 0,.ref 197,.bool true,.int 181 0,.ref 198,.none,.none,.none,.ref 199,.int 462 0,.int 71 0,.str "/claim/cut.py" 463],#[]⟩) ::
 (nat_lit 201,⟨.type "function",none,.func (fnOf "is_made_of" "is_made_of" (zB (top 26)) (zI (top 26)) (zU (top 26)) (.none) (.none) (.none) (.str "curveyard.figures" 446) none (.ref 200) (.none)),#[]⟩) ::
 (nat_lit 207,⟨.type "code",none,.fields #[.str "full" 467,.str "full" 468,.str "/claim/cut.py" 469,.int 74 0,.int 2 0,.int 0 0,.int 0 0,.int 3 0,.ref 202,.bool true,.int 181 0,.ref 203,.none,.ref 204,.ref 205,.ref 206,.int 474 0,.int 74 0,.str "/claim/cut.py" 475],#[]⟩) ::
 (nat_lit 208,⟨.type "function",none,.func (fnOf "full" "full" (zB (top 28)) (zI (top 28)) (zU (top 28)) (.none) (.none) (.none) (.str "curveyard.numbering" 465) none (.ref 207) (.none)),#[]⟩) ::
 (nat_lit 214,⟨.type "code",none,.fields #[.str "place_at" 477,.str "place_at" 478,.str "/claim/cut.py" 479,.int 79 0,.int 3 0,.int 0 0,.int 0 0,.int 3 0,.ref 209,.bool true,.int 181 0,.ref 210,.none,.ref 211,.ref 212,.ref 213,.int 487 0,.int 79 0,.str "/claim/cut.py" 488],#[]⟩) ::
 (nat_lit 215,⟨.type "function",none,.func (fnOf "place_at" "place_at" (zB (top 29)) (zI (top 29)) (zU (top 29)) (.none) (.none) (.none) (.str "curveyard.numbering" 465) none (.ref 214) (.none)),#[]⟩) ::
 (nat_lit 221,⟨.type "code",none,.fields #[.str "digits_of" 490,.str "digits_of" 491,.str "/claim/cut.py" 492,.int 88 0,.int 3 0,.int 0 0,.int 0 0,.int 3 0,.ref 216,.bool true,.int 181 0,.ref 217,.none,.ref 218,.ref 219,.ref 220,.int 498 0,.int 88 0,.str "/claim/cut.py" 499],#[]⟩) ::
 (nat_lit 222,⟨.type "function",none,.func (fnOf "digits_of" "digits_of" (zB (top 30)) (zI (top 30)) (zU (top 30)) (.none) (.none) (.none) (.str "curveyard.numbering" 465) none (.ref 221) (.none)),#[]⟩) ::
 (nat_lit 226,⟨.type "code",none,.fields #[.str "deeper" 501,.str "deeper" 502,.str "/claim/cut.py" 503,.int 94 0,.int 2 0,.int 0 0,.int 0 0,.int 3 0,.ref 223,.bool true,.int 181 0,.ref 224,.none,.none,.none,.ref 225,.int 504 0,.int 94 0,.str "/claim/cut.py" 505],#[]⟩) ::
 (nat_lit 227,⟨.type "function",none,.func (fnOf "deeper" "deeper" (zB (top 31)) (zI (top 31)) (zU (top 31)) (.none) (.none) (.none) (.str "curveyard.numbering" 465) none (.ref 226) (.none)),#[]⟩) ::
 (nat_lit 231,⟨.type "code",none,.fields #[.str "next_to" 507,.str "next_to" 508,.str "/claim/cut.py" 509,.int 96 0,.int 2 0,.int 0 0,.int 0 0,.int 3 0,.ref 228,.bool true,.int 181 0,.ref 229,.none,.none,.none,.ref 230,.int 510 0,.int 96 0,.str "/claim/cut.py" 511],#[]⟩) ::
 (nat_lit 232,⟨.type "function",none,.func (fnOf "next_to" "next_to" (zB (top 32)) (zI (top 32)) (zU (top 32)) (.none) (.none) (.none) (.str "curveyard.numbering" 465) none (.ref 231) (.none)),#[]⟩) ::
 (nat_lit 238,⟨.type "code",none,.fields #[.str "unmet_at" 515,.str "unmet_at" 516,.str "/claim/cut.py" 517,.int 99 0,.int 2 0,.int 0 0,.int 0 0,.int 3 0,.ref 233,.bool true,.int 181 0,.ref 234,.none,.ref 235,.ref 236,.ref 237,.int 528 0,.int 99 0,.str "/claim/cut.py" 529],#[]⟩) ::
 (nat_lit 239,⟨.type "function",none,.func (fnOf "unmet_at" "unmet_at" (zB (top 34)) (zI (top 34)) (zU (top 34)) (.none) (.none) (.none) (.str "curveyard.fitting" 513) none (.ref 238) (.none)),#[]⟩) ::
 (nat_lit 243,⟨.type "code",none,.fields #[.str "meeting_of" 531,.str "meeting_of" 532,.str "/claim/cut.py" 533,.int 115 0,.int 1 0,.int 0 0,.int 0 0,.int 3 0,.ref 240,.bool true,.int 181 0,.ref 241,.none,.none,.none,.ref 242,.int 534 0,.int 115 0,.str "/claim/cut.py" 535],#[]⟩) ::
 (nat_lit 244,⟨.type "function",none,.func (fnOf "meeting_of" "meeting_of" (zB (top 35)) (zI (top 35)) (zU (top 35)) (.none) (.none) (.none) (.str "curveyard.fitting" 513) none (.ref 243) (.none)),#[]⟩) ::
 (nat_lit 245,⟨.type "dict",none,.dict #[⟨keyHash P "joined",.str "joined" 539,.bool true⟩,⟨keyHash P "loose",.str "loose" 540,.bool false⟩] 2,#[]⟩) ::
 (nat_lit 246,⟨.type "dict",none,.dict #[⟨keyHash P "2",.str "2" 544,.int 2 545⟩,⟨keyHash P "3",.str "3" 546,.int 3 547⟩] 2,#[]⟩) ::
 (nat_lit 252,⟨.type "code",none,.fields #[.str "curve_of" 551,.str "curve_of" 552,.str "/claim/cut.py" 553,.int 124 0,.int 1 0,.int 0 0,.int 0 0,.int 3 0,.ref 247,.bool true,.int 181 0,.ref 248,.none,.ref 249,.ref 250,.ref 251,.int 558 0,.int 124 0,.str "/claim/cut.py" 559],#[]⟩) ::
 (nat_lit 253,⟨.type "function",none,.func (fnOf "curve_of" "curve_of" (zB (top 39)) (zI (top 39)) (zU (top 39)) (.none) (.none) (.none) (.str "curveyard.curvetext" 537) none (.ref 252) (.none)),#[]⟩) ::
 (nat_lit 259,⟨.type "code",none,.fields #[.str "curve_from" 561,.str "curve_from" 562,.str "/claim/cut.py" 563,.int 131 0,.int 1 0,.int 0 0,.int 0 0,.int 3 0,.ref 254,.bool true,.int 181 0,.ref 255,.none,.ref 256,.ref 257,.ref 258,.int 572 0,.int 131 0,.str "/claim/cut.py" 573],#[]⟩) ::
 (nat_lit 260,⟨.type "function",none,.func (fnOf "curve_from" "curve_from" (zB (top 40)) (zI (top 40)) (zU (top 40)) (.none) (.none) (.none) (.str "curveyard.curvetext" 537) none (.ref 259) (.none)),#[]⟩) ::
 (nat_lit 266,⟨.type "code",none,.fields #[.str "words_at" 575,.str "words_at" 576,.str "/claim/cut.py" 577,.int 142 0,.int 2 0,.int 0 0,.int 0 0,.int 3 0,.ref 261,.bool true,.int 181 0,.ref 262,.none,.ref 263,.ref 264,.ref 265,.int 580 0,.int 142 0,.str "/claim/cut.py" 581],#[]⟩) ::
 (nat_lit 267,⟨.type "function",none,.func (fnOf "words_at" "words_at" (zB (top 41)) (zI (top 41)) (zU (top 41)) (.none) (.none) (.none) (.str "curveyard.curvetext" 537) none (.ref 266) (.none)),#[]⟩) ::
 (nat_lit 273,⟨.type "code",none,.fields #[.str "read_head" 583,.str "read_head" 584,.str "/claim/cut.py" 585,.int 146 0,.int 1 0,.int 0 0,.int 0 0,.int 3 0,.ref 268,.bool true,.int 181 0,.ref 269,.none,.ref 270,.ref 271,.ref 272,.int 587 0,.int 146 0,.str "/claim/cut.py" 588],#[]⟩) ::
 (nat_lit 274,⟨.type "function",none,.func (fnOf "read_head" "read_head" (zB (top 42)) (zI (top 42)) (zU (top 42)) (.none) (.none) (.none) (.str "curveyard.curvetext" 537) none (.ref 273) (.none)),#[]⟩) ::
 (nat_lit 280,⟨.type "code",none,.fields #[.str "read_part" 590,.str "read_part" 591,.str "/claim/cut.py" 592,.int 152 0,.int 3 0,.int 0 0,.int 0 0,.int 3 0,.ref 275,.bool true,.int 181 0,.ref 276,.none,.ref 277,.ref 278,.ref 279,.int 599 0,.int 152 0,.str "/claim/cut.py" 600],#[]⟩) ::
 (nat_lit 281,⟨.type "function",none,.func (fnOf "read_part" "read_part" (zB (top 43)) (zI (top 43)) (zU (top 43)) (.none) (.none) (.none) (.str "curveyard.curvetext" 537) none (.ref 280) (.none)),#[]⟩) ::
 (nat_lit 287,⟨.type "code",none,.fields #[.str "fitted" 602,.str "fitted" 603,.str "/claim/cut.py" 604,.int 161 0,.int 1 0,.int 0 0,.int 0 0,.int 3 0,.ref 282,.bool true,.int 181 0,.ref 283,.none,.ref 284,.ref 285,.ref 286,.int 609 0,.int 161 0,.str "/claim/cut.py" 610],#[]⟩) ::
 (nat_lit 288,⟨.type "function",none,.func (fnOf "fitted" "fitted" (zB (top 44)) (zI (top 44)) (zU (top 44)) (.none) (.none) (.none) (.str "curveyard.curvetext" 537) none (.ref 287) (.none)),#[]⟩) ::
 (nat_lit 294,⟨.type "code",none,.fields #[.str "_law_cell_at" 614,.str "_law_cell_at" 615,.str "/claim/cut.py" 616,.int 168 0,.int 2 0,.int 0 0,.int 0 0,.int 3 0,.ref 289,.bool true,.int 181 0,.ref 290,.none,.ref 291,.ref 292,.ref 293,.int 619 0,.int 168 0,.str "/claim/cut.py" 620],#[]⟩) ::
 (nat_lit 295,⟨.type "function",none,.func (fnOf "_law_cell_at" "_law_cell_at" (zB (top 46)) (zI (top 46)) (zU (top 46)) (.none) (.none) (.none) (.str "law_curveyard_k51_whole_joined_or_shown" 612) none (.ref 294) (.none)),#[]⟩) ::
 (nat_lit 301,⟨.type "code",none,.fields #[.str "_law_mix" 622,.str "_law_mix" 623,.str "/claim/cut.py" 624,.int 172 0,.int 2 0,.int 0 0,.int 0 0,.int 3 0,.ref 296,.bool true,.int 181 0,.ref 297,.none,.ref 298,.ref 299,.ref 300,.int 628 0,.int 172 0,.str "/claim/cut.py" 629],#[]⟩) ::
 (nat_lit 302,⟨.type "function",none,.func (fnOf "_law_mix" "_law_mix" (zB (top 47)) (zI (top 47)) (zU (top 47)) (.none) (.none) (.none) (.str "law_curveyard_k51_whole_joined_or_shown" 612) none (.ref 301) (.none)),#[]⟩) ::
 (nat_lit 308,⟨.type "code",none,.fields #[.str "_law_cut" 631,.str "_law_cut" 632,.str "/claim/cut.py" 633,.int 175 0,.int 3 0,.int 0 0,.int 0 0,.int 3 0,.ref 303,.bool true,.int 181 0,.ref 304,.none,.ref 305,.ref 306,.ref 307,.int 637 0,.int 175 0,.str "/claim/cut.py" 638],#[]⟩) ::
 (nat_lit 309,⟨.type "function",none,.func (fnOf "_law_cut" "_law_cut" (zB (top 48)) (zI (top 48)) (zU (top 48)) (.none) (.none) (.none) (.str "law_curveyard_k51_whole_joined_or_shown" 612) none (.ref 308) (.none)),#[]⟩) ::
 (nat_lit 313,⟨.type "code",none,.fields #[.str "_law_turned" 640,.str "_law_turned" 641,.str "/claim/cut.py" 642,.int 179 0,.int 2 0,.int 0 0,.int 0 0,.int 3 0,.ref 310,.bool true,.int 181 0,.ref 311,.none,.none,.none,.ref 312,.int 643 0,.int 179 0,.str "/claim/cut.py" 644],#[]⟩) ::
 (nat_lit 314,⟨.type "function",none,.func (fnOf "_law_turned" "_law_turned" (zB (top 49)) (zI (top 49)) (zU (top 49)) (.none) (.none) (.none) (.str "law_curveyard_k51_whole_joined_or_shown" 612) none (.ref 313) (.none)),#[]⟩) ::
 (nat_lit 318,⟨.type "code",none,.fields #[.str "_law_after" 646,.str "_law_after" 647,.str "/claim/cut.py" 648,.int 181 0,.int 2 0,.int 0 0,.int 0 0,.int 3 0,.ref 315,.bool true,.int 181 0,.ref 316,.none,.none,.none,.ref 317,.int 649 0,.int 181 0,.str "/claim/cut.py" 650],#[]⟩) ::
 (nat_lit 319,⟨.type "function",none,.func (fnOf "_law_after" "_law_after" (zB (top 50)) (zI (top 50)) (zU (top 50)) (.none) (.none) (.none) (.str "law_curveyard_k51_whole_joined_or_shown" 612) none (.ref 318) (.none)),#[]⟩) ::
 (nat_lit 325,⟨.type "code",none,.fields #[.str "_law_undone" 652,.str "_law_undone" 653,.str "/claim/cut.py" 654,.int 183 0,.int 1 0,.int 0 0,.int 0 0,.int 3 0,.ref 320,.bool true,.int 181 0,.ref 321,.none,.ref 322,.ref 323,.ref 324,.int 658 0,.int 183 0,.str "/claim/cut.py" 659],#[]⟩) ::
 (nat_lit 326,⟨.type "function",none,.func (fnOf "_law_undone" "_law_undone" (zB (top 51)) (zI (top 51)) (zU (top 51)) (.none) (.none) (.none) (.str "law_curveyard_k51_whole_joined_or_shown" 612) none (.ref 325) (.none)),#[]⟩) ::
 (nat_lit 330,⟨.type "code",none,.fields #[.str "_law_turn" 661,.str "_law_turn" 662,.str "/claim/cut.py" 663,.int 188 0,.int 2 0,.int 0 0,.int 0 0,.int 3 0,.ref 327,.bool true,.int 181 0,.ref 328,.none,.none,.none,.ref 329,.int 664 0,.int 188 0,.str "/claim/cut.py" 665],#[]⟩) ::
 (nat_lit 331,⟨.type "function",none,.func (fnOf "_law_turn" "_law_turn" (zB (top 52)) (zI (top 52)) (zU (top 52)) (.none) (.none) (.none) (.str "law_curveyard_k51_whole_joined_or_shown" 612) none (.ref 330) (.none)),#[]⟩) ::
 (nat_lit 337,⟨.type "code",none,.fields #[.str "_law_base" 667,.str "_law_base" 668,.str "/claim/cut.py" 669,.int 195 0,.int 1 0,.int 0 0,.int 0 0,.int 3 0,.ref 332,.bool true,.int 181 0,.ref 333,.none,.ref 334,.ref 335,.ref 336,.int 673 0,.int 195 0,.str "/claim/cut.py" 674],#[]⟩) ::
 (nat_lit 338,⟨.type "function",none,.func (fnOf "_law_base" "_law_base" (zB (top 53)) (zI (top 53)) (zU (top 53)) (.none) (.none) (.none) (.str "law_curveyard_k51_whole_joined_or_shown" 612) none (.ref 337) (.none)),#[]⟩) ::
 (nat_lit 342,⟨.type "code",none,.fields #[.str "_law_joined" 676,.str "_law_joined" 677,.str "/claim/cut.py" 678,.int 205 0,.int 2 0,.int 0 0,.int 0 0,.int 3 0,.ref 339,.bool true,.int 181 0,.ref 340,.none,.none,.none,.ref 341,.int 679 0,.int 205 0,.str "/claim/cut.py" 680],#[]⟩) ::
 (nat_lit 343,⟨.type "function",none,.func (fnOf "_law_joined" "_law_joined" (zB (top 54)) (zI (top 54)) (zU (top 54)) (.none) (.none) (.none) (.str "law_curveyard_k51_whole_joined_or_shown" 612) none (.ref 342) (.none)),#[]⟩) ::
 (nat_lit 347,⟨.type "code",none,.fields #[.str "_law_corners" 682,.str "_law_corners" 683,.str "/claim/cut.py" 684,.int 221 0,.int 1 0,.int 0 0,.int 0 0,.int 3 0,.ref 344,.bool true,.int 181 0,.ref 345,.none,.none,.none,.ref 346,.int 685 0,.int 221 0,.str "/claim/cut.py" 686],#[]⟩) ::
 (nat_lit 348,⟨.type "function",none,.func (fnOf "_law_corners" "_law_corners" (zB (top 55)) (zI (top 55)) (zU (top 55)) (.none) (.none) (.none) (.str "law_curveyard_k51_whole_joined_or_shown" 612) none (.ref 347) (.none)),#[]⟩) ::
 (nat_lit 354,⟨.type "code",none,.fields #[.str "_law_loose" 688,.str "_law_loose" 689,.str "/claim/cut.py" 690,.int 226 0,.int 2 0,.int 0 0,.int 0 0,.int 3 0,.ref 349,.bool true,.int 181 0,.ref 350,.none,.ref 351,.ref 352,.ref 353,.int 697 0,.int 226 0,.str "/claim/cut.py" 698],#[]⟩) ::
 (nat_lit 355,⟨.type "function",none,.func (fnOf "_law_loose" "_law_loose" (zB (top 56)) (zI (top 56)) (zU (top 56)) (.none) (.none) (.none) (.str "law_curveyard_k51_whole_joined_or_shown" 612) none (.ref 354) (.none)),#[]⟩) ::
 (nat_lit 361,⟨.type "code",none,.fields #[.str "_law_altered" 700,.str "_law_altered" 701,.str "/claim/cut.py" 702,.int 234 0,.int 2 0,.int 0 0,.int 0 0,.int 3 0,.ref 356,.bool true,.int 181 0,.ref 357,.none,.ref 358,.ref 359,.ref 360,.int 712 0,.int 234 0,.str "/claim/cut.py" 713],#[]⟩) ::
 (nat_lit 362,⟨.type "function",none,.func (fnOf "_law_altered" "_law_altered" (zB (top 57)) (zI (top 57)) (zU (top 57)) (.none) (.none) (.none) (.str "law_curveyard_k51_whole_joined_or_shown" 612) none (.ref 361) (.none)),#[]⟩) ::
 (nat_lit 368,⟨.type "code",none,.fields #[.str "_law_fourth" 715,.str "_law_fourth" 716,.str "/claim/cut.py" 717,.int 245 0,.int 1 0,.int 0 0,.int 0 0,.int 3 0,.ref 363,.bool true,.int 181 0,.ref 364,.none,.ref 365,.ref 366,.ref 367,.int 726 0,.int 245 0,.str "/claim/cut.py" 727],#[]⟩) ::
 (nat_lit 369,⟨.type "function",none,.func (fnOf "_law_fourth" "_law_fourth" (zB (top 58)) (zI (top 58)) (zU (top 58)) (.none) (.none) (.none) (.str "law_curveyard_k51_whole_joined_or_shown" 612) none (.ref 368) (.none)),#[]⟩) ::
 (nat_lit 375,⟨.type "code",none,.fields #[.str "_law_drawn" 729,.str "_law_drawn" 730,.str "/claim/cut.py" 731,.int 256 0,.int 2 0,.int 0 0,.int 0 0,.int 3 0,.ref 370,.bool true,.int 181 0,.ref 371,.none,.ref 372,.ref 373,.ref 374,.int 735 0,.int 256 0,.str "/claim/cut.py" 736],#[]⟩) ::
 (nat_lit 376,⟨.type "function",none,.func (fnOf "_law_drawn" "_law_drawn" (zB (top 59)) (zI (top 59)) (zU (top 59)) (.none) (.none) (.none) (.str "law_curveyard_k51_whole_joined_or_shown" 612) none (.ref 375) (.none)),#[]⟩) ::
 (nat_lit 380,⟨.type "code",none,.fields #[.str "_law_text" 738,.str "_law_text" 739,.str "/claim/cut.py" 740,.int 265 0,.int 3 0,.int 0 0,.int 0 0,.int 3 0,.ref 377,.bool true,.int 181 0,.ref 378,.none,.none,.none,.ref 379,.int 741 0,.int 265 0,.str "/claim/cut.py" 742],#[]⟩) ::
 (nat_lit 381,⟨.type "function",none,.func (fnOf "_law_text" "_law_text" (zB (top 60)) (zI (top 60)) (zU (top 60)) (.none) (.none) (.none) (.str "law_curveyard_k51_whole_joined_or_shown" 612) none (.ref 380) (.none)),#[]⟩) ::
 (nat_lit 387,⟨.type "code",none,.fields #[.str "_law_level" 744,.str "_law_level" 745,.str "/claim/cut.py" 746,.int 274 0,.int 1 0,.int 0 0,.int 0 0,.int 3 0,.ref 382,.bool true,.int 181 0,.ref 383,.none,.ref 384,.ref 385,.ref 386,.int 748 0,.int 274 0,.str "/claim/cut.py" 749],#[]⟩) ::
 (nat_lit 388,⟨.type "function",none,.func (fnOf "_law_level" "_law_level" (zB (top 61)) (zI (top 61)) (zU (top 61)) (.none) (.none) (.none) (.str "law_curveyard_k51_whole_joined_or_shown" 612) none (.ref 387) (.none)),#[]⟩) ::
 (nat_lit 394,⟨.type "code",none,.fields #[.str "_law_number" 751,.str "_law_number" 752,.str "/claim/cut.py" 753,.int 278 0,.int 3 0,.int 0 0,.int 0 0,.int 3 0,.ref 389,.bool true,.int 181 0,.ref 390,.none,.ref 391,.ref 392,.ref 393,.int 761 0,.int 278 0,.str "/claim/cut.py" 762],#[]⟩) ::
 (nat_lit 395,⟨.type "function",none,.func (fnOf "_law_number" "_law_number" (zB (top 62)) (zI (top 62)) (zU (top 62)) (.none) (.none) (.none) (.str "law_curveyard_k51_whole_joined_or_shown" 612) none (.ref 394) (.none)),#[]⟩) ::
 (nat_lit 401,⟨.type "code",none,.fields #[.str "_law_ahead" 764,.str "_law_ahead" 765,.str "/claim/cut.py" 766,.int 292 0,.int 3 0,.int 0 0,.int 0 0,.int 3 0,.ref 396,.bool true,.int 181 0,.ref 397,.none,.ref 398,.ref 399,.ref 400,.int 776 0,.int 292 0,.str "/claim/cut.py" 777],#[]⟩) ::
 (nat_lit 402,⟨.type "function",none,.func (fnOf "_law_ahead" "_law_ahead" (zB (top 63)) (zI (top 63)) (zU (top 63)) (.none) (.none) (.none) (.str "law_curveyard_k51_whole_joined_or_shown" 612) none (.ref 401) (.none)),#[]⟩) ::
 (nat_lit 406,⟨.type "code",none,.fields #[.str "_law_met" 779,.str "_law_met" 780,.str "/claim/cut.py" 781,.int 305 0,.int 4 0,.int 0 0,.int 0 0,.int 3 0,.ref 403,.bool true,.int 181 0,.ref 404,.none,.none,.none,.ref 405,.int 782 0,.int 305 0,.str "/claim/cut.py" 783],#[]⟩) ::
 (nat_lit 407,⟨.type "function",none,.func (fnOf "_law_met" "_law_met" (zB (top 64)) (zI (top 64)) (zU (top 64)) (.none) (.none) (.none) (.str "law_curveyard_k51_whole_joined_or_shown" 612) none (.ref 406) (.none)),#[]⟩) ::
 (nat_lit 413,⟨.type "code",none,.fields #[.str "_law_shown" 785,.str "_law_shown" 786,.str "/claim/cut.py" 787,.int 309 0,.int 3 0,.int 0 0,.int 0 0,.int 3 0,.ref 408,.bool true,.int 181 0,.ref 409,.none,.ref 410,.ref 411,.ref 412,.int 793 0,.int 309 0,.str "/claim/cut.py" 794],#[]⟩) ::
 (nat_lit 414,⟨.type "function",none,.func (fnOf "_law_shown" "_law_shown" (zB (top 65)) (zI (top 65)) (zU (top 65)) (.none) (.none) (.none) (.str "law_curveyard_k51_whole_joined_or_shown" 612) none (.ref 413) (.none)),#[]⟩) ::
 (nat_lit 420,⟨.type "code",none,.fields #[.str "law" 796,.str "law" 797,.str "/claim/cut.py" 798,.int 318 0,.int 1 0,.int 0 0,.int 0 0,.int 3 0,.ref 415,.bool true,.int 181 0,.ref 416,.none,.ref 417,.ref 418,.ref 419,.int 809 0,.int 318 0,.str "/claim/cut.py" 810],#[]⟩) ::
 (nat_lit 421,⟨.type "function",none,.func (fnOf "law" "law" (zB (top 66)) (zI (top 66)) (zU (top 66)) (.none) (.none) (.none) (.str "law_curveyard_k51_whole_joined_or_shown" 612) none (.ref 420) (.none)),#[]⟩)::[]
def nX:Program:=view PySem.Challenge.pw_curveyard_k51_whole_joined_or_shown [66]
def loose:List Str:="BITS"::"FLIPS"::"AXES"::"turned"::"still"::"after"::"turn_of"::"corner_of"::"Part"::"Curve"::"first_state"::"part_at"::"walked"::"YardError"::"OffFloor"::"TextError"::"BadRow"::"CornerTwice"::"Unmet"::"LETTERS"::"LONGEST_WORD"::"is_word"::"is_made_of"::"full"::"place_at"::"digits_of"::"deeper"::"next_to"::"unmet_at"::"meeting_of"::"PROMISES"::"DIMS"::"curve_of"::"curve_from"::"words_at"::"read_head"::"read_part"::"fitted"::"_law_cell_at"::"_law_mix"::"_law_cut"::"_law_turned"::"_law_after"::"_law_undone"::"_law_turn"::"_law_base"::"_law_joined"::"_law_corners"::"_law_loose"::"_law_altered"::"_law_fourth"::"_law_drawn"::"_law_text"::"_law_level"::"_law_number"::"_law_ahead"::"_law_met"::"_law_shown"::[]
def zMJ:List Addr:=nat_lit 3::nat_lit 18::nat_lit 19::nat_lit 23::nat_lit 24::nat_lit 28::nat_lit 29::nat_lit 33::nat_lit 34::nat_lit 38::nat_lit 39::nat_lit 52::nat_lit 53::nat_lit 55::nat_lit 56::nat_lit 57::nat_lit 58::nat_lit 73::nat_lit 74::nat_lit 76::nat_lit 77::nat_lit 78::nat_lit 79::nat_lit 87::nat_lit 88::nat_lit 94::nat_lit 95::nat_lit 101::nat_lit 102::nat_lit 111::nat_lit 112::nat_lit 113::nat_lit 124::nat_lit 125::nat_lit 140::nat_lit 141::nat_lit 143::nat_lit 144::nat_lit 155::nat_lit 156::nat_lit 167::nat_lit 168::nat_lit 183::nat_lit 184::nat_lit 186::nat_lit 187::nat_lit 195::nat_lit 196::nat_lit 200::nat_lit 201::nat_lit 207::nat_lit 208::nat_lit 214::nat_lit 215::nat_lit 221::nat_lit 222::nat_lit 226::nat_lit 227::nat_lit 231::nat_lit 232::nat_lit 238::nat_lit 239::nat_lit 243::nat_lit 244::nat_lit 245::nat_lit 246::nat_lit 252::nat_lit 253::nat_lit 259::nat_lit 260::nat_lit 266::nat_lit 267::nat_lit 273::nat_lit 274::nat_lit 280::nat_lit 281::nat_lit 287::nat_lit 288::nat_lit 294::nat_lit 295::nat_lit 301::nat_lit 302::nat_lit 308::nat_lit 309::nat_lit 313::nat_lit 314::nat_lit 318::nat_lit 319::nat_lit 325::nat_lit 326::nat_lit 330::nat_lit 331::nat_lit 337::nat_lit 338::nat_lit 342::nat_lit 343::nat_lit 347::nat_lit 348::nat_lit 354::nat_lit 355::nat_lit 361::nat_lit 362::nat_lit 368::nat_lit 369::nat_lit 375::nat_lit 376::nat_lit 380::nat_lit 381::nat_lit 387::nat_lit 388::nat_lit 394::nat_lit 395::nat_lit 401::nat_lit 402::nat_lit 406::nat_lit 407::nat_lit 413::nat_lit 414::nat_lit 420::nat_lit 421::[]
theorem zUE (P:Params):zMJ=(zUh P).map (fun x=>x.1):=by kernel_rfl
abbrev hook:Hook:=kHook zUh zMJ zUE
abbrev zOT (s:Shared):Bool:=xlAt nX [] s&&recOk (RowW.records PySem.Challenge.rw_curveyard_k51_whole_joined_or_shown.row.toRowW) s
def rE (w:World):Prop:=(openEnds treeTable PySem.Challenge.rw_curveyard_k51_whole_joined_or_shown.row.prog w 6788).map (fun s=>openSeen nX loose (importedModules PySem.Challenge.rw_curveyard_k51_whole_joined_or_shown.row.prog.main.body) zOT true s)=some (openGood nX loose)
theorem zTF (w:World):rE (w.withFollow "special-get-raises" false):=by unfold rE;kernel_rfl
theorem zUy (w:World):rE (w.withFollow "special-get-raises" true):=by unfold rE;kernel_rfl
theorem zQj (w:World):(openEnds treeTable PySem.Challenge.rw_curveyard_k51_whole_joined_or_shown.row.prog w 6788).map (fun s=>openSeen nX loose (importedModules PySem.Challenge.rw_curveyard_k51_whole_joined_or_shown.row.prog.main.body) zOT true s)=some (openGood nX loose):=byRow2 "special-get-raises" (P:=rE) zTF zUy w
def rD (w:World):Prop:=(openEnds treeTable PySem.Challenge.rw_curveyard_k51_whole_joined_or_shown.row.prog w 6788).map hook.obs=some (hook.val w)
theorem zT7 (w:World):rD (w.withFollow "special-get-raises" false):=by unfold rD;kernel_rfl
theorem zTR (w:World):rD (w.withFollow "special-get-raises" true):=by unfold rD;kernel_rfl
theorem zPi (w:World):(openEnds treeTable PySem.Challenge.rw_curveyard_k51_whole_joined_or_shown.row.prog w 6788).map hook.obs=some (hook.val w):=byRow2 "special-get-raises" (P:=rD) zT7 zTR w
theorem zN1 {α β γ:Type}{x:Option α}{f:α->β}{g:α->γ}{a:β}{b:γ}(h1:x.map f=some a)(h2:x.map g=some b):x.map (fun s=>(f s,g s))=some (a,b):=by
 cases x with
 | none=>cases h1
 | some s=>cases h1;cases h2;rfl
theorem zNt:LeftO PySem.Challenge.rw_curveyard_k51_whole_joined_or_shown.row.prog nX loose zOT hook.obs hook.val 6788:=fun w=>zN1 (zQj w) (zPi w)
end My
namespace L2
open PySem PySem.Spec PyProof.Rows
abbrev Key:=Sum Int Str
def zMM:Key->Value->Bool
 | .inl k,v=>Value.isInt k v
 | .inr x,v=>Value.isStrOf x v
def zKm (w:World):Key->Int
 | .inl k=>hashInt k
 | .inr x=>hashStr w x
theorem wH:∀ {k:Key} {v:Value},zMM k v=true->(∃i t,k=Sum.inl i/\v=Value.int i t)∨(∃x t,k=Sum.inr x/\v=Value.str x t)
 | .inl i,v,h=>by
   obtain⟨t,e⟩:=Value.isInt_shape (k:=i) (v:=v) h
   exact .inl ⟨i,t,rfl,e⟩
 | .inr x,v,h=>by
   obtain⟨t,e⟩:=Value.isStrOf_shape (x:=x) (v:=v) h
   exact .inr ⟨x,t,rfl,e⟩
theorem zLB (a b:Int):decide ((Sum.inl a:Key)=Sum.inl b)=(a==b):=by
 by_cases e:a=b
 · subst e;simp
 · have h:¬(Sum.inl a:Key)=Sum.inl b:=fun q=>e (Sum.inl.inj q)
   rw[Qf h]
   exact(Ei.mpr e).symm
theorem zMy (a b:Str):decide ((Sum.inr a:Key)=Sum.inr b)=decide (a=b):=by
 by_cases e:a=b
 · subst e;simp
 · have h:¬(Sum.inr a:Key)=Sum.inr b:=fun q=>e (Sum.inr.inj q)
   rw[Qf h,Qf e]
theorem zL8 (a:Int)(b:Str):decide ((Sum.inl a:Key)=Sum.inr b)=false:=Qf (fun q=>nomatch q)
theorem zMz (a:Str)(b:Int):decide ((Sum.inr a:Key)=Sum.inl b)=false:=Qf (fun q=>nomatch q)
def zSI (prog:Program)(w:World):PySem.KeyKind prog w Key where
 is:=zMM
 hash:=zKm w
 inj:=fun v a b ha hb=>by
   rcases wH ha with⟨i,t,rfl,rfl⟩ | ⟨x,t,rfl,rfl⟩
   · rcases wH hb with⟨j,u,rfl,e⟩ | ⟨y,u,rfl,e⟩
     · injection e with e1 _;rw[e1]
     · exact nomatch e
   · rcases wH hb with⟨j,u,rfl,e⟩ | ⟨y,u,rfl,e⟩
     · exact nomatch e
     · injection e with e1 _;rw[e1]
 byValue:=fun k v h=>by
   rcases wH h with⟨i,t,rfl,rfl⟩ | ⟨x,t,rfl,rfl⟩<;>rfl
 pyHash:=fun hv h=>by
   rcases wH hv with⟨i,t,rfl,rfl⟩ | ⟨x,t,rfl,rfl⟩
   · exact wpAny_pyHash_int h
   · exact wpAny_pyHash_str h
 eqBool:=fun hu hv h=>by
   rcases wH hu with⟨i,t,rfl,rfl⟩ | ⟨x,t,rfl,rfl⟩
   · rcases wH hv with⟨j,u,rfl,rfl⟩ | ⟨y,u,rfl,rfl⟩
     · rw[zLB] at h;exact wpAny_eqBool_int h
     · rw[zL8] at h;exact SeqAt.EqAt.int_str i t y u _ _ _ _ h
   · rcases wH hv with⟨j,u,rfl,rfl⟩ | ⟨y,u,rfl,rfl⟩
     · rw[zMz] at h;exact SeqAt.EqAt.str_int x t j u _ _ _ _ h
     · rw[zMy] at h;exact wpAny_eqBool_str h
 «strs» := fun k x t v h=>by
   rcases wH h with⟨i,u,rfl,e⟩ | ⟨y,u,rfl,e⟩
   · exact nomatch e
   · injection e with e1 _
     subst e1
     cases v<;>rfl
inductive V where
 | non | bl (b:Bool) | int (i:Int) | str (x:Str) | byt (b:Array UInt8) | flt (b:UInt64) | ref (a:Addr) | ty (n:String)
 deriving DecidableEq
def RelV:V->Value->Prop
 | .non,u=>u=Value.none
 | .bl b,u=>u=Value.bool b
 | .int i,u=>∃t,u=Value.int i t
 | .str x,u=>∃t,u=Value.str x t
 | .byt b,u=>∃t,u=Value.bytes b t
 | .flt b,u=>∃t,u=Value.float b t
 | .ref a,u=>u=Value.ref a
 | .ty n,u=>u=Value.type n
abbrev Vals:List V->List Value->Prop:=Paired RelV
theorem Vals.length {xs:List V}{us:List Value}(r:Vals xs us):xs.length=us.length:=Paired.length r
theorem Vals.get:∀ {xs:List V} {us:List Value} {i:Nat} {x:V},Vals xs us->xs[i]?=some x->∃u,us[i]?=some u/\RelV x u
 | _,_,_,_,.nil,e=>by simp at e
 | _,_,0,_,.cons r _,e=>by simp at e;subst e;exact⟨_,rfl,r⟩
 | _,_,i+1,x,.cons _ t,e=>by
   obtain⟨u,h1,h2⟩:=Vals.get (i:=i) (x:=x) t (by simpa using e)
   exact⟨u,by simpa using h1,h2⟩
theorem Vals.set {x:V}{u:Value}(r:RelV x u):∀ {xs:List V} {us:List Value} (i:Nat),Vals xs us->Vals (xs.set i x) (us.set i u)
 | _,_,_,.nil=>.nil
 | _,_,0,.cons _ t=>.cons r t
 | _,_,i+1,.cons q t=>.cons q (Vals.set r i t)
theorem Vals.append:∀ {xs ys:List V} {us ws:List Value},Vals xs us->Vals ys ws->Vals (xs++ys) (us++ws)
 | _,_,_,_,.nil,s=>s
 | _,_,_,_,.cons r t,s=>.cons r (Vals.append t s)
theorem Vals.take:∀ {xs:List V} {us:List Value} (n:Nat),Vals xs us->Vals (xs.take n) (us.take n)
 | _,_,0,_=>.nil
 | _,_,_+1,.nil=>.nil
 | _,_,n+1,.cons r t=>.cons r (Vals.take n t)
theorem Vals.drop:∀ {xs:List V} {us:List Value} (n:Nat),Vals xs us->Vals (xs.drop n) (us.drop n)
 | _,_,0,r=>r
 | _,_,_+1,.nil=>.nil
 | _,_,n+1,.cons _ t=>Vals.drop n t
def RelO:Option V->Option Value->Prop
 | some v,some u=>RelV v u
 | none,none=>True
 | _,_=>False
def KV {κ:Type}:List (κ×V)->List (κ×Value)->Prop:=Paired fun(p:κ×V) (q:κ×Value)=>p.1=q.1/\RelV p.2 q.2
def kV:Key->V
 | .inl i=>.int i
 | .inr x=>.str x
inductive HO where
 /-- a list -/
 | lst (xs:List V)
 /-- a tuple (never changes) -/
 | tup (xs:List V)
 /-- a dict whose keys are ints and texts; one whose keys are tuples of ints and texts (the empty one is both) -/
 | dK (kvs:List (Key×V)) | dT (kvs:List (List Key×V))
 /-- a set of ints: its members, its size -/
 | set (S:Int->Bool) (n:Nat)
 /-- an instance of the class at C, its dict at dx, its attributes -/
 | ins (C dx:Addr) (fs:List (Str×V))
 /-- the dict of the instance at x -/
 | own (x:Addr)
 /-- the dict of an exception -/
 | xd (fs:List (Str×V))
 /-- a bound method, f of x -/
 | met (f x:Addr)
 /-- a range object lo, lo + 1, .. below hi -/
 | rng (lo hi:Int)
 /-- a thing that is known to the object (the script; a dict while a loop walks it): read, never written while it is so -/
 | frz (o:Obj) (u:HO)
 /-- a code object's table -/
 | tbl (ps:Array Value)
 /-- any other thing, by what is true of its one object (a def of one's own: SetO a S n := HO.ext fun h => ..) -/
 | ext (φ:Heap->Prop)
abbrev Hp:=Addr->Option HO
def upd (H:Hp)(a:Addr)(o:HO):Hp:=fun b=>if b=a then some o else H b
theorem zE {H:Hp}{a:Addr}{o:HO}:upd H a o a=some o:=by unfold upd;rw[Qx rfl]
theorem yP {H:Hp}{a b:Addr}{o:HO}(h:b≠a):upd H a o b=H b:=by unfold upd;rw[Wy h]
theorem yJ {H:Hp}{a b:Addr}{o:HO}(h:H a=some o)(h':H b=none):a≠b:=by
 intro e;subst e;rw[h] at h';cases h'
section
variable (P:Program) (w:World)
def ObjOk (H:Hp)(h:Heap)(a:Addr):HO->Prop
 | .lst xs=>xs.length<=sizeLine/\∃(its:List Value) (n:Nat),Vals xs its/\h.get? a=some { cls:=.type "list",data:=.seq its.toArray n }
 | .tup xs=>xs.length<=sizeLine/\∃its:List Value,Vals xs its/\IsTup h a its.toArray
 | .dK kvs=>kvs.length<=sizeLine/\(a==sysModules)=false/\∃vs,KV kvs vs/\h.DictOf (zSI P w) a vs
 | .dT kvs=>kvs.length<=sizeLine/\(a==sysModules)=false/\∃xs:List (List Key×Addr×Value),
     Paired (fun(p:List Key×V) (q:List Key×Addr×Value)=>p.1=q.1/\H q.2.1=some (.tup (p.1.map kV))/\RelV p.2 q.2.2) kvs xs /\
     ∃o es ep,h.get? a=some o/\o.ExactDict/\o.data = .dict es ep/\es.toList=xs.map (entryOfKey (tupleKind (zSI P w)))/\(xs.map (·.1)).Nodup
 | .set S n=>h.SetOf (intKind P w) a S n
 | .ins C dx fs=>H dx=some (.own a)/\fs.length<=1000/\dx≠a/\h.get? a=some (PySem.W.instObj C dx) /\
     ∃mA,h.Ns1 dx mA/\(∀f,RelO (fs.lookup f) (mA f))/\PySem.Within mA (fs.map (·.1))
 | .own _=>∃o,h.get? a=some o
 | .xd fs=>∃mA,h.Ns1 a mA/\∀f,RelO (fs.lookup f) (mA f)
 | .rng lo hi=>∃t u v,h.get? a=some { cls:=.type "range",data:=.fields #[.int lo t,.int hi u,.int 1 v] }
 | .frz o u=>h.get? a=some o/\ObjOk H h a u
 | .tbl ps=>h.get? a=some { cls:=.none,data:=.fields ps }
 | .met f x=>h.get? a=some (PySem.W.methodObj (.ref f) (.ref x))
 | .ext φ=>φ h/\(∃o,h.get? a=some o)/\∀h1 h2:Heap,φ h1->(∀o,h1.get? a=some o->h2.get? a=some o)->φ h2
def HOk (H:Hp)(h:Heap):Prop:=∀a o,H a=some o->ObjOk P w H h a o
end
section
variable {P:Program} {w:World} {H H':Hp} {h h':Heap} {a:Addr} {o:HO}
theorem ObjOk.lt (x:ObjOk P w H h a o):a < h.objs.size:=by
 cases o with
 | lst xs=>obtain⟨_,_,_,_,e⟩:=x;exact Qy e
 | tup xs=>obtain⟨_,_,_,p⟩:=x;exact p.lt
 | dK kvs=>obtain⟨_,_,_,_,o,_,_,e,_⟩:=x;exact Qy e
 | dT kvs=>obtain⟨_,_,_,_,o,_,_,e,_⟩:=x;exact Qy e
 | set S n=>obtain⟨o,_,_,_,e,_⟩:=x;exact Qy e
 | ins C dx fs=>obtain⟨_,_,_,e,_⟩:=x;exact Qy e
 | own y=>obtain⟨_,e⟩:=x;exact Qy e
 | xd fs=>obtain⟨_,⟨_,_,_,e,_⟩,_⟩:=x;exact Qy e
 | rng lo hi=>obtain⟨_,_,_,e⟩:=x;exact Qy e
 | frz ob u=>obtain⟨e,_⟩:=x;exact Qy e
 | tbl ps=>exact Qy (show h.get? a=some _ from x)
 | met f y=>exact Qy (show h.get? a=some _ from x)
 | ext φ=>obtain⟨_,⟨_,e⟩,_⟩:=x;exact Qy e
theorem Paired.mapP {α β:Type}{F G:α->β->Prop}:∀ {l₁:List α} {l₂:List β},Paired F l₁ l₂->(∀a b,F a b->G a b)->Paired G l₁ l₂
 | _,_,.nil,_=>.nil
 | _,_,.cons r t,f=>.cons (f _ _ r) (Paired.mapP t f)
theorem ObjOk.stay (x:ObjOk P w H h a o)(k:∀b u,(b=a∨H b=some (.own a))->h.get? b=some u->h'.get? b=some u)
   (ho:∀b,H b=some (.own a)->H' b=some (.own a)) (ht:∀b xs,H b=some (.tup xs)->H' b=some (.tup xs)):ObjOk P w H' h' a o:=by
 induction o with
 | lst xs=>obtain⟨z,its,n,r,e⟩:=x;exact⟨z,its,n,r,k _ _ (.inl rfl) e⟩
 | tup xs=>obtain⟨z,its,r,ob,e,c⟩:=x;exact⟨z,its,r,ob,k _ _ (.inl rfl) e,c⟩
 | dK kvs=>obtain⟨z,y,vs,r,ob,es,ep,e,c⟩:=x;exact⟨z,y,vs,r,ob,es,ep,k _ _ (.inl rfl) e,c⟩
 | dT kvs =>
   obtain⟨z,y,xs,r,ob,es,ep,e,c⟩:=x
   exact⟨z,y,xs,Paired.mapP r fun p q z=>⟨z.1,ht _ _ z.2.1,z.2.2⟩,ob,es,ep,k _ _ (.inl rfl) e,c⟩
 | set S n=>obtain⟨ob,es,ep,t,e,c⟩:=x;exact⟨ob,es,ep,t,k _ _ (.inl rfl) e,c⟩
 | ins C dx fs =>
   obtain⟨d,z,ne,e,mA,⟨od,es,ep,e2,c⟩,r⟩:=x
   exact⟨ho _ d,z,ne,k _ _ (.inl rfl) e,mA,⟨od,es,ep,k _ _ (.inr d) e2,c⟩,r⟩
 | own y=>obtain⟨ob,e⟩:=x;exact⟨ob,k _ _ (.inl rfl) e⟩
 | xd fs=>obtain⟨mA,⟨od,es,ep,e,c⟩,r⟩:=x;exact⟨mA,⟨od,es,ep,k _ _ (.inl rfl) e,c⟩,r⟩
 | rng lo hi=>obtain⟨t,u,v,e⟩:=x;exact⟨t,u,v,k _ _ (.inl rfl) e⟩
 | frz ob u ih=>obtain⟨e,q⟩:=x;exact⟨k _ _ (.inl rfl) e,ih q⟩
 | tbl ps =>
   have e:h.get? a=some { cls:=.none,data:=.fields ps }:=x
   show h'.get? a=some { cls:=.none,data:=.fields ps }
   exact k a _ (.inl rfl) e
 | met f y =>
   have e:h.get? a=some (PySem.W.methodObj (.ref f) (.ref y)):=x
   show h'.get? a=some (PySem.W.methodObj (.ref f) (.ref y))
   exact k a _ (.inl rfl) e
 | ext φ=>obtain⟨p,⟨o,e⟩,st⟩:=x;exact⟨st _ _ p fun o q=>k _ _ (.inl rfl) q,⟨o,k _ _ (.inl rfl) e⟩,st⟩
theorem HOk.lt (x:HOk P w H h)(e:H a=some o):a < h.objs.size:=(x a o e).lt
theorem HOk.fresh (x:HOk P w H h)(e:h.objs.size<=a):H a=none:=by
 cases q:H a with
 | none=>rfl
 | some u=>exact absurd (Qm (x.lt q) e) (Ww _)
theorem HOk.kept (x:HOk P w H h)(k:∀b u,h.get? b=some u->h'.get? b=some u):HOk P w H h':=fun a o e =>
 (x a o e).stay (fun b u _ q=>k b u q) (fun _ q=>q) fun _ _ q=>q
theorem HOk.laid (x:HOk P w H h)(k:∀b u,h.get? b=some u->h'.get? b=some u)(hp:h.objs.size<=a)(new:ObjOk P w (upd H a o) h' a o):HOk P w (upd H a o) h':=fun b u e=>by
 have hn:=x.fresh hp
 by_cases hb:b=a
 · subst hb;rw[zE] at e;cases e;exact new
 · rw[yP hb] at e
   exact(x b u e).stay (fun c v _ q=>k c v q) (fun c q=>by rw[yP (yJ q hn)];exact q) fun c xs q=>by rw[yP (yJ q hn)];exact q
end
def Rd (H:Hp)(a:Addr)(u:HO):Prop:=H a=some u∨∃o,H a=some (.frz o u)
theorem Rd.ok {P:Program}{w:World}{H:Hp}{h:Heap}{a:Addr}{u:HO}(r:Rd H a u)(x:HOk P w H h):ObjOk P w H h a u:=by
 rcases r with r | ⟨o,r⟩
 · exact x a u r
 · obtain⟨_,q⟩:=x a _ r
   exact q
def Mut:Option HO->Prop
 | some (.lst _)=>True
 | some (.dK _)=>True
 | some (.dT _)=>True
 | some (.set _ _)=>True
 | some (.ins _ _ _)=>True
 | some (.ext _)=>True
 | _=>False
section
variable {P:Program} {w:World} {H:Hp} {h h':Heap} {x e:Addr} {o':HO}
theorem HOk.write (ok:HOk P w H h)(mu:Mut (H x))(he:e=x∨H e=some (.own x))(k:∀b u,b≠e->h.get? b=some u->h'.get? b=some u)(heo:∃u,h'.get? e=some u)
   (new:ObjOk P w (upd H x o') h' x o'):HOk P w (upd H x o') h':=fun b u q=>by
 have nown:∀c y,H c=some (.own y)->c≠x:=fun c y r z=>by subst z;rw[r] at mu;exact mu
 have ntup:∀c xs,H c=some (.tup xs)->c≠x:=fun c xs r z=>by subst z;rw[r] at mu;exact mu
 by_cases hb:b=x
 · subst hb;rw[zE] at q;cases q;exact new
 · rw[yP hb] at q
   by_cases hbe:b=e
   · have q':H b=some (.own x):=by
       rcases he with z | z
       · exact absurd (hbe.trans z) hb
       · rw[hbe];exact z
     rw[q] at q';cases q'
     obtain⟨v,hv⟩:=heo
     exact⟨v,by rw[hbe];exact hv⟩
   · refine(ok b u q).stay (fun c v hc r=>k c v ?_ r) (fun c r=>by rw[yP (nown c b r)];exact r) fun c xs r=>by rw[yP (ntup c xs r)];exact r
     rcases hc with rfl | hc
     · exact hbe
     · rintro rfl
       rcases he with z | z
       · exact nown c b hc z
       · rw[hc] at z;cases z;exact hb rfl
end
structure Un (fs ex:List Addr)(H H':Hp)(h h':Heap):Prop where
 keep:∀b o,h.get? b=some o->H b=none->b∉fs->b∉ex->h'.get? b=some o
 slot:∀b o,h.get? b=some o->H b=none->b∈fs->b∉ex->∃sl,h'.get? b=some { o with slots:=sl }
 free:∀b o,h.get? b=some o->H b=none->b∉ex->H' b=none
 there:∀b o,h.get? b=some o->b∉ex->∃o',h'.get? b=some o'
 tups:∀b xs,H b=some (.tup xs)->H' b=some (.tup xs)
 frzs:∀b o u,H b=some (.frz o u)->H' b=some (.frz o u)
 tbls:∀b ps,H b=some (.tbl ps)->∃more,H' b=some (.tbl (ps++more))
section
variable {fs fs' ex ex':List Addr} {H H1 H2:Hp} {h h1 h2 h':Heap} {a x e:Addr} {o:HO}
theorem Un.any (u:Un fs ex H H1 h h1){b:Addr}{ob:Obj}(q:h.get? b=some ob)(n:H b=none)(hx:b∉ex):∃sl,h1.get? b=some { ob with slots:=sl }:=by
 by_cases hb:b∈fs
 · exact u.slot b ob q n hb hx
 · exact⟨ob.slots,u.keep b ob q n hb hx⟩
theorem Un.trans (a:Un fs ex H H1 h h1)(b:Un fs ex H1 H2 h1 h2):Un fs ex H H2 h h2 where
 keep:=fun c ob q n hc hx=>b.keep c ob (a.keep c ob q n hc hx) (a.free c ob q n hx) hc hx
 slot:=fun c ob q n hc hx=>by
   obtain⟨sl,e1⟩:=a.slot c ob q n hc hx
   obtain⟨sl',e2⟩:=b.slot c _ e1 (a.free c ob q n hx) hc hx
   exact⟨sl',e2⟩
 free:=fun c ob q n hx=>by
   obtain⟨o',e1⟩:=a.there c ob q hx
   exact b.free c o' e1 (a.free c ob q n hx) hx
 there:=fun c ob q hx=>by
   obtain⟨o',e1⟩:=a.there c ob q hx
   exact b.there c o' e1 hx
 tups:=fun c xs q=>b.tups c xs (a.tups c xs q)
 frzs:=fun c ob xs q=>b.frzs c ob xs (a.frzs c ob xs q)
 tbls:=fun c ps q=>by
   obtain⟨m1,e1⟩:=a.tbls c ps q
   obtain⟨m2,e2⟩:=b.tbls c _ e1
   exact⟨m1++m2,by rw[e2,Array.append_assoc]⟩
theorem Un.kept (k:∀b u,h.get? b=some u->h'.get? b=some u):Un fs ex H H h h' :=
 ⟨fun b ob q _ _ _=>k b ob q,fun b ob q _ _ _=>⟨ob.slots,k b ob q⟩,fun _ _ _ n _=>n,fun b ob q _=>⟨ob,k b ob q⟩,fun _ _ q=>q,fun _ _ _ q=>q,fun _ ps q=>⟨#[],by rw[q];simp⟩⟩
theorem Un.refl:Un fs ex H H h h:=Un.kept fun _ _ q=>q
theorem Un.laid (k:∀b u,h.get? b=some u->h'.get? b=some u)(hp:h.objs.size<=a)(hn:H a=none):Un fs ex H (upd H a o) h h' where
 keep:=fun b u q _ _ _=>k b u q
 slot:=fun b u q _ _ _=>⟨u.slots,k b u q⟩
 free:=fun b u q n _=>by rw[yP (We (Qm (Qy q) hp))];exact n
 there:=fun b u q _=>⟨u,k b u q⟩
 tups:=fun b xs q=>by rw[yP (yJ q hn)];exact q
 frzs:=fun b u xs q=>by rw[yP (yJ q hn)];exact q
 tbls:=fun b ps q=>⟨#[],by rw[yP (yJ q hn),q];simp⟩
theorem Un.write (mu:Mut (H x))(he:e=x∨H e=some (.own x))(k:∀b u,b≠e->h.get? b=some u->h'.get? b=some u)(heo:∃u,h'.get? e=some u):Un fs ex H (upd H x o) h h':=by
 have hx:∀b,H b=none->b≠x:=fun b n z=>by subst z;rw[n] at mu;exact mu
 have hb:∀b,H b=none->b≠e:=fun b n z=>by
   subst z
   rcases he with r | r
   · exact hx b n r
   · rw[n] at r;cases r
 have hm:∀b u,H b=some u->¬Mut (some u)->b≠x:=fun b u q nm z=>by subst z;rw[q] at mu;exact nm mu
 refine⟨fun b u q n _ _=>k b u (hb b n) q,fun b u q n _ _=>⟨u.slots,k b u (hb b n) q⟩,fun b u q n _=>by rw[yP (hx b n)];exact n,fun b u q _=>?_,
   fun b xs q=>by rw[yP (hm b _ q fun z=>z)];exact q,fun b u xs q=>by rw[yP (hm b _ q fun z=>z)];exact q,fun b ps q=>⟨#[],by rw[yP (hm b _ q fun z=>z),q];simp⟩⟩
 by_cases hbe:b=e
 · subst hbe;exact heo
 · exact⟨u,k b u hbe q⟩
end
def trk (h:Heap)(H:Hp):List Addr:=(List.range h.objs.size).filter fun a=>(H a).isSome
def zXe (h:Heap)(H:Hp):Heap:=PySem.W.hideAll h (trk h H)
theorem zSg (h:Heap)(H:Hp):(zXe h H).objs.size=h.objs.size:=PySem.W.hideAll_size _ _
theorem zQb {h:Heap}{H:Hp}{b:Addr}{o:Obj}(e:h.get? b=some o)(n:H b=none):(zXe h H).get? b=some o :=
 PySem.W.hideAll_get _ e fun hm=>by
   have q:(H b).isSome=true:=(List.mem_filter.mp hm).2
   rw[n] at q;simp at q
theorem zNR {h:Heap}{H:Hp}{b:Addr}{o:Obj}(e:(zXe h H).get? b=some o):h.get? b=some o/\H b=none:=by
 have e':h.get? b=some o:=PySem.W.of_hideAll (trk h H) e
 refine⟨e',?_⟩
 cases q:H b with
 | none=>rfl
 | some x =>
   have hm:b∈trk h H:=List.mem_filter.mpr ⟨To.mpr (Qy e'),by simp[q]⟩
   have z:(zXe h H).get? b=none:=PySem.W.hideAll_none (trk h H) hm
   rw[z] at e;cases e
def zNP (g h:Heap)(L:Addr):List (Addr×Obj):=(List.range h.objs.size).filterMap fun a=>if a=L∨(g.get? a).isSome=true then none else(h.get? a).map fun o=>(a,o)
def rest (g h:Heap)(L d:Addr):List (Addr×Obj):=(zNP g h L).filter fun p=>decide (p.1≠d)
structure Mod (K:PySem.W.Frag)(mg:Str->Option Value)(base:Heap):Prop where
 kin:K.In base
 glob:base.Ns mainGlobals mg
 blt:∃mb,base.Ns builtinsNs mb/\∀x:Str,x≠"__name__"->mb x=bootBuiltins x
 nolimit:base.NoLimit
/-- the context: a def's body (or a comprehension's block) running. base: fixed through the whole law; s₀, H₀: the entry; outer: the frames whose slots others may change (a def's callers); stack: all frames that run;
  ex: iterators that were made ahead of the entry and are walked here (a comprehension's);fn: the names whose cells were made at the entry (a def: all;a comprehension's block: its own);calm: not within an except suite;pn: pins that every state bears;xe: what is wanted of an exception that leaves the code -/
structure Cx where
 prog:Program
 w:World
 K:PySem.W.Frag
 mg:Str->Option Value
 base:Heap
 A:Around
 N:List Str
 s₀:Shared
 H₀:Hp
 env:Env
 outer:List Env
 stack:List Env
 ex:List Addr
 fn:Str->Bool
 calm:Bool
 pn:List (Addr×Obj)
 xe:Value->Shared->Prop
def frs (l:List Env):List Addr:=l.filterMap (·.frame)
abbrev Cx.fs (X:Cx):List Addr:=frs X.outer
def Vis (sc:Scope)(x:Str):Prop:=sc.names.lookup x=some .local∨sc.names.lookup x=some .cell∨sc.names.lookup x=some .free
def Loc (sc:Scope)(x:Str):Prop:=sc.names.lookup x=some .local∨sc.names.lookup x=some .cell
def zJZ (env:Env)(h:Heap)(m:Str->Option Value)(x:Str)(u:Value):Prop :=
 (env.kindOf x=some .local/\m x=some u)∨((env.kindOf x=some .cell∨env.kindOf x=some .free)/\∃c,env.cells.lookup x=some c/\h.IsCell c (some u))
structure Cx.Ok (X:Cx):Prop where
 mod:Mod X.K X.mg X.base
 kind:X.env.scope.kind = .function
 glob:X.env.globals=mainGlobals
 blt:X.env.builtins=builtinsNs
 above:X.s₀.heap.objs.size<=X.env.locals
 inj:∀x y c,X.env.cells.lookup x=some c->X.env.cells.lookup y=some c->x=y
 has:∀x,(X.env.kindOf x=some .cell∨X.env.kindOf x=some .free)->∃c,X.env.cells.lookup x=some c
 cab:∀x c,X.fn x=true->X.env.cells.lookup x=some c->X.s₀.heap.objs.size<=c
 hd:X.calm=true->X.A.handled=none
 frames:X.A.frames=some X.stack
 stk:X.stack=X.outer∨(X.stack=X.env::X.outer/\X.env.frame=some X.env.locals)
 exf:∀b∈X.ex,b≠X.env.locals/\∀x c,X.env.cells.lookup x=some c->c≠b
 bs:∀b o,X.base.get? b=some o->X.s₀.heap.get? b=some o/\X.H₀ b=none
 bsz:X.base.objs.size<=X.s₀.heap.objs.size
 noex:∀b o,X.base.get? b=some o->b∉X.ex
 exfs:∀b∈X.ex,b∉X.fs
 funs:X.s₀.heap.FunFrames X.base X.outer
 frf:∀b∈X.fs,X.H₀ b=none
structure Inv (X:Cx)(pins:List (Addr×Obj))(σ:List (Option V))(H:Hp)(s:Shared):Prop where
 ok:X.Ok
 os:s.os=X.s₀.os
 bare:AllBare s.gens
 base:Un X.fs X.ex X.H₀ H X.s₀.heap s.heap
 loc:∃m,s.heap.Ns X.env.locals m/\∀(i:Nat) (x:Str) (v:V),X.N[i]?=some x->σ[i]?=some (some v)->Vis X.env.scope x->∃u,RelV v u/\zJZ X.env s.heap m x u
 cell:∀x c,X.env.cells.lookup x=some c->∃v,s.heap.IsCell c v
 free:H X.env.locals=none
 freeC:∀x c,X.env.cells.lookup x=some c->H c=none
 pin:∀p∈X.pn++pins,s.heap.get? p.1=some p.2/\H p.1=none/\p.1≠X.env.locals/\p.1∉X.fs/\∀v,p.2.data ≠ .cell v
 hok:HOk X.prog X.w H s.heap
 len:σ.length=X.N.length
section
variable {X:Cx} {pins:List (Addr×Obj)} {σ:List (Option V)} {H H':Hp} {s:Shared} {h':Heap}
theorem Cx.Ok.nofr (ok:X.Ok){b:Addr}{o:Obj}(e:X.base.get? b=some o):b∉X.fs:=fun hb=>by
 have:=(ok.funs.mem hb).1
 rw[e] at this;cases this
theorem Inv.bs (I:Inv X pins σ H s):∀b o,X.base.get? b=some o->s.heap.get? b=some o/\H b=none:=fun b o e =>
 ⟨I.base.keep b o (I.ok.bs b o e).1 (I.ok.bs b o e).2 (I.ok.nofr e) (I.ok.noex b o e),I.base.free b o (I.ok.bs b o e).1 (I.ok.bs b o e).2 (I.ok.noex b o e)⟩
theorem Inv.bk (I:Inv X pins σ H s):∀b o,X.base.get? b=some o->s.heap.get? b=some o:=fun b o e=>(I.bs b o e).1
theorem Inv.mod (I:Inv X pins σ H s):Mod X.K X.mg X.base:=I.ok.mod
theorem Inv.kIn (I:Inv X pins σ H s):X.K.In s.heap:=I.ok.mod.kin.keeps I.bk
theorem Inv.lt (I:Inv X pins σ H s):X.env.locals < s.heap.objs.size:=let ⟨_,hn,_⟩:=I.loc;hn.lt
theorem Inv.sz (I:Inv X pins σ H s):X.s₀.heap.objs.size<=s.heap.objs.size:=Wi I.ok.above (Wd I.lt)
theorem Inv.nofs (I:Inv X pins σ H s){a:Addr}(h:s.heap.objs.size<=a):a∉X.fs:=fun hb=>by
 obtain⟨_,o,ho,_⟩:=I.ok.funs.mem hb
 exact absurd (Qm (Qy ho) (Wi I.sz h)) (Ww _)
theorem Inv.cne (I:Inv X pins σ H s):∀x c,X.env.cells.lookup x=some c->c≠X.env.locals:=fun x c e z=>by
 obtain⟨v,o,ho,hd⟩:=I.cell x c e
 obtain⟨m,⟨o',es,ep,ho',hd',_⟩,_⟩:=I.loc
 rw[z,ho'] at ho;cases ho;rw[hd'] at hd;cases hd
theorem Inv.funs (I:Inv X pins σ H s):s.heap.FunFrames X.base X.outer:=by
 have all:∀(l:List Env),(∀b∈frs l,b∈X.fs)->X.s₀.heap.FunFrames X.base l->s.heap.FunFrames X.base l:=by
   intro l
   induction l with
   | nil=>intro _ _;trivial
   | cons env r ih =>
     intro hs hl
     obtain⟨hk,⟨L,o,hf,hn,ho,hd⟩,hr⟩:=hl
     have hL:L∈X.fs:=hs L (by unfold frs;rw[Yw,hf];exact Qh)
     obtain⟨sl,e⟩:=I.base.slot L o ho (I.ok.frf L hL) hL fun z=>I.ok.exfs L z hL
     exact⟨hk,⟨L,_,hf,hn,e,hd⟩,ih (fun b hb=>hs b (by unfold frs;rw[Yw,hf];exact Qd _ hb)) hr⟩
 exact all X.outer (fun _ hb=>hb) I.ok.funs
theorem Inv.stack (I:Inv X pins σ H s):s.heap.FunFrames X.base X.stack:=by
 rcases I.ok.stk with e | ⟨e,hf⟩
 · rw[e];exact I.funs
 · rw[e]
   obtain⟨m,hn,_⟩:=I.loc
   refine .cons (by rw[I.ok.kind];decide) hf hn ?_ I.funs
   exact Heap.get?_none_of_le (Wi I.ok.bsz I.ok.above)
theorem Inv.stkSub (I:Inv X pins σ H s):∀b∈frs X.stack,b∈X.env.locals::X.fs:=fun b hb=>by
 rcases I.ok.stk with e | ⟨e,hf⟩
 · rw[e] at hb;exact Qd _ hb
 · rw[e] at hb
   unfold frs at hb
   rw[Yw,hf] at hb
   exact hb
theorem Inv.stkFree (I:Inv X pins σ H s):∀b∈frs X.stack,H b=none:=fun b hb=>by
 rcases Qz.mp (I.stkSub b hb) with e | hb
 · rw[e];exact I.free
 · obtain⟨_,o,ho,_⟩:=I.ok.funs.mem hb
   exact I.base.free b o ho (I.ok.frf b hb) fun z=>I.ok.exfs b z hb
theorem Inv.step {g':Array GenState}{t':Nat}{d':Drawn}{ch:List Addr}(I:Inv X pins σ H s)
   (hch:∀b∈ch,(b∈X.ex∨X.s₀.heap.objs.size<=b)/\b≠X.env.locals/\(∀x c,X.env.cells.lookup x=some c->c≠b)/\∀p∈X.pn++pins,p.1≠b)
   (keep:∀b o,b≠X.env.locals->b∉X.fs->b∉ch->s.heap.get? b=some o->H b=none->h'.get? b=some o)
   (slot:∀b o,b≠X.env.locals->b∈X.fs->b∉ch->s.heap.get? b=some o->H b=none->∃sl,h'.get? b=some { o with slots:=sl }) (free:∀b o,b∉ch->s.heap.get? b=some o->H b=none->H' b=none)
   (there:∀b o,b∉ch->s.heap.get? b=some o->∃o',h'.get? b=some o')
   (tups:∀b xs,H b=some (.tup xs)->H' b=some (.tup xs)) (frzs:∀b o u,H b=some (.frz o u)->H' b=some (.frz o u)) (tbls:∀b ps,H b=some (.tbl ps)->∃more,H' b=some (.tbl (ps++more)))
   (ns:∀m,s.heap.Ns X.env.locals m->h'.Ns X.env.locals m) (hok:HOk X.prog X.w H' h') (hg:AllBare g') :
   Inv X pins σ H' { s with heap:=h',gens:=g',drawn:=d',toks:=t' }:=by
 have neL:∀b o,X.s₀.heap.get? b=some o->b≠X.env.locals:=fun b o e=>We (Qm (Qy e) I.ok.above)
 have neC:∀b o,X.s₀.heap.get? b=some o->b∉X.ex->b∉ch:=fun b o e hx hb=>by
   rcases(hch b hb).1 with z | z
   · exact hx z
   · exact absurd (Qm (Qy e) z) (Ww _)
 have cellK:∀x c,X.env.cells.lookup x=some c->∀v,s.heap.IsCell c v->h'.IsCell c v:=fun x c e v ⟨o,ho,hd⟩=>by
   have nch:c∉ch:=fun z=>(hch c z).2.2.1 x c e rfl
   by_cases hc:c∈X.fs
   · obtain⟨sl,q⟩:=slot c o (I.cne x c e) hc nch ho (I.freeC x c e)
     exact⟨_,q,hd⟩
   · exact⟨o,keep c o (I.cne x c e) hc nch ho (I.freeC x c e),hd⟩
 refine⟨I.ok,I.os,hg,⟨fun b o e n hb hx=>?_,fun b o e n hb hx=>?_,fun b o e n hx=>?_,fun b o e hx=>?_,fun b xs e=>tups b xs (I.base.tups b xs e),fun b o xs e=>frzs b o xs (I.base.frzs b o xs e),fun b ps e=>?_⟩,?_,fun x c e=>?_,?_,fun x c e=>?_,fun p hp=>?_,hok,I.len⟩
 · exact keep b o (neL b o e) hb (neC b o e hx) (I.base.keep b o e n hb hx) (I.base.free b o e n hx)
 · obtain⟨sl,e1⟩:=I.base.slot b o e n hb hx
   obtain⟨sl',e2⟩:=slot b _ (neL b o e) hb (neC b o e hx) e1 (I.base.free b o e n hx)
   exact⟨sl',e2⟩
 · obtain⟨o',e1⟩:=I.base.there b o e hx
   exact free b o' (neC b o e hx) e1 (I.base.free b o e n hx)
 · obtain⟨o',e1⟩:=I.base.there b o e hx
   exact there b o' (neC b o e hx) e1
 · obtain⟨m1,e1⟩:=I.base.tbls b ps e
   obtain⟨m2,e2⟩:=tbls b _ e1
   exact⟨m1++m2,by rw[e2,Array.append_assoc]⟩
 · obtain⟨m,hn,hl⟩:=I.loc
   refine⟨m,ns m hn,fun i x v e1 e2 e3=>?_⟩
   obtain⟨u,r,l⟩:=hl i x v e1 e2 e3
   refine⟨u,r,?_⟩
   rcases l with l | ⟨k,c,e,z⟩
   · exact .inl l
   · exact .inr ⟨k,c,e,cellK x c e _ z⟩
 · obtain⟨v,z⟩:=I.cell x c e
   exact⟨v,cellK x c e v z⟩
 · obtain⟨m,⟨o,_,_,ho,_⟩,_⟩:=I.loc
   exact free _ o (fun z=>(hch _ z).2.1 rfl) ho I.free
 · obtain⟨v,o,ho,hd⟩:=I.cell x c e
   exact free c o (fun z=>(hch c z).2.2.1 x c e rfl) ho (I.freeC x c e)
 · obtain⟨e,n,ne,nf,d⟩:=I.pin p hp
   have nch:p.1∉ch:=fun z=>(hch p.1 z).2.2.2 p hp rfl
   exact⟨keep p.1 p.2 ne nf nch e n,free p.1 p.2 nch e n,ne,nf,d⟩
theorem Inv.un {t':Nat}(I:Inv X pins σ H s)(u:Un X.fs [] H H' s.heap h')(hok:HOk X.prog X.w H' h'):Inv X pins σ H' { s with heap:=h',toks:=t' }:=by
 obtain⟨m,⟨o,es,ep,ho,r⟩,_⟩:=id I.loc
 obtain⟨sl,hL⟩:=u.any ho I.free (by simp)
 exact I.step (g':=s.gens) (d':=s.drawn) (ch:=[]) (fun _ z=>nomatch z) (fun b o _ hb _ e n=>u.keep b o e n hb (by simp)) (fun b o _ hb _ e n=>u.slot b o e n hb (by simp)) (fun b o _ e n=>u.free b o e n (by simp)) (fun b o _ e=>u.there b o e (by simp)) u.tups u.frzs u.tbls (fun m' hm=>by
   obtain⟨o',es',ep',ho',r'⟩:=hm
   rw[ho] at ho';cases ho'
   exact⟨_,es',ep',hL,r'⟩) hok I.bare
theorem Inv.call {g':Array GenState}{t':Nat}{d':Drawn}{ch:List Addr}(I:Inv X pins σ H s)(u:Un (frs X.stack) ch H H' s.heap h')(hok:HOk X.prog X.w H' h')(hg:AllBare g')
   (hch:∀b∈ch,(b∈X.ex∨X.s₀.heap.objs.size<=b)/\b≠X.env.locals/\(∀x c,X.env.cells.lookup x=some c->c≠b)/\∀p∈X.pn++pins,p.1≠b) :
   Inv X pins σ H' { s with heap:=h',gens:=g',drawn:=d',toks:=t' }:=by
 obtain⟨m,⟨o,es,ep,ho,r⟩,_⟩:=id I.loc
 obtain⟨sl,hL⟩:=u.any ho I.free fun z=>(hch _ z).2.1 rfl
 exact I.step (ch:=ch) hch (fun b o hL hb hc e n=>u.keep b o e n (fun z=>(Qz.mp (I.stkSub b z)).elim hL hb) hc) (fun b o _ _ hc e n=>u.any e n hc) (fun b o hc e n=>u.free b o e n hc) (fun b o hc e=>u.there b o e hc) u.tups u.frzs u.tbls (fun m' hm=>by
   obtain⟨o',es',ep',ho',r'⟩:=hm
   rw[ho] at ho';cases ho'
   exact⟨_,es',ep',hL,r'⟩) hok hg
theorem Inv.turned {t':Nat}{it:Addr}(I:Inv X pins σ H s)(k:∀b o,b≠it->s.heap.get? b=some o->h'.get? b=some o)(hn:H it=none)(hL:it≠X.env.locals)
   (h1:it∈X.ex∨X.s₀.heap.objs.size<=it) (h2:∀x c,X.env.cells.lookup x=some c->c≠it) (h3:∀p∈X.pn++pins,p.1≠it):Inv X pins σ H { s with heap:=h',toks:=t' }:=by
 have nit:∀b u,H b=some u->b≠it:=fun b u e z=>by rw[z,hn] at e;cases e
 refine I.step (g':=s.gens) (d':=s.drawn) (ch:=[it]) (fun b hb=>?_) (fun b o _ _ hc e _=>k b o (fun z=>hc (by simp[z])) e) (fun b o _ _ hc e _=>⟨o.slots,k b o (fun z=>hc (by simp[z])) e⟩) (fun _ _ _ _ n=>n)
   (fun b o hc e=>⟨o,k b o (fun z=>hc (by simp[z])) e⟩) (fun _ _ e=>e) (fun _ _ _ e=>e) (fun b ps e=>⟨#[],by rw[e];simp⟩) (fun m hm=>?_) (fun b u e=>?_) I.bare
 · have e:b=it:=by simpa using hb
   subst e
   exact⟨h1,hL,h2,h3⟩
 · obtain⟨o,es,ep,ho,r⟩:=hm
   exact⟨o,es,ep,k _ o (Ne.symm hL) ho,r⟩
 · refine(I.hok b u e).stay (fun c v hc q=>k c v ?_ q) (fun _ q=>q) fun _ _ q=>q
   rcases hc with z | z
   · rw[z];exact nit b u e
   · exact nit c _ z
theorem Inv.tok (I:Inv X pins σ H s)(t:Nat):Inv X pins σ H { s with toks:=t }:=I.un (h':=s.heap) (t':=t) Un.refl I.hok
theorem Inv.kept {t':Nat}(I:Inv X pins σ H s)(k:∀b u,s.heap.get? b=some u->h'.get? b=some u):Inv X pins σ H { s with heap:=h',toks:=t' }:=I.un (Un.kept k) (I.hok.kept k)
theorem Inv.laid {a:Addr}{o:HO}{t':Nat}(I:Inv X pins σ H s)(k:∀b u,s.heap.get? b=some u->h'.get? b=some u)(hp:s.heap.objs.size<=a)(new:ObjOk X.prog X.w (upd H a o) h' a o) :
   Inv X pins σ (upd H a o) { s with heap:=h',toks:=t' }:=I.un (Un.laid k hp (I.hok.fresh hp)) (I.hok.laid k hp new)
theorem Inv.write {x e:Addr}{o:HO}{t':Nat}(I:Inv X pins σ H s)(mu:Mut (H x))(he:e=x∨H e=some (.own x))(k:∀b u,b≠e->s.heap.get? b=some u->h'.get? b=some u)(heo:∃u,h'.get? e=some u)
   (new:ObjOk X.prog X.w (upd H x o) h' x o):Inv X pins σ (upd H x o) { s with heap:=h',toks:=t' }:=I.un (Un.write mu he k heo) (I.hok.write mu he k heo new)
theorem Inv.pins_of {pins':List (Addr×Obj)}(I:Inv X pins σ H s)(h:∀p∈pins',s.heap.get? p.1=some p.2/\H p.1=none/\p.1≠X.env.locals/\p.1∉X.fs/\∀v,p.2.data ≠ .cell v):Inv X pins' σ H s :=
 ⟨I.ok,I.os,I.bare,I.base,I.loc,I.cell,I.free,I.freeC,fun p hp=>(Eh.mp hp).elim (fun z=>I.pin p (Ij _ z)) (h p),I.hok,I.len⟩
theorem zVp {N:List Str}(hN:N.Nodup){i j:Nat}{x:Str}(a:N[i]?=some x)(b:N[j]?=some x):i=j:=by
 obtain⟨h1,e1⟩:=Ql.mp a
 obtain⟨h2,e2⟩:=Ql.mp b
 exact(List.getElem_inj hN).mp (e1.trans e2.symm)
theorem bX {M:Model}{A:Around}{E:Value->Shared->Prop}{i:Nat}{x:Str}{v:V}{u:Value}{Q:Unit->Shared->Prop}(I:Inv X pins σ H s)(hN:X.N.Nodup)(hi:X.N[i]?=some x)(hx:Loc X.env.scope x)(r:RelV v u)
   (h:∀s',Inv X pins (σ.set i (some v)) H s'->(∃a,Heap.SameBut a s.heap s'.heap/\(a=X.env.locals∨X.env.cells.lookup x=some a))->Q () s') (hf:X.fn x=true∨X.env.scope.names.lookup x=some .local:=by first | exact .inl rfl | exact .inr rfl | assumption):wpAny M A (storeName X.env x u) Q E s:=by
 obtain⟨m,hn,hl⟩:=id I.loc
 have hcls:(X.env.scope.kind == .class||(X.env.scope.kind == .module&&X.env.locals != X.env.globals))=false:=by rw[I.ok.kind];rfl
 have hiσ:i < σ.length:=by rw[I.len];exact(Ql.mp hi).1
 have cne:=I.cne
 have tracked:∀ {a:Addr} {h':Heap},(∃o,s.heap.get? a=some o/\H a=none)->Heap.SameBut a s.heap h'->HOk X.prog X.w H h':=fun {a h'} ha hs b ob e=>by
   obtain⟨_,_,hfree⟩:=ha
   refine(I.hok b ob e).stay (fun c w' hc q=>(hs.2 c ?_).trans q) (fun _ q=>q) fun _ _ q=>q
   rintro rfl
   rcases hc with rfl | hc
   · rw[hfree] at e;cases e
   · rw[hfree] at hc;cases hc
 rcases hx with hk | hk
 · refine wpAny_storeName_local hk hn (fun h' hn' hs=>?_) hcls
   obtain⟨oL,_,_,hoL,_⟩:=id hn
   refine h _ ⟨I.ok,I.os,I.bare,⟨fun b o e n hb hx=>?_,fun b o e n hb hx=>?_,I.base.free,fun b o e hx=>?_,I.base.tups,I.base.frzs,I.base.tbls⟩,⟨_,hn',fun j y v' e1 e2 e3=>?_⟩,fun y c e=>?_,I.free,I.freeC,fun p hp=>?_,tracked ⟨oL,hoL,I.free⟩ hs,by simpa using I.len⟩ ⟨_,hs,.inl rfl⟩
   · exact(hs.2 b (We (Qm (Qy e) I.ok.above))).trans (I.base.keep b o e n hb hx)
   · obtain⟨sl,e1⟩:=I.base.slot b o e n hb hx
     exact⟨sl,(hs.2 b (We (Qm (Qy e) I.ok.above))).trans e1⟩
   · obtain⟨o',e1⟩:=I.base.there b o e hx
     exact⟨o',(hs.2 b (We (Qm (Qy e) I.ok.above))).trans e1⟩
   · by_cases hj:j=i
     · subst hj
       rw[hi] at e1;cases e1
       rw[Eg hiσ] at e2
       cases e2
       exact⟨u,r,.inl ⟨hk,by simp⟩⟩
     · rw[Wt (Ne.symm hj)] at e2
       obtain⟨u',r',q⟩:=hl j y v' e1 e2 e3
       refine⟨u',r',?_⟩
       rcases q with⟨k,e⟩ | ⟨k,c,e,z⟩
       · refine .inl ⟨k,?_⟩
         have:y≠x:=fun e=>hj (zVp hN e1 (e ▸ hi))
         simp[this,e]
       · exact .inr ⟨k,c,e,z.sameBut hs (cne y c e)⟩
   · obtain⟨w',z⟩:=I.cell y c e
     exact⟨w',z.sameBut hs (cne y c e)⟩
   · obtain⟨e,n,ne,nf,d⟩:=I.pin p hp
     exact⟨(hs.2 p.1 ne).trans e,n,ne,nf,d⟩
 · have hfn:X.fn x=true:=by
     rcases hf with z | z
     · exact z
     · rw[z] at hk;cases hk
   obtain⟨c,hc⟩:=I.ok.has x (.inl hk)
   obtain⟨w',z⟩:=I.cell x c hc
   refine wpAny_storeName_cell I.ok.kind hk hc z (fun h' hc' hs=>?_)
   obtain⟨oc,hoc,hocd⟩:=id z
   refine h { s with heap:=h' } ⟨I.ok,I.os,I.bare,⟨fun b o e n hb hx=>?_,fun b o e n hb hx=>?_,I.base.free,fun b o e hx=>?_,I.base.tups,I.base.frzs,I.base.tbls⟩,⟨m,hn.sameBut hs (Ne.symm (cne x c hc)),fun j y v' e1 e2 e3=>?_⟩,fun y c' e=>?_,I.free,I.freeC,fun p hp=>?_,tracked ⟨oc,hoc,I.freeC x c hc⟩ hs,by simpa using I.len⟩ ⟨c,hs,.inr hc⟩
   · exact(hs.2 b (We (Qm (Qy e) (I.ok.cab x c hfn hc)))).trans (I.base.keep b o e n hb hx)
   · obtain⟨sl,e1⟩:=I.base.slot b o e n hb hx
     exact⟨sl,(hs.2 b (We (Qm (Qy e) (I.ok.cab x c hfn hc)))).trans e1⟩
   · obtain⟨o',e1⟩:=I.base.there b o e hx
     exact⟨o',(hs.2 b (We (Qm (Qy e) (I.ok.cab x c hfn hc)))).trans e1⟩
   · by_cases hj:j=i
     · subst hj
       rw[hi] at e1;cases e1
       rw[Eg hiσ] at e2
       cases e2
       exact⟨u,r,.inr ⟨.inl hk,c,hc,hc'⟩⟩
     · rw[Wt (Ne.symm hj)] at e2
       obtain⟨u',r',q⟩:=hl j y v' e1 e2 e3
       refine⟨u',r',?_⟩
       rcases q with q | ⟨k,c',e,z'⟩
       · exact .inl q
       · refine .inr ⟨k,c',e,z'.sameBut hs ?_⟩
         rintro rfl
         exact hj (zVp hN e1 (I.ok.inj _ _ _ e hc ▸ hi))
   · by_cases hcc:c'=c
     · subst hcc;exact⟨_,hc'⟩
     · obtain⟨w2,z2⟩:=I.cell y c' e
       exact⟨w2,z2.sameBut hs hcc⟩
   · obtain⟨e,n,ne,nf,d⟩:=I.pin p hp
     refine⟨(hs.2 p.1 ?_).trans e,n,ne,nf,d⟩
     intro q
     rw[q,hoc] at e
     have q':oc=p.2:=Wp e
     exact d w' (by rw[←q'];exact hocd)
theorem zYD {M:Model}{A:Around}{E:Value->Shared->Prop}{i:Nat}{x:Str}{v:V}{u:Value}{Q:Unit->Shared->Prop}(I:Inv X pins σ H s)(hN:X.N.Nodup)(hi:X.N[i]?=some x)(hx:Loc X.env.scope x)(r:RelV v u)
   (h:∀s',Inv X pins (σ.set i (some v)) H s'->Q () s') (hf:X.fn x=true∨X.env.scope.names.lookup x=some .local:=by first | exact .inl rfl | exact .inr rfl | assumption):wpAny M A (storeName X.env x u) Q E s :=
 bX I hN hi hx r (fun s' I' _=>h s' I') hf
theorem Inv.call' {s':Shared}{ch:List Addr}(I:Inv X pins σ H s)(ho:s'.os=s.os)(u:Un (frs X.stack) ch H H' s.heap s'.heap)(hok:HOk X.prog X.w H' s'.heap)(hg:AllBare s'.gens)
   (hch:∀b∈ch,(b∈X.ex∨X.s₀.heap.objs.size<=b)/\b≠X.env.locals/\(∀x c,X.env.cells.lookup x=some c->c≠b)/\∀p∈X.pn++pins,p.1≠b):Inv X pins σ H' s':=by
 obtain⟨h',g',d',t',o'⟩:=s'
 have e:o'=s.os:=ho
 subst e
 exact I.call (g':=g') (t':=t') (d':=d') u hok hg hch
end
abbrev XK:=Value->Option Addr->Hp->Prop
abbrev St:=List (Option V)
abbrev VK:=V->Hp->Prop
abbrev TE:=St->Hp->VK->Prop
abbrev TT:=St->Hp->(Bool->Hp->Prop)->Prop
abbrev TA:=St->Hp->(List V->Hp->Prop)->Prop
structure Ends where
 nx:St->Hp->Prop
 rt:VK
 bk:St->Hp->Prop:=fun _ _=>False
 ct:St->Hp->Prop:=fun _ _=>False
abbrev TS:=Ends->St->Hp->Prop
def EP (X:Cx)(pins:List (Addr×Obj))(σ:St)(Q:VK)(u:Value)(s':Shared):Prop:=∃v H',Inv X pins σ H' s'/\RelV v u/\Q v H'
def TP (X:Cx)(pins:List (Addr×Obj))(σ:St)(Q:Bool->Hp->Prop)(b:Bool)(s':Shared):Prop:=∃H',Inv X pins σ H' s'/\Q b H'
def AP (X:Cx)(pins:List (Addr×Obj))(σ:St)(Q:List V->Hp->Prop)(us:List Value)(s':Shared):Prop:=∃vs H',Inv X pins σ H' s'/\Vals vs us/\Q vs H'
def SP (X:Cx)(pins:List (Addr×Obj))(D:Ends)(f:Flow)(s':Shared):Prop :=
 match f with
 | .next=>∃σ' H',Inv X pins σ' H' s'/\D.nx σ' H'
 | .brk=>∃σ' H',Inv X pins σ' H' s'/\D.bk σ' H'
 | .cont=>∃σ' H',Inv X pins σ' H' s'/\D.ct σ' H'
 | .ret u=>∃v σ' H',Inv X pins σ' H' s'/\RelV v u/\D.rt v H'
def PE (X:Cx)(e:Expr)(t:TE):Prop :=
 ∀(pins:List (Addr×Obj)) (s:Shared) (σ:St) (H:Hp) (Q:VK),Inv X pins σ H s->t σ H Q->wpAny (model X.prog X.w) X.A (eval e X.env) (EP X pins σ Q) X.xe s
def PT (X:Cx)(e:Expr)(t:TT):Prop :=
 ∀(pins:List (Addr×Obj)) (s:Shared) (σ:St) (H:Hp) (Q:Bool->Hp->Prop),Inv X pins σ H s->t σ H Q->wpAny (model X.prog X.w) X.A (isTrue e X.env (eval e X.env)) (TP X pins σ Q) X.xe s
def PW (X:Cx)(e:Expr)(t:TT):Prop :=
 ∀(whole:Sem Value) (pins:List (Addr×Obj)) (s:Shared) (σ:St) (H:Hp) (Q:Bool->Hp->Prop),Inv X pins σ H s->t σ H Q->wpAny (model X.prog X.w) X.A (isTrue e X.env whole) (TP X pins σ Q) X.xe s
theorem PW.pt {X:Cx}{e:Expr}{t:TT}(h:PW X e t):PT X e t:=h _
def PA (X:Cx)(es:List Expr)(t:TA):Prop :=
 ∀(pos:Pos) (pins:List (Addr×Obj)) (s:Shared) (σ:St) (H:Hp) (Q:List V->Hp->Prop),Inv X pins σ H s->t σ H Q->wpAny (model X.prog X.w) X.A (spliced (backTo pos (starEach es X.env))) (AP X pins σ Q) X.xe s
def PS (X:Cx)(st:Stmt)(t:TS):Prop :=
 ∀(pins:List (Addr×Obj)) (s:Shared) (σ:St) (H:Hp) (D:Ends),Inv X pins σ H s->t D σ H->wpAny (model X.prog X.w) X.A (exec st X.env) (SP X pins D) X.xe s
def PSs (X:Cx)(st:List Stmt)(t:TS):Prop :=
 ∀(pins:List (Addr×Obj)) (s:Shared) (σ:St) (H:Hp) (D:Ends),Inv X pins σ H s->t D σ H->wpAny (model X.prog X.w) X.A (execs st X.env) (SP X pins D) X.xe s
theorem thn {α:Type}{t:Sem α}{Q Q':α->Shared->Prop}{M:Model}{A:Around}{E:Value->Shared->Prop}{s:Shared}(h:wpAny M A t Q E s)(hQ:∀a s,Q a s->Q' a s):wpAny M A t Q' E s:=Rp h hQ fun _ _ x=>x
section
variable {X:Cx}
def zNA (i:Nat):TE:=fun σ H Q=>∃v,σ[i]?=some (some v)/\Q v H
def tC (v:V):TE:=fun _ H Q=>Q v H
theorem oY {i:Nat}{x:Str}{pos:Pos}(hN:X.N[i]?=some x)(hv:Vis X.env.scope x)(hd:(x==("__debug__":Str))=false:=by decide)(hcd:(x==("__classdict__":Str))=false:=by decide):PE X (.Name x pos) (zNA i):=by
 intro pins s σ H Q I h
 obtain⟨v,e,h⟩:=h
 obtain⟨m,hn,hl⟩:=I.loc
 obtain⟨u,r,l⟩:=hl i x v hN e hv
 have fin:EP X pins σ Q u s:=⟨v,H,I,r,h⟩
 rcases l with⟨hk,hm⟩ | ⟨hk,c,hc,hcell⟩
 · exact wpAny_Name (wpAny_loadName_local I.ok.kind hk hn hm fin) hd
 · rcases hk with hk | hk
   · exact wpAny_Name (wpAny_loadName_cell I.ok.kind hk hc hcell fin) hd
   · exact wpAny_Name (wpAny_loadName_free I.ok.kind hk hc hcell fin hcd) hd
theorem zM7 {i j pos}:PE X (.Constant (.int i) j pos) (tC (.int i)):=fun _ _ _ H _ I h=>wpAny_Constant_int ⟨.int i,H,I.tok _,⟨_,rfl⟩,h⟩
theorem zKV {b j pos}:PE X (.Constant (.bool b) j pos) (tC (.bl b)):=fun _ _ _ H _ I h=>Constant_bool ⟨.bl b,H,I,rfl,h⟩
theorem zQ2 {j pos}:PE X (.Constant .none j pos) (tC .non):=fun _ _ _ H _ I h=>Constant_none ⟨.non,H,I,rfl,h⟩
theorem zMH {x j pos}:PE X (.Constant (.str x) j pos) (tC (.str x)):=fun _ _ _ H _ I h=>Calls.Constant_str ⟨.str x,H,I.tok _,⟨_,rfl⟩,h⟩
def Gl (X:Cx)(x:Str):Prop:=X.env.kindOf x=some .globalImplicit
theorem iG {E:Value->Shared->Prop}{pins:List (Addr×Obj)}{s:Shared}{σ:St}{H:Hp}{x:Str}{u:Value}{pos:Pos}{Q:Value->Shared->Prop}(I:Inv X pins σ H s)(hg:Gl X x)(hm:X.mg x=some u)(h:Q u s)
   (hd:(x==("__debug__":Str))=false:=by decide):wpAny (model X.prog X.w) X.A (eval (.Name x pos) X.env) Q E s :=
 Om I.ok.kind hg (Calls.loadGlobal_global (by rw[I.ok.glob];exact I.mod.glob.keeps I.bk) hm h) hd
theorem nS {E:Value->Shared->Prop}{pins:List (Addr×Obj)}{s:Shared}{σ:St}{H:Hp}{x:Str}{u:Value}{pos:Pos}{Q:Value->Shared->Prop}(I:Inv X pins σ H s)(hg:Gl X x)(hm:X.mg x=none)(hv:bootBuiltins x=some u)(h:Q u s)
   (hn:x≠"__name__":=by decide) (hd:(x==("__debug__":Str))=false:=by decide):wpAny (model X.prog X.w) X.A (eval (.Name x pos) X.env) Q E s:=by
 obtain⟨mb,h1,h2⟩:=I.mod.blt
 exact Om I.ok.kind hg (Calls.loadGlobal_builtin (by rw[I.ok.glob];exact I.mod.glob.keeps I.bk) hm (by rw[I.ok.blt];exact h1.keeps I.bk) ((h2 x hn).trans hv) h) hd
theorem zZV {x:Str}{v:V}{u:Value}{pos:Pos}(hg:Gl X x)(hm:X.mg x=some u)(r:RelV v u)(hd:(x==("__debug__":Str))=false:=by decide):PE X (.Name x pos) (tC v) :=
 fun _ _ _ H _ I h=>iG I hg hm ⟨v,H,I,r,h⟩ hd
variable {a b:Expr} {ta tb:TE} {pos:Pos}
def tB (t:TE):TT:=fun σ H Q=>t σ H fun x H1=>∃c,x = .bl c/\Q c H1
theorem zL4 {e:Expr}{t:TE}(h:PE X e t)(he:∀whole,isTrue e X.env whole=(do let v ←whole;standAt e.pos;holding [v] (truthy v)):=by intro _;rfl):PT X e (tB t):=by
 intro pins s σ H Q I hw
 refine isTrue_plain (thn (h pins s σ H _ I hw) fun v s1 ⟨x,H1,I1,r1,q1⟩=>?_) (he _)
 obtain⟨d,rfl,q⟩:=q1
 cases r1
 exact Eb ⟨H1,I1,q⟩
variable {tA tB':TT} {rest:List Expr}
def zJY (t u:TT):TT:=fun σ H Q=>t σ H fun c H1=>if c=true then u σ H1 Q else Q false H1
def tOr (t u:TT):TT:=fun σ H Q=>t σ H fun c H1=>if c=true then Q true H1 else u σ H1 Q
def zKt (t:TT):TT:=fun σ H Q=>t σ H fun c H1=>Q (!c) H1
theorem zOr (ha:PT X a tA):PW X (.BoolOp .And [a] pos) tA:=by
 intro wh pins s σ H Q I h
 refine isTrue_and (thn (ha pins s σ H Q I h) fun c s1 e=>?_)
 cases c with
 | true=>exact isTrue_and_nil e
 | false=>exact e
theorem zLV (ha:PT X a tA):PW X (.BoolOp .Or [a] pos) tA:=by
 intro wh pins s σ H Q I h
 refine isTrue_or (thn (ha pins s σ H Q I h) fun c s1 e=>?_)
 cases c with
 | false=>exact isTrue_or_nil e
 | true=>exact e
theorem zLp (ha:PT X a tA)(hb:PW X (.BoolOp .And (b::rest) pos) tB'):PW X (.BoolOp .And (a::b::rest) pos) (zJY tA tB'):=by
 intro wh pins s σ H Q I h
 refine isTrue_and (thn (ha pins s σ H _ I h) fun c s1 ⟨H1,I1,q1⟩=>?_)
 cases c with
 | true=>exact hb wh pins s1 σ H1 Q I1 q1
 | false=>exact⟨H1,I1,q1⟩
theorem zKB (ha:PT X a tA)(hb:PW X (.BoolOp .Or (b::rest) pos) tB'):PW X (.BoolOp .Or (a::b::rest) pos) (tOr tA tB'):=by
 intro wh pins s σ H Q I h
 refine isTrue_or (thn (ha pins s σ H _ I h) fun c s1 ⟨H1,I1,q1⟩=>?_)
 cases c with
 | true=>exact⟨H1,I1,q1⟩
 | false=>exact hb wh pins s1 σ H1 Q I1 q1
theorem zLL (ha:PT X a tA):PT X (.UnaryOp .Not a pos) (zKt tA):=by
 intro pins s σ H Q I h
 exact isTrue_not (ha pins s σ H (fun c H1=>Q (!c) H1) I h)
def zKE (ta tb:TE):TE:=fun σ H Q=>ta σ H fun x H1=>∃c,x = .bl c/\if c=true then tb σ H1 Q else Q (.bl false) H1
def zLc (ta:TE):TE:=fun σ H Q=>ta σ H fun x H1=>∃c,x = .bl c/\Q (.bl (!c)) H1
theorem zLC {op}{t:TE}(h:PE X a t):PE X (.BoolOp op [a] pos) t:=fun pins s σ H Q I hw=>BoolOp_one (h pins s σ H Q I hw)
theorem zM3 (ha:PE X a ta)(hb:PE X (.BoolOp .And (b::rest) pos) tb):PE X (.BoolOp .And (a::b::rest) pos) (zKE ta tb):=by
 intro pins s σ H Q I h
 refine BoolOp_and (thn (ha pins s σ H _ I h) fun v s1 ⟨x,H1,I1,r1,q1⟩=>?_)
 obtain⟨c,rfl,q1⟩:=q1
 cases r1
 refine Eb ?_
 cases c with
 | true=>exact hb pins s1 σ H1 Q I1 q1
 | false=>exact⟨.bl false,H1,I1,rfl,q1⟩
theorem zMG (ha:PE X a ta):PE X (.UnaryOp .Not a pos) (zLc ta):=by
 intro pins s σ H Q I h
 refine UnaryOp_ (thn (ha pins s σ H _ I h) fun v s1 ⟨x,H1,I1,r1,q1⟩=>?_)
 obtain⟨c,rfl,q1⟩:=q1
 cases r1
 exact not_of (Eb ⟨.bl (!c),H1,I1,rfl,q1⟩)
def tIf (t:TT)(ta tb:TE):TE:=fun σ H Q=>t σ H fun c H1=>if c=true then ta σ H1 Q else tb σ H1 Q
theorem zQ3 {c:Expr}(hc:PT X c tA)(ha:PE X a ta)(hb:PE X b tb):PE X (.IfExp c a b pos) (tIf tA ta tb):=by
 intro pins s σ H Q I h
 refine wpAny_IfExp (thn (hc pins s σ H _ I h) fun d s1 ⟨H1,I1,q1⟩=>?_)
 cases d with
 | true=>exact ha pins s1 σ H1 Q I1 q1
 | false=>exact hb pins s1 σ H1 Q I1 q1
end
def SqL (K:PySem.W.Frag)(H:Hp)(a:Addr)(xs:List V):Prop :=
 Rd H a (.lst xs) ∨
   ∃(o:Obj) (its:Array Value) (n:Nat),K.lookup a=some o/\o.cls = .type "list"/\o.dict=none/\o.data = .seq its n/\its.size<=sizeLine/\Vals xs its.toList
def SqT (K:PySem.W.Frag)(H:Hp)(a:Addr)(xs:List V):Prop :=
 Rd H a (.tup xs) ∨
   ∃(o:Obj) (its:Array Value) (n:Nat),K.lookup a=some o/\o.cls = .type "tuple"/\o.data = .seq its n/\its.size<=sizeLine/\Vals xs its.toList
def zKp:Value->Option V
 | .none=>some .non
 | .bool b=>some (.bl b)
 | .int i _=>some (.int i)
 | .str x _=>some (.str x)
 | .bytes b _=>some (.byt b)
 | .float b _=>some (.flt b)
 | .ref a=>some (.ref a)
 | .type n=>some (.ty n)
 | _=>none
theorem RelV.abs {x:V}{u:Value}(r:RelV x u):zKp u=some x:=by
 cases x with
 | non=>cases r;rfl
 | bl _=>cases r;rfl
 | int _=>obtain⟨t,rfl⟩:=r;rfl
 | str _=>obtain⟨t,rfl⟩:=r;rfl
 | byt _=>obtain⟨t,rfl⟩:=r;rfl
 | flt _=>obtain⟨t,rfl⟩:=r;rfl
 | ref _=>cases r;rfl
 | ty _=>cases r;rfl
theorem RelV.inj {x y:V}{u:Value}(r:RelV x u)(q:RelV y u):x=y:=Wp (r.abs.symm.trans q.abs)
theorem Vals.inj:∀ {xs ys:List V} {us:List Value},Vals xs us->Vals ys us->xs=ys
 | _,_,_,.nil,.nil=>rfl
 | _,_,_,.cons r t,.cons r' t'=>by rw[r.inj r',Vals.inj t t']
section
variable {X:Cx} {pins:List (Addr×Obj)} {σ:St} {H:Hp} {s:Shared} {a:Addr} {xs ys:List V}
theorem SqL.of {K:PySem.W.Frag}(h:H a=some (.lst xs)):SqL K H a xs:=.inl (.inl h)
theorem SqT.of {K:PySem.W.Frag}(h:H a=some (.tup xs)):SqT K H a xs:=.inl (.inl h)
theorem Inv.list (I:Inv X pins σ H s)(h:SqL X.K H a xs):∃its:List Value,Vals xs its/\PlainL s.heap a its.toArray/\xs.length<=sizeLine:=by
 rcases h with h | ⟨o,its,n,hk,hc,hd,hs,hz,r⟩
 · obtain⟨z,its,n,r,e⟩:=h.ok I.hok
   exact⟨its,r,⟨_,n,e,rfl,rfl,rfl⟩,z⟩
 · refine⟨its.toList,r,⟨o,n,I.kIn a o hk,hc,hd,by simpa using hs⟩,?_⟩
   have e:=r.length
   simp only[Tu] at e
   omega
theorem Inv.tuple (I:Inv X pins σ H s)(h:SqT X.K H a xs):∃its:List Value,Vals xs its/\IsTup s.heap a its.toArray/\xs.length<=sizeLine:=by
 rcases h with h | ⟨o,its,n,hk,hc,hs,hz,r⟩
 · obtain⟨z,its,r,p⟩:=h.ok I.hok
   exact⟨its,r,p,z⟩
 · refine⟨its.toList,r,⟨o,I.kIn a o hk,hc,n,by simpa using hs⟩,?_⟩
   have e:=r.length
   simp only[Tu] at e
   omega
theorem Inv.list_inj (I:Inv X pins σ H s)(h:SqL X.K H a xs)(h':SqL X.K H a ys):xs=ys:=by
 obtain⟨its,r,⟨o,n,e,_,_,d⟩,_⟩:=I.list h
 obtain⟨its',r',⟨o',n',e',_,_,d'⟩,_⟩:=I.list h'
 rw[e] at e';cases e'
 rw[d] at d'
 injection d' with d1 _
 have:its=its':=by simpa using Rg Array.toList d1
 subst this
 exact r.inj r'
theorem Inv.tuple_inj (I:Inv X pins σ H s)(h:SqT X.K H a xs)(h':SqT X.K H a ys):xs=ys:=by
 obtain⟨its,r,⟨o,e,_,n,d⟩,_⟩:=I.tuple h
 obtain⟨its',r',⟨o',e',_,n',d'⟩,_⟩:=I.tuple h'
 rw[e] at e';cases e'
 rw[d] at d'
 injection d' with d1 _
 have:its=its':=by simpa using Rg Array.toList d1
 subst this
 exact r.inj r'
end
abbrev Cx.wish (X:Cx)(E:Value->Shared->Prop):Cx:={ X with xe:=E }
abbrev Cx.nox (X:Cx):Cx:=X.wish fun _ _=>False
theorem Cx.Ok.wish {X:Cx}(ok:X.Ok)(E:Value->Shared->Prop):(X.wish E).Ok :=
 ⟨ok.mod,ok.kind,ok.glob,ok.blt,ok.above,ok.inj,ok.has,ok.cab,ok.hd,ok.frames,ok.stk,ok.exf,ok.bs,ok.bsz,ok.noex,ok.exfs,ok.funs,ok.frf⟩
theorem Cx.Ok.unwish {X:Cx}{E:Value->Shared->Prop}(ok:(X.wish E).Ok):X.Ok :=
 ⟨ok.mod,ok.kind,ok.glob,ok.blt,ok.above,ok.inj,ok.has,ok.cab,ok.hd,ok.frames,ok.stk,ok.exf,ok.bs,ok.bsz,ok.noex,ok.exfs,ok.funs,ok.frf⟩
section
variable {X:Cx} {pins:List (Addr×Obj)} {σ:St} {H:Hp} {s:Shared} {E:Value->Shared->Prop}
theorem Inv.wish (I:Inv X pins σ H s)(E:Value->Shared->Prop):Inv (X.wish E) pins σ H s:=⟨I.ok.wish E,I.os,I.bare,I.base,I.loc,I.cell,I.free,I.freeC,I.pin,I.hok,I.len⟩
theorem Inv.unwish (I:Inv (X.wish E) pins σ H s):Inv X pins σ H s:=⟨I.ok.unwish,I.os,I.bare,I.base,I.loc,I.cell,I.free,I.freeC,I.pin,I.hok,I.len⟩
theorem SP.unwish {D:Ends}{f:Flow}{s':Shared}(h:SP (X.wish E) pins D f s'):SP X pins D f s':=by
 cases f with
 | next=>obtain⟨σ',H',I,q⟩:=h;exact⟨σ',H',I.unwish,q⟩
 | brk=>obtain⟨σ',H',I,q⟩:=h;exact⟨σ',H',I.unwish,q⟩
 | cont=>obtain⟨σ',H',I,q⟩:=h;exact⟨σ',H',I.unwish,q⟩
 | ret u=>obtain⟨v,σ',H',I,r,q⟩:=h;exact⟨v,σ',H',I.unwish,r,q⟩
theorem PSs.nox {st:List Stmt}{t:TS}(h:PSs X.nox st t):PSs X st t:=fun pins s σ H D I hw =>
 Rp (h pins s σ H D (I.wish _) hw) (fun _ _ q=>q.unwish) fun _ _ z=>False.elim z
end
section
variable {X:Cx} {st:Stmt} {rest:List Stmt} {t u:TS} {e:Expr} {te:TE} {pos:Pos}
def zLo:TS:=fun D σ H=>D.nx σ H
def zKe (t u:TS):TS:=fun D σ H=>t { D with nx:=u D } σ H
theorem zW6:PSs X [] zLo:=fun _ _ σ H _ I h=>Yi ⟨σ,H,I,h⟩
theorem kB (h1:PS X st t)(h2:PSs X rest u):PSs X (st::rest) (zKe t u):=by
 intro pins s σ H D I h
 refine Uk (thn (h1 pins s σ H { D with nx:=u D } I h) fun f s1 q=>?_)
 cases f with
 | next =>
   obtain⟨σ',H',I',q⟩:=q
   exact h2 pins s1 σ' H' D I' q
 | ret v=>exact q
 | brk=>exact q
 | cont=>exact q
theorem zNl (h1:PS X st t):PSs X [st] t:=by
 intro pins s σ H D I h
 refine Uk (thn (h1 pins s σ H D I h) fun f s1 q=>?_)
 cases f with
 | next=>exact Yi q
 | ret v=>exact q
 | brk=>exact q
 | cont=>exact q
theorem Inv.quiet {pins:List (Addr×Obj)}{σ:St}{H:Hp}{s:Shared}(I:Inv X pins σ H s):interactive X.env=false:=by simp[interactive,I.ok.kind]
def zLn (te:TE):TS:=fun D σ H=>te σ H fun _ H1=>D.nx σ H1
theorem zNF (he:PE X e te)(hs:swapsWith e none pos.line X.env=pure false:=by rfl):PS X (.Expr e pos) (zLn te):=by
 intro pins s σ H D I h
 exact wpAny_Expr_any (thn (he pins s σ H _ I h) fun v s1 ⟨x,H1,I1,r1,q1⟩=>⟨σ,H1,I1,q1⟩) I.quiet hs
def zKv (te:TE):TS:=fun D σ H=>te σ H D.rt
theorem zXc (he:PE X e te):PS X (.Return (some e) pos) (zKv te):=by
 intro pins s σ H D I h
 exact wpAny_Return_some (thn (he pins s σ H _ I h) fun v s1 ⟨x,H1,I1,r1,q1⟩=>⟨x,σ,H1,I1,r1,q1⟩)
def zKa (c:TT)(t u:TS):TS:=fun D σ H=>c σ H fun b H1=>if b=true then t D σ H1 else u D σ H1
theorem zMQ {c:Expr}{a b:List Stmt}{tc:TT}(hc:PT X c tc)(ha:PSs X a t)(hb:PSs X b u):PS X (.If c a b pos) (zKa tc t u):=by
 intro pins s σ H D I h
 refine wpAny_If (thn (hc pins s σ H _ I h) fun d s1 ⟨H1,I1,q1⟩=>?_)
 cases d with
 | true=>exact ha pins s1 σ H1 D I1 q1
 | false=>exact hb pins s1 σ H1 D I1 q1
end
abbrev TG:=V->St->Hp->(St->Hp->Prop)->Prop
abbrev TGs:=List V->St->Hp->(St->Hp->Prop)->Prop
def PG (X:Cx)(target:Expr)(t:TG):Prop :=
 ∀(pins:List (Addr×Obj)) (s:Shared) (σ:St) (H:Hp) (v:V) (u:Value) (Q:St->Hp->Prop),Inv X pins σ H s->RelV v u->t v σ H Q ->
   wpAny (model X.prog X.w) X.A (assign target X.env u) (fun _ s'=>∃σ' H',Inv X pins σ' H' s'/\Q σ' H') X.xe s
def PGs (X:Cx)(ts:List Expr)(t:TGs):Prop :=
 ∀(pins:List (Addr×Obj)) (s:Shared) (σ:St) (H:Hp) (vs:List V) (us:List Value) (Q:St->Hp->Prop),Inv X pins σ H s->Vals vs us->t vs σ H Q ->
   wpAny (model X.prog X.w) X.A (assignInOrder ((assignEach ts X.env).map (·.2)) us) (fun _ s'=>∃σ' H',Inv X pins σ' H' s'/\Q σ' H') X.xe s
abbrev zLA:=V->V->V->Hp->(Hp->Prop)->Prop
def zLH (X:Cx)(t:zLA):Prop :=
 ∀(pins:List (Addr×Obj)) (s:Shared) (σ:St) (H:Hp) (o i v:V) (ov iv u:Value) (Q:Hp->Prop),Inv X pins σ H s->RelV o ov->RelV i iv->RelV v u->t o i v H Q ->
   wpAny (model X.prog X.w) X.A (setItem ov iv u) (fun _ s'=>∃H',Inv X pins σ H' s'/\Q H') X.xe s
section
variable {X:Cx} {pos:Pos}
def zVP (i:Nat):TG:=fun v σ H Q=>Q (σ.set i (some v)) H
theorem zO8 {i:Nat}{x:Str}(hN:X.N.Nodup)(hi:X.N[i]?=some x)(hx:Loc X.env.scope x)(hf:X.fn x=true∨X.env.scope.names.lookup x=some .local:=by first | exact .inl rfl | exact .inr rfl | assumption):PG X (.Name x pos) (zVP i):=by
 intro pins s σ H v u Q I r h
 exact wpAny_assign_Name (zYD I hN hi hx r (fun s' I'=>⟨_,H,I',h⟩) hf)
def zJR:TGs:=fun vs σ H Q=>vs=[]/\Q σ H
def zLe (t:TG)(u:TGs):TGs:=fun vs σ H Q=>∃v r,vs=v::r/\t v σ H fun σ' H'=>u r σ' H' Q
theorem zN9:PGs X [] zJR:=by
 intro pins s σ H vs us Q I r h
 obtain⟨e,h⟩:=h
 subst e
 cases r
 exact assignInOrder_nil ⟨σ,H,I,h⟩
theorem zOD {e:Expr}{es:List Expr}{t:TG}{u:TGs}(h1:PG X e t)(h2:PGs X es u)
   (hs:(assignEach (e::es) X.env).map (·.2)=assign e X.env::(assignEach es X.env).map (·.2):=by rfl):PGs X (e::es) (zLe t u):=by
 intro pins s σ H vs us Q I r h
 obtain⟨v,vr,e1,h⟩:=h
 subst e1
 cases r with
 | cons r rr =>
   rw[hs]
   refine assignInOrder_cons (thn (h1 pins s σ H _ _ _ I r h) fun _ s1 ⟨σ1,H1,I1,q1⟩=>?_)
   exact h2 pins s1 σ1 H1 _ _ Q I1 rr q1
def zJW (K:PySem.W.Frag)(n:Nat)(t:TGs):TG:=fun v σ H Q=>∃a xs,v = .ref a/\SqT K H a xs/\xs.length=n/\t xs σ H Q
theorem zMw {es:List Expr}{k:Nat}{t:TGs}{n:Nat}(hc:X.calm=true)(h:PGs X es t)
   (hn:(assignEach es X.env).length=n:=by rfl) (hst:(assignEach es X.env).findIdx? (·.1)=none:=by rfl):PG X (.Tuple es k pos) (zJW X.K n t):=by
 intro pins s σ H v u Q I r hw
 obtain⟨a,xs,e1,hq,hl,hw⟩:=hw
 subst e1
 cases r
 obtain⟨its,rv,ht,hz⟩:=I.tuple hq
 refine assign_Tuple_tuple (I.ok.hd hc) ht (by simp[hn,←hl,rv.length]) hst fun h' hx=>?_
 have I1:Inv X pins σ H { s with heap:=h' }:=I.kept (t':=s.toks) fun b o e=>hx b o (We (Qy e)) e
 exact h pins _ σ H xs _ Q I1 (by simpa using rv) hw
def zKo (to ti:TE)(t:zLA):TG:=fun v σ H Q=>to σ H fun o H1=>ti σ H1 fun i H2=>t o i v H2 fun H3=>Q σ H3
theorem zPU {o i:Expr}{to ti:TE}{t:zLA}(ho:PE X o to)(hi:PE X i ti)(hs:zLH X t)
   (ha:∀v,assign (.Subscript o i pos) X.env v=(do
     let ov ←holding [v] (eval o X.env)
     let iv ←holding [v,ov] (eval i X.env)
     standAt pos
     holding [v,ov,iv] (setItem ov iv v)
     release [v,ov,iv] []):=by intro _;rfl):PG X (.Subscript o i pos) (zKo to ti t):=by
 intro pins s σ H v u Q I r h
 rw[ha]
 refine Qw (Rq (thn (ho pins s σ H _ I h) fun ov s1 ⟨x,H1,I1,r1,q1⟩=>?_))
 refine Qw (Rq (thn (hi pins s1 σ H1 _ I1 q1) fun iv s2 ⟨y,H2,I2,r2,q2⟩=>?_))
 refine Qw (Ud (Qw (Rq (thn (hs pins s2 σ H2 x y v ov iv u _ I2 r1 r2 r q2) fun _ s3 ⟨H3,I3,q3⟩=>?_))))
 exact wpAny_release ⟨σ,H3,I3,q3⟩
def zRi (te:TE)(g:TG):TS:=fun D σ H=>te σ H fun x H1=>g x σ H1 D.nx
theorem zTG {tg e:Expr}{te:TE}{g:TG}(he:PE X e te)(hg:PG X tg g)(hs:swapsWithSole [tg] e pos.line X.env=pure false:=by rfl)(hw:swappedStores [tg] e X.env=pure none:=by rfl)
   (h1:(assignEach [tg] X.env).map (·.2)=[assign tg X.env]:=by rfl):PS X (.Assign [tg] e pos) (zRi te g):=by
 intro pins s σ H D I h
 refine wpAny_Assign_stores (thn (he pins s σ H _ I h) fun v s1 ⟨x,H1,I1,r1,q1⟩=>?_) hs hw
 rw[h1]
 exact thn (hg pins s1 σ H1 x v _ I1 r1 q1) fun _ s2 q=>q
theorem zW4 {i:Nat}{x:Str}{e:Expr}{te:TE}{pos':Pos}(hN:X.N.Nodup)(hi:X.N[i]?=some x)(hx:Loc X.env.scope x)(he:PE X e te)(hs:swapsWith e (some (.Name x pos')) pos.line X.env=pure false:=by rfl)(hf:X.fn x=true∨X.env.scope.names.lookup x=some .local:=by first | exact .inl rfl | exact .inr rfl | assumption) :
   PS X (.Assign [.Name x pos'] e pos) (zRi te (zVP i)):=by
 intro pins s σ H D I h
 refine wpAny_Assign_Name (thn (he pins s σ H _ I h) fun v s1 ⟨y,H1,I1,r1,q1⟩=>?_) hs
 exact zYD I1 hN hi hx r1 (fun s2 I2=>⟨_,H1,I2,q1⟩) hf
def zMv (c:TT)(tb:TS):TS:=fun D σ H=>∃W:Nat->St->Hp->Prop,(∃m,W m σ H)/\∀m σ H,W m σ H ->
 c σ H fun b H1=>if b=true then ∃N:St->Hp->Prop,(∀σ' H',N σ' H'->∃m',m' < m/\W m' σ' H')/\tb { D with nx:=N,ct:=N,bk:=D.nx } σ H1 else D.nx σ H1
theorem zP5 {c:Expr}{body:List Stmt}{tc:TT}{tb:TS}(hp:PassesOwn (model X.prog X.w) X.A X.env X.xe)(hc:PT X c tc)(hb:PSs X body tb):PS X (.While c body [] pos) (zMv tc tb):=by
 intro pins s σ H D I h
 obtain⟨W,⟨m0,w0⟩,turn⟩:=h
 refine wpAny_While (codeAny_whileLoop (fun n s'=>∃σ' H',Inv X pins σ' H' s'/\W n σ' H') ?_ m0 ⟨σ,H,I,w0⟩)
 rintro n s1 ⟨σ1,H1,I1,w1⟩
 refine Ts hp (thn (hc pins s1 σ1 H1 _ I1 (turn n σ1 H1 w1)) fun b s2 ⟨H2,I2,q2⟩=>?_)
 cases b with
 | true =>
   obtain⟨N,hN,q2⟩:=q2
   rw[Qx rfl]
   refine Ts hp (thn (hb pins s2 σ1 H2 _ I2 q2) fun f s3 q3=>?_)
   cases f with
   | next =>
     obtain⟨σ3,H3,I3,n3⟩:=q3
     obtain⟨m',hm,w3⟩:=hN σ3 H3 n3
     exact⟨m',hm,σ3,H3,I3,w3⟩
   | cont =>
     obtain⟨σ3,H3,I3,n3⟩:=q3
     obtain⟨m',hm,w3⟩:=hN σ3 H3 n3
     exact⟨m',hm,σ3,H3,I3,w3⟩
   | brk=>exact q3
   | ret v=>exact q3
 | false =>
   rw[Wy Qc]
   exact Yi ⟨σ1,H2,I2,q2⟩
end
structure It where
 go:Nat->Hp->Prop
 yld:Nat->Hp->V->Hp->Prop
 stop:Nat->Hp->Prop
def mN (X:Cx)(pins:List (Addr×Obj))(H:Hp)(b:Addr):Prop :=
 H b=none/\b≠X.env.locals/\b∉X.fs/\(b∈X.ex∨X.s₀.heap.objs.size<=b)/\(∀x c,X.env.cells.lookup x=some c->c≠b)/\∀p∈X.pn++pins,p.1≠b
theorem Inv.fpOk {X:Cx}{pins:List (Addr×Obj)}{σ:St}{H H':Hp}{s:Shared}{b:Addr}(I:Inv X pins σ H s)(hb:s.heap.objs.size<=b)(hn:H' b=none):mN X pins H' b:=by
 refine⟨hn,Nat.ne_of_gt (Qm I.lt hb),I.nofs hb,.inr (Wi I.sz hb),fun x c e z=>?_,fun p hp z=>?_⟩
 · obtain⟨v,q⟩:=I.cell x c e
   exact absurd (Qm q.lt (by rw[z];exact hb)) (Ww _)
 · exact absurd (Qm (Qy (I.pin p hp).1) (by rw[z];exact hb)) (Ww _)
structure Turn (P:Program)(w:World)(K:PySem.W.Frag)(tg:Expr)(J:It)(fp:List Addr)(it:Addr)(tn:Nat->Heap->Prop):Prop where
 mem:it∈fp
 obj:∀i h,tn i h->∀b∈fp,∃o,h.get? b=some o/\∀v,o.data ≠ .cell v
 keep:∀i h h',tn i h->(∀b∈fp,∀o,h.get? b=some o->h'.get? b=some o)->tn i h'
 item:∀(X:Cx),X.prog=P->X.w=w->X.K=K->X.calm=true->∀(i:Nat) (pins:List (Addr×Obj)) (s:Shared) (σ:St) (H:Hp) (E:Value->Shared->Prop),Inv X pins σ H s->(∀b∈fp,mN X pins H b)->tn i s.heap->J.go i H ->
   wpAny (model P w) X.A (pyNext (.ref it)) (fun r s1=>∃u,r=some u /\
     wpAny (model P w) X.A (letOwnedTupleGo tg (.ref it) u) (fun _ s2=>∃x H',Inv X pins σ H' s2/\RelV x u/\J.yld i H x H'/\tn (i+1) s2.heap/\∀b∈fp,H' b=none) E s1) E s
 done:∀(X:Cx),X.prog=P->X.w=w->X.K=K->X.calm=true->∀(i:Nat) (pins:List (Addr×Obj)) (s:Shared) (σ:St) (H:Hp) (E:Value->Shared->Prop),Inv X pins σ H s->(∀b∈fp,mN X pins H b)->tn i s.heap->J.stop i H ->
   wpAny (model P w) X.A (pyNext (.ref it)) (fun r s1=>r=none/\Inv X pins σ H s1) E s
 self:∀(A:Around) (i:Nat) (s:Shared) (Q:Value->Shared->Prop) (E:Value->Shared->Prop),tn i s.heap->Q (.ref it) s->wpAny (model P w) A (pyIter (.ref it)) Q E s
abbrev TI:=St->Hp->(It->Hp->Prop)->Prop
def PIE (X:Cx)(pins:List (Addr×Obj))(σ:St)(tg:Expr)(R:It->Hp->Prop)(itv:Value)(s2:Shared):Prop :=
 ∃(it:Addr) (fp:List Addr) (tn:Nat->Heap->Prop) (J:It) (H':Hp),itv = .ref it/\Inv X pins σ H' s2/\Turn X.prog X.w X.K tg J fp it tn/\tn 0 s2.heap/\(∀b∈fp,mN X pins H' b)/\R J H'
def PI (X:Cx)(tg iter:Expr)(wi:TI):Prop :=
 ∀(pins:List (Addr×Obj)) (s:Shared) (σ:St) (H:Hp) (R:It->Hp->Prop),Inv X pins σ H s->wi σ H R ->
   wpAny (model X.prog X.w) X.A (eval iter X.env) (fun v s1=>wpAny (model X.prog X.w) X.A (pyIter v) (PIE X pins σ tg R) X.xe s1) X.xe s
theorem zVB {M:Model}{A:Around}{E:Value->Shared->Prop}{s:Shared}{tg:Expr}{it:Addr}{u:Value}{o:Obj}{n:String}{vs:Array Value}{Q:Unit->Shared->Prop}(ho:s.heap.get? it=some o)(hc:o.cls = .type n)(hd:o.data = .fields vs)
   (hn:["enumerate","zip","dict_itemiterator","dict_reverseitemiterator","odict_iterator","itertools.zip_longest","itertools.pairwise"].contains n=false) (hQ:Q () s):wpAny M A (letOwnedTupleGo tg (.ref it) u) Q E s:=by
 unfold letOwnedTupleGo
 cases tg<;>first
   | exact Qo hQ
   | (cases u<;>first
       | exact Qo hQ
       | (refine Qw (wpAny_load ho ?_)
          rw[hc,hd]
          show wpAny M A (if (["enumerate","zip","dict_itemiterator","dict_reverseitemiterator","odict_iterator","itertools.zip_longest","itertools.pairwise"].contains n&&vs[0]?==some (rawInt _))=true then _ else _) Q E s
          rw[Wy (by intro h;rw[hn,Bool.false_and] at h;cases h)]
          exact Qo hQ))
def Itl (K:PySem.W.Frag)(a:Addr):It :=
 ⟨fun i H=>∃xs x,SqL K H a xs/\xs[i]?=some x,fun i H x H'=>H'=H/\∀xs,SqL K H a xs->xs[i]?=some x,fun i H=>∃xs,SqL K H a xs/\xs.length<=i⟩
def Itt (K:PySem.W.Frag)(a:Addr):It :=
 ⟨fun i H=>∃xs x,SqT K H a xs/\xs[i]?=some x,fun i H x H'=>H'=H/\∀xs,SqT K H a xs->xs[i]?=some x,fun i H=>∃xs,SqT K H a xs/\xs.length<=i⟩
def Itr (lo:Int)(n:Nat):It:=⟨fun i _=>i < n,fun i H x H'=>H'=H/\x = .int (lo+i),fun i _=>n<=i⟩
theorem zR0 {P:Program}{w:World}{K:PySem.W.Frag}{tg:Expr}(a it:Addr):Turn P w K tg (Itl K a) [it] it (fun i h=>h.IsListIter it a i) where
 mem:=by simp
 obj:=fun i h st b hb=>by
   have e:b=it:=by simpa using hb
   subst e
   obtain⟨o,e,c,d⟩:=st
   exact⟨o,e,fun v z=>by rw[d] at z;cases z⟩
 keep:=fun i h h' st k=>st.at fun o e=>k it (by simp) o e
 item:=by
   intro X hP hw hK hc i pins s σ H E I hf st hg
   subst hP hw hK
   obtain⟨xs,x,hq,hx⟩:=hg
   obtain⟨its,rv,p,hz⟩:=I.list hq
   obtain⟨u,hu,ru⟩:=rv.get hx
   obtain⟨f0,f1,f2,f3,f4,f5⟩:=hf it (by simp)
   refine wpAny_pyNext_list_item st p.isList (x:=u) (by simpa using hu) fun h' st' sb=>?_
   have I1:Inv X pins σ H { s with heap:=h' }:=I.turned (t':=s.toks) (fun b o hb e=>(sb.2 b hb).trans e) f0 f1 f3 f4 f5
   obtain⟨o,e,c,d⟩:=id st'
   exact⟨u,rfl,zVB (s:={ s with heap:=h' }) e c d (by decide) ⟨x,H,I1,ru,⟨rfl,fun ys hy=>by rw[I.list_inj hy hq];exact hx⟩,st',fun b hb=>(hf b hb).1⟩⟩
 done:=by
   intro X hP hw hK hc i pins s σ H E I hf st hg
   subst hP hw hK
   obtain⟨xs,hq,hx⟩:=hg
   obtain⟨its,rv,p,hz⟩:=I.list hq
   obtain⟨f0,f1,f2,f3,f4,f5⟩:=hf it (by simp)
   have hl:=rv.length
   exact wpAny_pyNext_list_end (I.ok.hd hc) st p.isList (by simp;omega) fun h' eb=>⟨rfl,I.turned (t':=s.toks) (fun b o hb e=>eb b o hb e) f0 f1 f3 f4 f5⟩
 self:=fun _ _ _ _ _ st h=>wpAny_pyIter_listiter st h
theorem zUq {P:Program}{w:World}{K:PySem.W.Frag}{tg:Expr}(a it:Addr):Turn P w K tg (Itt K a) [it] it (fun i h=>h.IsTupleIter it a i) where
 mem:=by simp
 obj:=fun i h st b hb=>by
   have e:b=it:=by simpa using hb
   subst e
   obtain⟨o,e,c,d⟩:=st
   exact⟨o,e,fun v z=>by rw[d] at z;cases z⟩
 keep:=fun i h h' st k=>st.at fun o e=>k it (by simp) o e
 item:=by
   intro X hP hw hK hc i pins s σ H E I hf st hg
   subst hP hw hK
   obtain⟨xs,x,hq,hx⟩:=hg
   obtain⟨its,rv,p,hz⟩:=I.tuple hq
   obtain⟨u,hu,ru⟩:=rv.get hx
   obtain⟨f0,f1,f2,f3,f4,f5⟩:=hf it (by simp)
   refine wpAny_pyNext_tuple_item st (show s.heap.IsTuple a its.toArray from p) (x:=u) (by simpa using hu) fun h' st' sb=>?_
   have I1:Inv X pins σ H { s with heap:=h' }:=I.turned (t':=s.toks) (fun b o hb e=>(sb.2 b hb).trans e) f0 f1 f3 f4 f5
   obtain⟨o,e,c,d⟩:=id st'
   exact⟨u,rfl,zVB (s:={ s with heap:=h' }) e c d (by decide) ⟨x,H,I1,ru,⟨rfl,fun ys hy=>by rw[I.tuple_inj hy hq];exact hx⟩,st',fun b hb=>(hf b hb).1⟩⟩
 done:=by
   intro X hP hw hK hc i pins s σ H E I hf st hg
   subst hP hw hK
   obtain⟨xs,hq,hx⟩:=hg
   obtain⟨its,rv,p,hz⟩:=I.tuple hq
   obtain⟨f0,f1,f2,f3,f4,f5⟩:=hf it (by simp)
   have hl:=rv.length
   exact wpAny_pyNext_tuple_end (I.ok.hd hc) st (show s.heap.IsTuple a its.toArray from p) (by simp;omega) fun h' eb=>⟨rfl,I.turned (t':=s.toks) (fun b o hb e=>eb b o hb e) f0 f1 f3 f4 f5⟩
 self:=fun _ _ _ _ _ st h=>wpAny_pyIter_tupleiter st h
theorem zTQ {P:Program}{w:World}{K:PySem.W.Frag}{tg:Expr}(it:Addr)(lo:Int)(n:Nat):Turn P w K tg (Itr lo n) [it] it (fun i h=>IsRangeIter h it (lo+(i:Nat)*1) ((n:Int) - (i:Nat)) 1) where
 mem:=by simp
 obj:=fun i h st b hb=>by
   have e:b=it:=by simpa using hb
   subst e
   exact⟨_,st,fun v z=>by
     have z':Data.fields _=Data.cell v:=z
     cases z'⟩
 keep:=fun i h h' st k=>k it (by simp) _ st
 item:=by
   intro X hP hw hK hc i pins s σ H E I hf st hg
   subst hP hw hK
   obtain⟨f0,f1,f2,f3,f4,f5⟩:=hf it (by simp)
   have W:=Walks.range (prog:=X.prog) (w:=X.w) (I.ok.hd hc) it lo 1 n
   refine W.item i s _ _ hg st fun v h' tk hv st' kk=>?_
   obtain⟨t,rfl⟩:=hv
   have I1:Inv X pins σ H { s with heap:=h',toks:=tk }:=I.turned (fun b o hb e=>kk b o (by simpa using hb) e) f0 f1 f3 f4 f5
   refine⟨_,rfl,zVB (s:={ s with heap:=h',toks:=tk }) (n:="range_iterator") st' rfl rfl (by decide) ⟨.int (lo+i),H,I1,⟨t,?_⟩,⟨rfl,rfl⟩,st',fun b hb=>(hf b hb).1⟩⟩
   rw[Int.mul_one]
 done:=by
   intro X hP hw hK hc i pins s σ H E I hf st hg
   subst hP hw hK
   obtain⟨f0,f1,f2,f3,f4,f5⟩:=hf it (by simp)
   exact wpAny_pyNext_range_end (I.ok.hd hc) st (by have:n<=i:=hg;omega) fun h' eb=>⟨rfl,I.turned (t':=s.toks) (fun b o hb e=>eb b o hb e) f0 f1 f3 f4 f5⟩
 self:=fun _ _ _ _ _ st h=>wpAny_pyIter_rangeiter st h
section
variable {X:Cx} {tg:Expr}
def zKN (K:PySem.W.Frag)(tl:TE):TI:=fun σ H R=>tl σ H fun x H1=>∃a,x = .ref a/\(∃xs,SqL K H1 a xs)/\R (Itl K a) H1
def zKd (K:PySem.W.Frag)(tl:TE):TI:=fun σ H R=>tl σ H fun x H1=>∃a,x = .ref a/\(∃xs,SqT K H1 a xs)/\R (Itt K a) H1
theorem zTc {l:Expr}{tl:TE}(hl:PE X l tl):PI X tg l (zKN X.K tl):=by
 intro pins s σ H R I h
 refine thn (hl pins s σ H _ I h) fun v s1 ⟨x,H1,I1,r1,q1⟩=>?_
 obtain⟨a,e,⟨xs,hq⟩,q⟩:=q1
 subst e
 cases r1
 obtain⟨its,rv,p,hz⟩:=I1.list hq
 refine Ua p.isList ?_
 refine⟨s1.heap.objs.size,[s1.heap.objs.size],_,_,H1,rfl,I1.kept (t':=s1.toks) fun b o e=>Qe _ e,zR0 a _,⟨_,Qa _ rfl,rfl,rfl⟩,fun b hb=>?_,q⟩
 have e:b=s1.heap.objs.size:=by simpa using hb
 subst e
 exact I1.fpOk (Qk _) (I1.hok.fresh (Qk _))
theorem zM9 {l:Expr}{tl:TE}(hl:PE X l tl):PI X tg l (zKd X.K tl):=by
 intro pins s σ H R I h
 refine thn (hl pins s σ H _ I h) fun v s1 ⟨x,H1,I1,r1,q1⟩=>?_
 obtain⟨a,e,⟨xs,hq⟩,q⟩:=q1
 subst e
 cases r1
 obtain⟨its,rv,p,hz⟩:=I1.tuple hq
 refine Oq (show s1.heap.IsTuple a its.toArray from p) ?_
 refine⟨s1.heap.objs.size,[s1.heap.objs.size],_,_,H1,rfl,I1.kept (t':=s1.toks) fun b o e=>Qe _ e,zUq a _,⟨_,Qa _ rfl,rfl,rfl⟩,fun b hb=>?_,q⟩
 have e:b=s1.heap.objs.size:=by simpa using hb
 subst e
 exact I1.fpOk (Qk _) (I1.hok.fresh (Qk _))
theorem zVm {pins:List (Addr×Obj)}{σ:St}{H:Hp}{s:Shared}{R:It->Hp->Prop}{E:Value->Shared->Prop}{lo hi:Int}{t u v:Tok}{tk:Nat}(I:Inv X pins σ H s)(h1 : -(2^62)<=lo)(h2:lo < 2^62)(h3 : -(2^62)<=hi)(h4:hi < 2^62)
   (q:R (Itr lo (hi - lo).toNat) H):wpAny (model X.prog X.w) X.A (pyIter (.ref s.heap.objs.size)) (PIE X pins σ tg R) E { s with heap:=s.heap.push { cls:=.type "range",data:=.fields #[.int lo t,.int hi u,.int 1 v] },toks:=tk }:=by
 refine wpAny_pyIter_range (IsRange.new ..) (small_one h1 h2 h3 h4) ?_
 have I1:Inv X pins σ H { s with heap:=s.heap.push { cls:=.type "range",data:=.fields #[.int lo t,.int hi u,.int 1 v] },toks:=tk }:=I.kept fun b o e=>Qe _ e
 refine⟨(s.heap.push { cls:=.type "range",data:=.fields #[.int lo t,.int hi u,.int 1 v] }).objs.size,[(s.heap.push { cls:=.type "range",data:=.fields #[.int lo t,.int hi u,.int 1 v] }).objs.size],_,_,H,rfl,
   I1.kept (t':=tk) fun b o e=>Qe _ e,zTQ _ lo (hi - lo).toNat,?_,fun b hb=>?_,q⟩
 · have e1:lo+((0:Nat):Int)*1=lo:=by simp
   have e2:(((hi - lo).toNat:Nat):Int) - ((0:Nat):Int)=Builtin.Range.rangeSize lo hi 1:=by rw[rangeSize_one];split<;>omega
   show IsRangeIter _ _ (lo+((0:Nat):Int)*1) ((((hi - lo).toNat:Nat):Int) - ((0:Nat):Int)) 1
   rw[e1,e2]
   exact Qa _ rfl
 · have e:b=(s.heap.push { cls:=.type "range",data:=.fields #[.int lo t,.int hi u,.int 1 v] }).objs.size:=by simpa using hb
   subst e
   exact I1.fpOk (Qk _) (I1.hok.fresh (Qk _))
def zLj (ta:TA):TI:=fun σ H R=>ta σ H fun vs H1=>∃j:Int,vs=[.int j] /\ -(2^62)<=j/\j < 2^62/\R (Itr 0 j.toNat) H1
def zLm (ta:TA):TI:=fun σ H R=>ta σ H fun vs H1=>∃i j:Int,vs=[.int i,.int j]/\(-(2^62)<=i/\i < 2^62 /\ -(2^62)<=j/\j < 2^62)/\R (Itr i (j - i).toNat) H1
theorem zRQ {a:Expr}{ta:TA}{p pos:Pos}(hg:Gl X "range")(hm:X.mg "range"=none)(ha:PA X [a] ta)(hs:starEach [a] X.env=[(false,eval a X.env)]:=by rfl):PI X tg (.Call (.Name "range" p) [a] [] pos) (zLj ta):=by
 intro pins s σ H R I h
 refine Call_ (nS I hg hm boot_range (Ew (thn (ha pos pins s σ H _ I h) fun us s1 ⟨vs,H1,I1,r1,q1⟩=>?_) hs rfl))
 obtain⟨j,e,q1,q2,q⟩:=q1
 subst e
 cases r1 with
 | cons r rr =>
   cases rr
   obtain⟨t,rfl⟩:=r
   exact call_range_1 (zVm I1 (by omega) (by omega) q1 q2 (by simpa using q))
theorem zRj {a b:Expr}{ta:TA}{p pos:Pos}(hg:Gl X "range")(hm:X.mg "range"=none)(ha:PA X [a,b] ta)(hs:starEach [a,b] X.env=[(false,eval a X.env),(false,eval b X.env)]:=by rfl)(hs2:starEach [b] X.env=[(false,eval b X.env)]:=by rfl) :
   PI X tg (.Call (.Name "range" p) [a,b] [] pos) (zLm ta):=by
 intro pins s σ H R I h
 refine Call_ (nS I hg hm boot_range (Ew (thn (ha pos pins s σ H _ I h) fun us s1 ⟨vs,H1,I1,r1,q1⟩=>?_) (by rw[hs,hs2]) (by rw[hs2];rfl)))
 obtain⟨i,j,e,⟨q1,q2,q3,q4⟩,q⟩:=q1
 subst e
 cases r1 with
 | cons r rr =>
   cases rr with
   | cons r' rr =>
     cases rr
     obtain⟨t,rfl⟩:=r
     obtain⟨t',rfl⟩:=r'
     exact call_range_2 (zVm I1 q1 q2 q3 q4 q)
def zKb (wi:TI)(g:TG)(tb:TS):TS:=fun D σ H=>wi σ H fun J H1=>∃W:Nat->Nat->St->Hp->Prop,(∃m,W 0 m σ H1)/\∀i m σ H,W i m σ H ->
 (J.stop i H/\D.nx σ H)∨(J.go i H/\∃N:St->Hp->Prop,(∀σ' H',N σ' H'->∃m',m' < m/\W (i+1) m' σ' H')/\∀x H',J.yld i H x H'->g x σ H' fun σ2 H2=>tb { D with nx:=N,ct:=N,bk:=D.nx } σ2 H2)
def zZ3 (fp:List Addr)(h:Heap):List (Addr×Obj):=fp.filterMap fun b=>(h.get? b).map fun o=>(b,o)
theorem lD {fp:List Addr}{h:Heap}{b:Addr}{o:Obj}(hb:b∈fp)(e:h.get? b=some o):(b,o)∈zZ3 fp h:=Ur.mpr ⟨b,hb,by rw[e];rfl⟩
theorem zSb {fp:List Addr}{h:Heap}{p:Addr×Obj}(hp:p∈zZ3 fp h):p.1∈fp/\h.get? p.1=some p.2:=by
 obtain⟨b,hb,e⟩:=Ur.mp hp
 cases q:h.get? b with
 | none=>rw[q] at e;cases e
 | some o =>
   rw[q] at e
   have e':(b,o)=p:=Wp e
   subst e'
   exact⟨hb,q⟩
theorem Inv.pinned {pins:List (Addr×Obj)}{σ:St}{H:Hp}{s:Shared}{fp:List Addr}(I:Inv X pins σ H s)(hf:∀b∈fp,mN X pins H b)(ho:∀b∈fp,∃o,s.heap.get? b=some o/\∀v,o.data ≠ .cell v):Inv X (pins++zZ3 fp s.heap) σ H s :=
 I.pins_of fun p hp=>(Eh.mp hp).elim (fun z=>I.pin p (Wc _ z)) fun z=>by
   obtain⟨hb,e⟩:=zSb z
   obtain⟨f0,f1,f2,_⟩:=hf p.1 hb
   obtain⟨o,e',d⟩:=ho p.1 hb
   rw[e] at e';cases e'
   exact⟨e,f0,f1,f2,d⟩
theorem Inv.unpinned {pins pl:List (Addr×Obj)}{σ:St}{H:Hp}{s:Shared}(I:Inv X (pins++pl) σ H s):Inv X pins σ H s:=I.pins_of fun p hp=>I.pin p (Wc _ (Ij _ hp))
theorem zLv {iter:Expr}{body:List Stmt}{wi:TI}{g:TG}{tb:TS}{pos:Pos}(hp:PassesOwn (model X.prog X.w) X.A X.env X.xe)(hc:X.calm=true)(hi:PI X tg iter wi)(hg:PG X tg g)(hb:PSs X body tb)
   (hs:∀x,foldedSetIterable iter X.env x=pure x:=by intro _;rfl):PS X (.For tg iter body [] pos) (zKb wi g tb):=by
 intro pins s σ H D I h
 refine wpAny_For (thn (hi pins s σ H _ I h) fun v s1 h1=>thn h1 fun itv s2 h2=>?_) hs
 obtain⟨it,fp,tn,J,H2,e,I2,T,st2,f2,W,⟨m0,w0⟩,turn⟩:=h2
 subst e
 -- what stays true of the iterator's objects through the loop
 have stat:∀ {H':Hp},(∀b∈fp,H' b=none)->∀b∈fp,mN X pins H' b:=fun hn b hb=>⟨hn b hb,(f2 b hb).2⟩
 refine codeAny_forLoop_any (fun n s'=>∃i σ' H',Inv X pins σ' H' s'/\tn i s'.heap/\(∀b∈fp,H' b=none)/\W i n σ' H') ?_ m0 ⟨0,σ,H2,I2,st2,fun b hb=>(f2 b hb).1,w0⟩
 rintro n s3 ⟨i,σ3,H3,I3,st3,fr3,w3⟩
 rcases turn i n σ3 H3 w3 with⟨stop,qn⟩ | ⟨go,N,hN,step⟩
 · refine Ts hp (thn (T.done X rfl rfl rfl hc i pins s3 σ3 H3 X.xe I3 (stat fr3) st3 stop) fun r s4 ⟨hr,I4⟩=>?_)
   subst hr
   exact Yi ⟨σ3,H3,I4,qn⟩
 · refine Ts hp (thn (T.item X rfl rfl rfl hc i pins s3 σ3 H3 X.xe I3 (stat fr3) st3 go) fun r s4 ⟨u,hr,h4⟩=>?_)
   subst hr
   refine Ts hp (thn h4 fun _ s5 ⟨x,H5,I5,r5,y5,st5,fr5⟩=>?_)
   have I5':=I5.pinned (stat fr5) (T.obj _ _ st5)
   refine Ts hp (thn (hg _ s5 σ3 H5 x u _ I5' r5 (step x H5 y5)) fun _ s6 ⟨σ6,H6,I6,q6⟩=>?_)
   refine Ts hp (thn (hb _ s6 σ6 H6 _ I6 q6) fun f s7 q7=>?_)
   have again:∀ {σ7:St} {H7:Hp},Inv X (pins++zZ3 fp s5.heap) σ7 H7 s7->N σ7 H7->∃m,m < n/\∃i σ' H',Inv X pins σ' H' s7/\tn i s7.heap/\(∀b∈fp,H' b=none)/\W i m σ' H':=fun {σ7 H7} I7 n7=>by
     obtain⟨m',hm,w7⟩:=hN σ7 H7 n7
     refine⟨m',hm,i+1,σ7,H7,I7.unpinned,T.keep _ _ _ st5 fun b hb o e=>(I7.pin (b,o) (Wc _ (Wc _ (lD hb e)))).1,fun b hb=>?_,w7⟩
     obtain⟨o,e,d⟩:=T.obj _ _ st5 b hb
     exact(I7.pin (b,o) (Wc _ (Wc _ (lD hb e)))).2.1
   cases f with
   | next=>obtain⟨σ7,H7,I7,n7⟩:=q7;exact again I7 n7
   | cont=>obtain⟨σ7,H7,I7,n7⟩:=q7;exact again I7 n7
   | brk=>obtain⟨σ7,H7,I7,q7⟩:=q7;exact⟨σ7,H7,I7.unpinned,q7⟩
   | ret v=>obtain⟨x7,σ7,H7,I7,r7,q7⟩:=q7;exact⟨x7,σ7,H7,I7.unpinned,r7,q7⟩
end
abbrev R2:=V->V->Hp->VK->Prop
def OpR (X:Cx)(f:Value->Value->Sem Value)(r:R2):Prop :=
 ∀(pins:List (Addr×Obj)) (s:Shared) (σ:St) (H:Hp) (x y:V) (v u:Value) (Q:VK),Inv X pins σ H s->RelV x v->RelV y u->r x y H Q ->
   wpAny (model X.prog X.w) X.A (f v u) (EP X pins σ Q) X.xe s
def UnR (X:Cx)(f:Value->Sem Value)(r:V->Hp->VK->Prop):Prop :=
 ∀(pins:List (Addr×Obj)) (s:Shared) (σ:St) (H:Hp) (x:V) (v:Value) (Q:VK),Inv X pins σ H s->RelV x v->r x H Q ->
   wpAny (model X.prog X.w) X.A (f v) (EP X pins σ Q) X.xe s
def CallR (X:Cx)(f:Value)(r:List V->Hp->VK->Prop):Prop :=
 ∀(pins:List (Addr×Obj)) (s:Shared) (σ:St) (H:Hp) (xs:List V) (us:List Value) (Q:VK),Inv X pins σ H s->Vals xs us->r xs H Q ->
   wpAny (model X.prog X.w) X.A (call f us) (EP X pins σ Q) X.xe s
def tOp (r:R2)(ta tb:TE):TE:=fun σ H Q=>ta σ H fun x H1=>tb σ H1 fun y H2=>r x y H2 Q
def tUn (r:V->Hp->VK->Prop)(ta:TE):TE:=fun σ H Q=>ta σ H fun x H1=>r x H1 Q
def rI (C:Int->Int->Prop)(g:Int->Int->V):R2:=fun x y H Q=>∃i j,x = .int i/\y = .int j/\C i j/\Q (g i j) H
def rI0 (g:Int->Int->V):R2:=fun x y H Q=>∃i j,x = .int i/\y = .int j/\Q (g i j) H
def rU (g:Int->V):V->Hp->VK->Prop:=fun x H Q=>∃i,x = .int i/\Q (g i) H
section
variable {X:Cx} {a b c:Expr} {ta tb tc:TE} {pos:Pos}
theorem zLG (ha:PE X a ta)(hb:PE X b tb){pins:List (Addr×Obj)}{s:Shared}{σ:St}{H:Hp}{R:V->V->Hp->Prop}(I:Inv X pins σ H s)
   (h:ta σ H fun x H1=>tb σ H1 fun y H2=>R x y H2) {Q:Value->Shared->Prop} {f:Value->Value->Sem Value}
   (hf:∀v u s2 x y H2,Inv X pins σ H2 s2->RelV x v->RelV y u->R x y H2->wpAny (model X.prog X.w) X.A (f v u) Q X.xe s2) :
   wpAny (model X.prog X.w) X.A (eval a X.env) (fun v s₁=>wpAny (model X.prog X.w) X.A (eval b X.env) (fun u s₂=>wpAny (model X.prog X.w) X.A (f v u) Q X.xe s₂) X.xe s₁) X.xe s:=by
 refine thn (ha pins s σ H _ I h) fun v s1 ⟨x,H1,I1,r1,q1⟩=>?_
 refine thn (hb pins s1 σ H1 _ I1 q1) fun u s2 ⟨y,H2,I2,r2,q2⟩=>?_
 exact hf v u s2 x y H2 I2 r1 r2 q2
theorem zYK {op:Operator}{r:R2}(ho:OpR X (binaryOp op) r)(ha:PE X a ta)(hb:PE X b tb):PE X (.BinOp a op b pos) (tOp r ta tb):=by
 intro pins s σ H Q I h
 exact wpAny_BinOp (zLG ha hb I h fun v u s2 x y H2 I2 rx ry q=>ho pins s2 σ H2 x y v u Q I2 rx ry q)
theorem zK0 {op:UnaryOp}{r:V->Hp->VK->Prop}(ho:UnR X (unaryOp op) r)(ha:PE X a ta):PE X (.UnaryOp op a pos) (tUn r ta):=by
 intro pins s σ H Q I h
 exact UnaryOp_ (thn (ha pins s σ H _ I h) fun v s1 ⟨x,H1,I1,r1,q1⟩=>ho pins s1 σ H1 x v Q I1 r1 q1)
theorem opI {f:Value->Value->Sem Value}{C:Int->Int->Prop}{g:Int->Int->Int}
   (rule:∀(i j:Int) (t u:Tok) (s:Shared) (Q:Value->Shared->Prop) (E:Value->Shared->Prop),C i j->Q (.int (g i j) s.toks) { s with toks:=s.toks+1 }->wpAny (model X.prog X.w) X.A (f (.int i t) (.int j u)) Q E s) :
   OpR X f (rI C fun i j=>.int (g i j)):=by
 intro pins s σ H x y v u Q I rx ry h
 obtain⟨i,j,rfl,rfl,hc,q⟩:=h
 obtain⟨t,rfl⟩:=rx
 obtain⟨t',rfl⟩:=ry
 exact rule i j t t' s _ _ hc ⟨.int (g i j),H,I.tok _,⟨_,rfl⟩,q⟩
theorem zL5 {f:Value->Value->Sem Value}{g:Int->Int->Int}
   (rule:∀(i j:Int) (t u:Tok) (s:Shared) (Q:Value->Shared->Prop) (E:Value->Shared->Prop),Q (.int (g i j) s.toks) { s with toks:=s.toks+1 }->wpAny (model X.prog X.w) X.A (f (.int i t) (.int j u)) Q E s) :
   OpR X f (rI0 fun i j=>.int (g i j)):=by
 intro pins s σ H x y v u Q I rx ry h
 obtain⟨i,j,rfl,rfl,q⟩:=h
 obtain⟨t,rfl⟩:=rx
 obtain⟨t',rfl⟩:=ry
 exact rule i j t t' s _ _ ⟨.int (g i j),H,I.tok _,⟨_,rfl⟩,q⟩
theorem zOl {f:Value->Value->Sem Value}{g:Int->Int->Bool}
   (rule:∀(i j:Int) (t u:Tok) (s:Shared) (Q:Value->Shared->Prop) (E:Value->Shared->Prop),Q (.bool (g i j)) s->wpAny (model X.prog X.w) X.A (f (.int i t) (.int j u)) Q E s) :
   OpR X f (rI0 fun i j=>.bl (g i j)):=by
 intro pins s σ H x y v u Q I rx ry h
 obtain⟨i,j,rfl,rfl,q⟩:=h
 obtain⟨t,rfl⟩:=rx
 obtain⟨t',rfl⟩:=ry
 exact rule i j t t' s _ _ ⟨.bl (g i j),H,I,rfl,q⟩
def zKj (i j:Int):Prop:=0 < j/\j < 1073741824
def zKT (i j:Int):Prop:=0<=j/\j<=1000000/\i.natAbs < 2^64
def CMul (i j:Int):Prop:=(-(2^64) < i/\i < 2^64)∨(-(2^64) < j/\j < 2^64)
theorem CMul.ok {i j:Int}(h:CMul i j):IntMulOk i j:=by
 rcases h with⟨h1,h2⟩ | ⟨h1,h2⟩
 · exact .of_left (intBits_le_64 h1 h2)
 · exact .of_right (intBits_le_64 h1 h2)
theorem zUt (k:Nat):(0:Int)<=2^k:=by
 rw[two_pow_cast]
 exact Int.natCast_nonneg _
theorem zPG:OpR X (binaryOp .Add) (rI0 fun i j=>.int (i+j)):=zL5 fun _ _ _ _ _ _ _ q=>add_int q
theorem zM5:OpR X (binaryOp .Sub) (rI0 fun i j=>.int (i - j)):=zL5 fun _ _ _ _ _ _ _ q=>sub_int q
theorem zMb:OpR X (binaryOp .Mult) (rI CMul fun i j=>.int (i*j)):=opI fun _ _ _ _ _ _ _ hc q=>mul_int q hc.ok
theorem zNv:OpR X (binaryOp .FloorDiv) (rI zKj fun i j=>.int (i / j)):=opI fun i j _ _ _ _ _ hc q=>by
 have h1:(0:Int) < j:=hc.1
 have h2:j < 1073741824:=hc.2
 exact floordiv_int (by omega) (by rw[Ue i (by omega)];exact q) (.inl (PyProof.noPylong_small (by omega)))
theorem zLP:OpR X (binaryOp .Mod) (rI (fun _ j=>0 < j) fun i j=>.int (i % j)):=opI fun i j _ _ _ _ _ hc q=>by
 have h1:(0:Int) < j:=hc
 exact mod_int' (by omega) (by rw[Int.fmod_eq_emod_of_nonneg i (by omega)];exact q)
theorem zMp:OpR X (binaryOp .Pow) (rI zKT fun i j=>.int (i^j.toNat)):=opI fun _ _ _ _ _ _ _ hc q=>pow_int_small hc.1 hc.2.1 hc.2.2 q
theorem zMi:OpR X (binaryOp .RShift) (rI (fun _ j=>0<=j) fun i j=>.int (i / 2^j.toNat)):=opI fun i j _ _ _ _ _ hc q =>
 rshift_int hc (by rw[Ue i (zUt _)];exact q)
theorem zLt:OpR X (binaryOp .BitXor) (rI0 fun i j=>.int (Builtin.bitXor i j)):=zL5 fun _ _ _ _ _ _ _ q=>xor_int q
theorem unI {f:Value->Sem Value}{g:Int->Int}
   (rule:∀(i:Int) (t:Tok) (s:Shared) (Q:Value->Shared->Prop) (E:Value->Shared->Prop),Q (.int (g i) s.toks) { s with toks:=s.toks+1 }->wpAny (model X.prog X.w) X.A (f (.int i t)) Q E s) :
   UnR X f (rU fun i=>.int (g i)):=by
 intro pins s σ H x v Q I rx h
 obtain⟨i,rfl,q⟩:=h
 obtain⟨t,rfl⟩:=rx
 exact rule i t s _ _ ⟨.int (g i),H,I.tok _,⟨_,rfl⟩,q⟩
theorem zLz:UnR X (unaryOp .USub) (rU fun i=>.int (-i)):=unI fun _ _ _ _ _ q=>neg_int q
end
def zLY:V->V->Bool
 | .non,.non=>true | .non,.int _=>true | .int _,.non=>true | .non,.bl _=>true | .bl _,.non=>true | .non,.str _=>true | .str _,.non=>true
 | .int _,.int _=>true | .bl _,.bl _=>true | .str _,.str _=>true | .byt _,.byt _=>true
 | .int _,.str _=>true | .str _,.int _=>true | .bl _,.str _=>true | .str _,.bl _=>true
 | _,_=>false
def rEq:R2:=fun x y H Q=>zLY x y=true/\Q (.bl (decide (x=y))) H
def rNe:R2:=fun x y H Q=>zLY x y=true/\Q (.bl (!decide (x=y))) H
theorem zTb {i j:Int}:decide (V.int i=V.int j)=(i==j):=by
 rw[Yo]
 simp
theorem zWN {i j:Bool}:decide (V.bl i=V.bl j)=(i==j):=by
 rw[Yo]
 simp
theorem zST {i j:Str}:decide (V.str i=V.str j)=(i==j):=by
 rw[Yo]
 simp
theorem zTd {i j:Array UInt8}:decide (V.byt i=V.byt j)=(i.toList==j.toList):=by
 rw[Yo]
 cases i
 cases j
 simp
section
variable {X:Cx} {a b c:Expr} {ta tb tc:TE} {pos:Pos}
theorem yG {pins:List (Addr×Obj)}{σ:St}{H:Hp}{s:Shared}{Q:VK}{k k':Bool}(I:Inv X pins σ H s)(q:Q (.bl k) H)(e:k=k'):EP X pins σ Q (.bool k') s:=by
 subst e
 exact⟨.bl k,H,I,rfl,q⟩
theorem zKS:OpR X (compareOp .Eq) rEq:=by
 intro pins s σ H x y v u Q I rx ry h
 obtain⟨hs,q⟩:=h
 cases x with
 | non =>
   cases rx
   cases y with
   | non=>cases ry;exact PySem.EqNone.eq_none_none (yG I q (by simp))
   | bl j=>cases ry;exact PySem.EqNone.eq_none_bool (yG I q (by simp))
   | int j=>obtain⟨t',rfl⟩:=ry;exact PySem.EqNone.eq_none_int (yG I q (by simp))
   | str j=>obtain⟨t',rfl⟩:=ry;exact PySem.EqNone.eq_none_str (yG I q (by simp))
   | _=>exact absurd (show false=true from hs) Qc
 | bl i =>
   cases rx
   cases y with
   | non=>cases ry;exact PySem.EqNone.eq_bool_none (yG I q (by simp))
   | bl j=>cases ry;exact eq_bool (yG I q zWN)
   | str j=>obtain⟨t',rfl⟩:=ry;exact PySem.EqMixed.eq_bool_str (yG I q (by simp))
   | _=>exact absurd (show false=true from hs) Qc
 | int i =>
   obtain⟨t,rfl⟩:=rx
   cases y with
   | non=>cases ry;exact PySem.EqNone.eq_int_none (yG I q (by simp))
   | int j=>obtain⟨t',rfl⟩:=ry;exact eq_int (yG I q zTb)
   | str j=>obtain⟨t',rfl⟩:=ry;exact PySem.EqMixed.eq_int_str (yG I q (by simp))
   | _=>exact absurd (show false=true from hs) Qc
 | str i =>
   obtain⟨t,rfl⟩:=rx
   cases y with
   | non=>cases ry;exact PySem.EqNone.eq_str_none (yG I q (by simp))
   | bl j=>cases ry;exact PySem.EqMixed.eq_str_bool (yG I q (by simp))
   | int j=>obtain⟨t',rfl⟩:=ry;exact PySem.EqMixed.eq_str_int (yG I q (by simp))
   | str j=>obtain⟨t',rfl⟩:=ry;exact eq_str (yG I q zST)
   | _=>exact absurd (show false=true from hs) Qc
 | byt i =>
   obtain⟨t,rfl⟩:=rx
   cases y with
   | byt j=>obtain⟨t',rfl⟩:=ry;exact PySem.W.eq_bytes (yG I q zTd)
   | _=>exact absurd (show false=true from hs) Qc
 | _=>cases y<;>exact absurd (show false=true from hs) Qc
theorem zKy:OpR X (compareOp .NotEq) rNe:=by
 intro pins s σ H x y v u Q I rx ry h
 obtain⟨hs,q⟩:=h
 cases x with
 | non =>
   cases rx
   cases y with
   | non=>cases ry;exact PySem.EqNone.ne_none_none (yG I q (by simp))
   | bl j=>cases ry;exact PySem.EqNone.ne_none_bool (yG I q (by simp))
   | int j=>obtain⟨t',rfl⟩:=ry;exact PySem.EqNone.ne_none_int (yG I q (by simp))
   | str j=>obtain⟨t',rfl⟩:=ry;exact PySem.EqNone.ne_none_str (yG I q (by simp))
   | _=>exact absurd (show false=true from hs) Qc
 | bl i =>
   cases rx
   cases y with
   | non=>cases ry;exact PySem.EqNone.ne_bool_none (yG I q (by simp))
   | bl j=>cases ry;exact ne_bool (yG I q (Rg not zWN))
   | str j=>obtain⟨t',rfl⟩:=ry;exact PySem.EqMixed.ne_bool_str (yG I q (by simp))
   | _=>exact absurd (show false=true from hs) Qc
 | int i =>
   obtain⟨t,rfl⟩:=rx
   cases y with
   | non=>cases ry;exact PySem.EqNone.ne_int_none (yG I q (by simp))
   | int j=>obtain⟨t',rfl⟩:=ry;exact ne_int (yG I q (Rg not zTb))
   | str j=>obtain⟨t',rfl⟩:=ry;exact PySem.EqMixed.ne_int_str (yG I q (by simp))
   | _=>exact absurd (show false=true from hs) Qc
 | str i =>
   obtain⟨t,rfl⟩:=rx
   cases y with
   | non=>cases ry;exact PySem.EqNone.ne_str_none (yG I q (by simp))
   | bl j=>cases ry;exact PySem.EqMixed.ne_str_bool (yG I q (by simp))
   | int j=>obtain⟨t',rfl⟩:=ry;exact PySem.EqMixed.ne_str_int (yG I q (by simp))
   | str j=>obtain⟨t',rfl⟩:=ry;exact ne_str (yG I q (Rg not zST))
   | _=>exact absurd (show false=true from hs) Qc
 | byt i =>
   obtain⟨t,rfl⟩:=rx
   cases y with
   | byt j=>obtain⟨t',rfl⟩:=ry;exact PySem.W.ne_bytes (yG I q (Rg not zTd))
   | _=>exact absurd (show false=true from hs) Qc
 | _=>cases y<;>exact absurd (show false=true from hs) Qc
theorem zKM:OpR X (compareOp .Lt) (rI0 fun i j=>.bl (decide (i < j))):=zOl fun _ _ _ _ _ _ _ q=>lt_int q
theorem zLk:OpR X (compareOp .LtE) (rI0 fun i j=>.bl (decide (i<=j))):=zOl fun _ _ _ _ _ _ _ q=>le_int q
theorem zK1:OpR X (compareOp .Gt) (rI0 fun i j=>.bl (decide (j < i))):=zOl fun _ _ _ _ _ _ _ q=>gt_int q
theorem zLl:OpR X (compareOp .GtE) (rI0 fun i j=>.bl (decide (j<=i))):=zOl fun _ _ _ _ _ _ _ q=>ge_int q
theorem zRr:OpR X (compareOp .In) (fun x y H Q=>∃i j,x = .str i/\y = .str j/\Q (.bl (!(Builtin.Str.occurrences j i 0 j.length 1).isEmpty)) H):=by
 intro pins s σ H x y v u Q I rx ry h
 obtain⟨i,j,rfl,rfl,q⟩:=h
 obtain⟨t,rfl⟩:=rx
 obtain⟨t',rfl⟩:=ry
 exact in_str (yG I q rfl)
theorem zLN:OpR X (compareOp .Is) (fun x y H Q=>y = .non/\Q (.bl (decide (x = .non))) H):=by
 intro pins s σ H x y v u Q I rx ry h
 obtain⟨rfl,q⟩:=h
 cases ry
 refine is_none_gen (yG I q ?_)
 cases x<;>first
   | (cases rx;rfl)
   | (obtain⟨t,rfl⟩:=rx;rfl)
theorem zOj:OpR X (compareOp .IsNot) (fun x y H Q=>y = .non/\Q (.bl (!decide (x = .non))) H):=by
 intro pins s σ H x y v u Q I rx ry h
 obtain⟨rfl,q⟩:=h
 cases ry
 refine isnot_none_gen (yG I q ?_)
 cases x<;>first
   | (cases rx;rfl)
   | (obtain⟨t,rfl⟩:=rx;rfl)
theorem OpR.or {f:Value->Value->Sem Value}{r r':R2}(h:OpR X f r)(h':OpR X f r'):OpR X f (fun x y H Q=>r x y H Q∨r' x y H Q):=by
 intro pins s σ H x y v u Q I rx ry q
 rcases q with q | q
 · exact h pins s σ H x y v u Q I rx ry q
 · exact h' pins s σ H x y v u Q I rx ry q
theorem zYW (b:Expr){op:CmpOp}(h:op ≠ .In:=by decide)(h2:op ≠ .NotIn:=by decide):behindInMarks op b=false:=by
 have e1:(op==CmpOp.In)=false:=by cases op<;>first | rfl | exact absurd rfl h
 have e2:(op==CmpOp.NotIn)=false:=by cases op<;>first | rfl | exact absurd rfl h2
 cases b<;>simp[behindInMarks,e1,e2]
theorem zNb {op:CmpOp}{r:R2}(ho:OpR X (compareOp op) r)(ha:PE X a ta)(hb:PE X b tb)(hm:behindInMarks op b=false):PE X (.Compare a [op] [b] pos) (tOp r ta tb):=by
 intro pins s σ H Q I h
 exact wpAny_Compare1 (zLG ha hb I h fun v u s2 x y H2 I2 rx ry q=>ho pins s2 σ H2 x y v u Q I2 rx ry q) hm
def zQ4 (t:TE):TT:=fun σ H Q=>t σ H fun x H'=>∃k,x = .bl k/\Q k H'
theorem zZW {op:CmpOp}{r:R2}(ho:OpR X (compareOp op) r)(ha:PE X a ta)(hb:PE X b tb)(hm:behindInMarks op b=false):PT X (.Compare a [op] [b] pos) (zQ4 (tOp r ta tb)):=by
 intro pins s σ H Q I h
 refine wpAny_isTrue_Compare1 (thn (ha pins s σ H _ I h) fun v s1 ⟨x,H1,I1,r1,q1⟩=>thn (hb pins s1 σ H1 _ I1 q1) fun u s2 ⟨y,H2,I2,r2,q2⟩ =>
   thn (ho pins s2 σ H2 x y v u _ I2 r1 r2 q2) fun c s3 ⟨z,H3,I3,r3,k,e,q3⟩=>?_) hm
 subst e
 cases r3
 exact Eb ⟨H3,I3,q3⟩
def zQF (r r':R2)(ta tb tc:TE):TE:=fun σ H Q=>ta σ H fun x H1=>tb σ H1 fun y H2=>r x y H2 fun z H3=>∃k,z = .bl k /\
 (if k=true then tc σ H3 fun w' H4=>r' y w' H4 Q else Q (.bl false) H3)
theorem zP2 {op op':CmpOp}{r r':R2}(ho:OpR X (compareOp op) r)(ho':OpR X (compareOp op') r')(ha:PE X a ta)(hb:PE X b tb)(hc:PE X c tc)
   (hm:lastMarks [op,op'] [b,c]=false:=by with_unfolding_all rfl):PE X (.Compare a [op,op'] [b,c] pos) (zQF r r' ta tb tc):=by
 intro pins s σ H Q I h
 refine Compare_chain (thn (ha pins s σ H _ I h) fun v s1 ⟨x,H1,I1,r1,q1⟩=>chain_link (thn (hb pins s1 σ H1 _ I1 q1) fun u s2 ⟨y,H2,I2,r2,q2⟩ =>
   thn (ho pins s2 σ H2 x y v u _ I2 r1 r2 q2) fun d s3 ⟨z,H3,I3,r3,k,e,q3⟩=>?_)) hm
 subst e
 cases r3
 refine Eb ?_
 cases k with
 | false=>exact ite_ff ⟨.bl false,H3,I3,rfl,q3⟩
 | true=>exact ite_tt (chain_last (thn (hc pins s3 σ H3 _ I3 q3) fun w' s4 ⟨z',H4,I4,r4,q4⟩=>ho' pins s4 σ H4 y z' u w' Q I4 r2 r4 q4))
theorem zQ0 {op op':CmpOp}{r r':R2}(ho:OpR X (compareOp op) r)(ho':OpR X (compareOp op') r')(ha:PE X a ta)(hb:PE X b tb)(hc:PE X c tc)
   (hm:lastMarks [op,op'] [b,c]=false:=by with_unfolding_all rfl):PT X (.Compare a [op,op'] [b,c] pos) (zQ4 (zQF r r' ta tb tc)):=by
 intro pins s σ H Q I h
 refine isTrue_chain (thn (ha pins s σ H _ I h) fun v s1 ⟨x,H1,I1,r1,q1⟩=>test_link (thn (hb pins s1 σ H1 _ I1 q1) fun u s2 ⟨y,H2,I2,r2,q2⟩ =>
   thn (ho pins s2 σ H2 x y v u _ I2 r1 r2 q2) fun d s3 ⟨z,H3,I3,r3,k,e,q3⟩=>?_)) hm
 subst e
 cases r3
 refine Eb ?_
 cases k with
 | false =>
   obtain⟨k',e',q'⟩:=q3
   cases e'
   exact ite_ff ⟨H3,I3,q'⟩
 | true =>
   refine ite_tt (test_last (thn (hc pins s3 σ H3 _ I3 q3) fun w' s4 ⟨z',H4,I4,r4,q4⟩=>thn (ho' pins s4 σ H4 y z' u w' _ I4 r2 r4 q4) fun d' s5 ⟨z2,H5,I5,r5,k2,e2,q5⟩=>?_))
   subst e2
   cases r5
   exact Eb ⟨H5,I5,q5⟩
theorem cP:(sizeLine:Nat) < 2^63:=by rw[Uf];decide
theorem zT0:OpR X (binaryOp .Add) (fun x y H Q=>∃i j,x = .str i/\y = .str j/\i.length+j.length<=sizeLine/\Q (.str (i++j)) H):=by
 intro pins s σ H x y v u Q I rx ry h
 obtain⟨i,j,rfl,rfl,hz,q⟩:=h
 obtain⟨t,rfl⟩:=rx
 obtain⟨t',rfl⟩:=ry
 exact add_str (fun t' tk=>⟨.str (i++j),H,I.tok _,⟨_,rfl⟩,q⟩) hz
theorem oV {x:V}{us:List Value}(r:Vals [x] us):∃u,us=[u]/\RelV x u:=by
 cases r with
 | cons r1 r2=>cases r2;exact⟨_,rfl,r1⟩
theorem zSK {x y:V}{us:List Value}(r:Vals [x,y] us):∃u w',us=[u,w']/\RelV x u/\RelV y w':=by
 cases r with
 | cons r1 r2 =>
   cases r2 with
   | cons r3 r4=>cases r4;exact⟨_,_,rfl,r1,r3⟩
theorem zR3 (hc:X.calm=true):CallR X (.builtin "max") (fun xs H Q=>∃i j,xs=[.int i,.int j]/\Q (.int (if j > i then j else i)) H):=by
 intro pins s σ H xs us Q I r h
 obtain⟨i,j,rfl,q⟩:=h
 obtain⟨u,w',rfl,⟨t,rfl⟩,⟨t',rfl⟩⟩:=zSK r
 refine max_two_ints (I.ok.hd hc) fun h' tk k=>⟨_,H,I.kept k,?_,q⟩
 by_cases hj:j > i
 · rw[Qx hj,Qx hj];exact⟨_,rfl⟩
 · rw[Wy hj,Wy hj];exact⟨_,rfl⟩
theorem zRW (hc:X.calm=true):CallR X (.builtin "min") (fun xs H Q=>∃i j,xs=[.int i,.int j]/\Q (.int (if j < i then j else i)) H):=by
 intro pins s σ H xs us Q I r h
 obtain⟨i,j,rfl,q⟩:=h
 obtain⟨u,w',rfl,⟨t,rfl⟩,⟨t',rfl⟩⟩:=zSK r
 refine min_two_ints (I.ok.hd hc) fun h' tk k=>⟨_,H,I.kept k,?_,q⟩
 by_cases hj:j < i
 · rw[Qx hj,Qx hj];exact⟨_,rfl⟩
 · rw[Wy hj,Wy hj];exact⟨_,rfl⟩
theorem zSj:CallR X (.type "int") (fun xs H Q=>(∃i,xs=[.int i]/\Q (.int i) H)∨∃k,xs=[.bl k]/\Q (.int (if k then 1 else 0)) H):=by
 intro pins s σ H xs us Q I r h
 rcases h with⟨i,rfl,q⟩ | ⟨k,rfl,q⟩
 · obtain⟨u,rfl,t,rfl⟩:=oV r
   exact call_int_int ⟨.int i,H,I,⟨_,rfl⟩,q⟩
 · obtain⟨u,rfl,r1⟩:=oV r
   cases r1
   exact call_int_bool ⟨.int (if k then 1 else 0),H,I.tok _,⟨_,rfl⟩,q⟩
theorem zWI:CallR X (.type "str") (fun xs H Q=>∃i,xs=[.int i]/\i.natAbs.log2 < 1920/\Q (.str (toString i)) H):=by
 intro pins s σ H xs us Q I r h
 obtain⟨i,rfl,hz,q⟩:=h
 obtain⟨u,rfl,t,rfl⟩:=oV r
 exact PySem.P.str_of_int hz ⟨.str _,H,I.tok _,⟨_,rfl⟩,q⟩
end
structure ObjM (h:Heap)(x dx C:Addr)(mA:Str->Option Value):Prop where
 obj:h.get? x=some (PySem.W.instObj C dx)
 ns:h.Ns1 dx mA
 ne:dx≠x
theorem zR6 {h:Heap}{dx:Addr}{mA:Str->Option Value}(n:h.Ns1 dx mA):∃od,h.get? dx=some od/\∀name,PySem.W.lookIn name od=some (mA name):=by
 obtain⟨o,es,ep,ho,hd,hk,_,hm⟩:=n
 refine⟨o,ho,fun name=>?_⟩
 have e:=hm name
 unfold nsFind findBy at e
 rw[←Ow] at e
 unfold PySem.W.lookIn
 rw[hd]
 dsimp only
 split
 · rename_i y q
   rw[q] at e
   exact Rg some e
 · rename_i q
   rw[q] at e
   have a:es.toList.any (·.refKey)=false:=by
     rw[List.any_eq_false]
     intro y hy
     obtain⟨z,t,hkey⟩:=hk y (Array.mem_toList_iff.mp hy)
     simp[DictEntry.refKey,hkey]
   have a':¬es.toList.any (·.refKey)=true:=by rw[a];exact Qc
   rw[Wy a']
   exact Rg some e
theorem ObjM.look {h:Heap}{x dx C:Addr}{mA:Str->Option Value}(I:ObjM h x dx C mA):∃od,PySem.W.InstAt h x (PySem.W.instObj C dx) C (some od)/\∀name,PySem.W.lookIn name od=some (mA name) :=
 let ⟨od,ho,hl⟩:=zR6 I.ns
 ⟨od,⟨I.obj,rfl,rfl,ho⟩,hl⟩
section
variable {prog:Program} {w:World} {A:Around} {E:Value->Shared->Prop} {s:Shared} {K:PySem.W.Frag} {x dx C f:Addr} {mA:Str->Option Value} {name:Str} {v:Value}
theorem zOd {expr:Bool}{Q:Value->Shared->Prop}(X:K.In s.heap)(I:ObjM s.heap x dx C mA)(hg:PySem.W.plainGet K C name=true)(hh:PySem.W.hasDictIn K C=true)
   (ha:PySem.W.findIn K (.ref C) name=some none) (hv:mA name=some v) (hv':PySem.W.handedIn v=true) (h:Q v { s with toks:=s.toks+1 }) :
   wpAny (model prog w) A (getAttr (.ref x) name expr) Q E s:=by
 obtain⟨od,J,hl⟩:=I.look
 exact PySem.W.get_value X J (PySem.W.plainGet_of hg).1 (PySem.W.findObj_own hh ha rfl (by rw[hl,hv])) hv' h
theorem zOz {ns:List Str}{Q:Unit->Shared->Prop}(X:K.In s.heap)(I:ObjM s.heap x dx C mA)
   (hs:PySem.W.findIn K (.ref C) "__setattr__"=some (some (.builtin "object.__setattr__"))) (hp:PySem.W.plainOver K C=true) (ht:PySem.W.takerIn K C name=some none) (hh:PySem.W.hasDictIn K C=true)
   (hw:PySem.Within mA ns) (hsz:ns.length<=sizeLine)
   (h:∀h',ObjM h' x dx C (fun y=>if y=name then some v else mA y)->Heap.SameBut dx s.heap h'->Q () { s with heap:=h',toks:=s.toks+2 }) :
   wpAny (model prog w) A (setAttr (.ref x) name v) Q E s:=by
 obtain⟨od,J,hl⟩:=I.look
 refine PySem.W.set_plain X J hs (PySem.W.osa_open (s:={ s with toks:=s.toks+1 }) (r:=none) X J hp ht fun b=>?_)
 obtain⟨cd,hc,hd'⟩:=PySem.W.any_some hh
 have hx:s.heap.get? x=some ⟨.ref C,some dx,.plain,#[]⟩:=I.obj
 refine Qw (Qo (Qw (Qw (wpAny_loadPart hx (Qw (PySem.W.Looks.here (s:={ s with toks:=s.toks+1 }) (PySem.W.looks_clsIn X hc) ?_))))))
 rw[hd']
 refine Qo (a:=some dx) (Qw (Qo (Qw ?_)))
 refine wpAny_nsSet1 (s:={ s with toks:=s.toks+1 }) I.ns fun h' hn2 hs2=>?_
 obtain⟨oD,esD,epD,hoD,hdD,hcD⟩:=hn2.count (PySem.Within.cons name v hw)
 refine Qw (Oh hoD (by rw[hdD];exact Oj (Wi hcD (by rw[Qi];omega))) ?_)
 exact Qo (h _ ⟨(hs2.2 _ (Ne.symm I.ne)).trans I.obj,hn2,I.ne⟩ hs2)
theorem zPR {R:Result->Shared->Prop}{vs:List Value}{kw:List (Str×Value)}(X:K.In s.heap)(hm:PySem.W.makesIn K C=true)
   (hi:PySem.W.findIn K (.ref C) "__init__"=some (some (.ref f))) (hf:PySem.W.typeIn K (.ref f)=some (.type "function"))
   (h:codeAny (model prog w) (A.under (.builtin "type.__call__" ⟨.ref C::vs,kw⟩)) (.call (.ref f) ⟨.ref (s.heap.objs.size+1)::vs,kw⟩) (PySem.W.InitBack (s.heap.objs.size+1) R)
     { s with heap:=(s.heap.push PySem.W.emptyDict).push (PySem.W.instObj C s.heap.objs.size) }) :
   codeAny (model prog w) A (.call (.ref C) ⟨vs,kw⟩) R s:=by
 obtain⟨hh,g,d,t,os⟩:=s
 exact PySem.W.make_core (PySem.W.makes_of X hm) (PySem.W.looks_findIn X hi) (fun self=>PySem.W.bind_fn X self hf) (.inl rfl) h
end
def mV (f:Str)(v:V):List (Str×V)->List (Str×V)
 | []=>[(f,v)]
 | (g,x)::r=>if g=f then(g,v)::r else(g,x)::mV f v r
theorem jT (f g:Str)(v:V):∀fs:List (Str×V),(mV f v fs).lookup g=if g=f then some v else fs.lookup g
 | []=>by
   show List.lookup g [(f,v)]=_
   by_cases h:g=f
   · have hb:(g==f)=true:=Tq.mpr h
     simp only[List.lookup,hb,Qx h]
   · have hb:(g==f)=false:=Ei.mpr h
     simp only[List.lookup,hb,Wy h]
 | (k,x)::r=>by
   have ih:=jT f g v r
   rw[show mV f v ((k,x)::r)=(if k=f then(k,v)::r else(k,x)::mV f v r) from rfl]
   by_cases hk:k=f
   · rw[Qx hk]
     by_cases h:g=k
     · have hb:(g==k)=true:=Tq.mpr h
       simp only[List.lookup,hb,Qx (h.trans hk)]
     · have hb:(g==k)=false:=Ei.mpr h
       simp only[List.lookup,hb,Wy (fun e:g=f=>h (e.trans hk.symm))]
   · rw[Wy hk]
     by_cases h:g=k
     · have hb:(g==k)=true:=Tq.mpr h
       simp only[List.lookup,hb,Wy (fun e:g=f=>hk (h.symm.trans e))]
     · have hb:(g==k)=false:=Ei.mpr h
       simp only[List.lookup,hb]
       exact ih
theorem cU (f:Str)(v:V):∀fs:List (Str×V),f∈(mV f v fs).map (·.1)/\∀g,g∈fs.map (·.1)->g∈(mV f v fs).map (·.1)
 | []=>⟨by simp[mV],fun g h=>by simp at h⟩
 | (k,x)::r=>by
   obtain⟨i1,i2⟩:=cU f v r
   rw[show mV f v ((k,x)::r)=(if k=f then(k,v)::r else(k,x)::mV f v r) from rfl]
   by_cases hk:k=f
   · rw[Qx hk]
     subst hk
     exact⟨by simp,fun g h=>by simpa using h⟩
   · rw[Wy hk]
     refine⟨?_,fun g h=>?_⟩
     · rw[Qj]
       exact Qd _ i1
     · rw[Qj] at h ⊢
       rcases Qz.mp h with e | e
       · exact Qz.mpr (.inl e)
       · exact Qd _ (i2 g e)
theorem bM (f:Str)(v:V):∀fs:List (Str×V),(mV f v fs).length<=fs.length+1
 | []=>by simp[mV]
 | (k,x)::r=>by
   have ih:=bM f v r
   rw[show mV f v ((k,x)::r)=(if k=f then(k,v)::r else(k,x)::mV f v r) from rfl]
   by_cases hk:k=f
   · rw[Qx hk,Qi,Qi];omega
   · rw[Wy hk,Qi,Qi];omega
theorem RelO.some_of {v:V}{o:Option Value}(r:RelO (some v) o):∃u,o=some u/\RelV v u:=by
 cases o with
 | none=>exact(show False from r).elim
 | some u=>exact⟨u,rfl,r⟩
theorem RelO.none_of {o:Option Value}(r:RelO none o):o=none:=by
 cases o with
 | none=>rfl
 | some u=>exact(show False from r).elim
theorem zX8 {v:V}{u:Value}(r:RelV v u):PySem.W.handedIn u=true:=by
 cases v with
 | non=>cases (show u=Value.none from r);rfl
 | bl b=>cases (show u=Value.bool b from r);rfl
 | int i=>obtain⟨t,e⟩:=(show ∃t,u=Value.int i t from r);cases e;rfl
 | str x=>obtain⟨t,e⟩:=(show ∃t,u=Value.str x t from r);cases e;rfl
 | byt b=>obtain⟨t,e⟩:=(show ∃t,u=Value.bytes b t from r);cases e;rfl
 | flt b=>obtain⟨t,e⟩:=(show ∃t,u=Value.float b t from r);cases e;rfl
 | ref a=>cases (show u=Value.ref a from r);rfl
 | ty n=>cases (show u=Value.type n from r);rfl
section
variable {P:Program} {w:World} {H H':Hp} {h h':Heap} {a C dx:Addr} {fs fs':List (Str×V)}
theorem zTf (hok:HOk P w H h)(e:H a=some (.ins C dx fs)):∃mA,ObjM h a dx C mA/\(∀f,RelO (fs.lookup f) (mA f))/\PySem.Within mA (fs.map (·.1))/\fs.length<=1000/\H dx=some (.own a):=by
 obtain⟨d,z,ne,ob,mA,n,r,q⟩:=(show ObjOk P w H h a (.ins C dx fs) from hok a _ e)
 exact⟨mA,⟨ob,n,ne⟩,r,q,z,d⟩
end
structure Cls (K:PySem.W.Frag)(C:Addr):Prop where
 pg:PySem.W.plainGet K C Str.empty=true
 hd:PySem.W.hasDictIn K C=true
 po:PySem.W.plainOver K C=true
 sa:PySem.W.findIn K (.ref C) "__setattr__"=some (some (.builtin "object.__setattr__"))
theorem Cls.get {K:PySem.W.Frag}{C:Addr}(c:Cls K C)(f:Str):PySem.W.plainGet K C f=true:=c.pg
def NoAttr (K:PySem.W.Frag)(C:Addr)(f:Str):Prop:=PySem.W.findIn K (.ref C) f=some none
theorem NoAttr.taker {K:PySem.W.Frag}{C:Addr}{f:Str}(n:NoAttr K C f):PySem.W.takerIn K C f=some none:=by
 unfold PySem.W.takerIn
 rw[show PySem.W.findIn K (.ref C) f=some none from n]
 rfl
structure Con (K:PySem.W.Frag)(C:Addr)(f:Str)(v:V)(u:Value):Prop where
 at_:PySem.W.findIn K (.ref C) f=some (some u)
 rel:RelV v u
 get:PySem.W.specialIn K u "__get__"=some none
 cp:PySem.W.copiedNames.contains f=false
structure Meth (K:PySem.W.Frag)(C:Addr)(m:Str)(f:Addr):Prop where
 at_:PySem.W.findIn K (.ref C) m=some (some (.ref f))
 fn:PySem.W.isFn K (.ref f)=true
 kp:PySem.W.keepIn K (.ref f)=true
section
variable {X:Cx} {pins:List (Addr×Obj)} {σ:St} {H:Hp} {s:Shared} {a C dx:Addr} {fs:List (Str×V)} {f:Str} {v:V} {A:Around} {E:Value->Shared->Prop}
theorem zUo {b:Bool}{Q:Value->Shared->Prop}(I:Inv X pins σ H s)(e:H a=some (.ins C dx fs))(c:Cls X.K C)(n:NoAttr X.K C f)(l:fs.lookup f=some v)
   (h:∀u s',Inv X pins σ H s'->RelV v u->Q u s'):wpAny (model X.prog X.w) A (getAttr (.ref a) f b) Q E s:=by
 obtain⟨mA,O,r,_,_,_⟩:=zTf I.hok e
 obtain⟨u,hu,ru⟩:=RelO.some_of (v:=v) (o:=mA f) (by rw[←l];exact r f)
 exact zOd I.kIn O (c.get f) c.hd n hu (zX8 ru) (h u _ (I.tok _) ru)
theorem zUx {y:V}{u:Value}{Q:Unit->Shared->Prop}(I:Inv X pins σ H s)(e:H a=some (.ins C dx fs))(c:Cls X.K C)(n:NoAttr X.K C f)(hl:fs.length < 1000)(ry:RelV y u)
   (h:∀s',Inv X pins σ (upd H a (.ins C dx (mV f y fs))) s'->Q () s'):wpAny (model X.prog X.w) A (setAttr (.ref a) f u) Q E s:=by
 obtain⟨mA,O,r,wi,_,ho⟩:=zTf I.hok e
 have hz:(fs.map (·.1)).length<=sizeLine:=by rw[Qg,Uf];omega
 refine zOz I.kIn O c.sa c.po n.taker c.hd wi hz fun h' O' sb=>h _ ?_
 have hd:∃o,h'.get? dx=some o:=let ⟨o,_,_,e',_⟩:=O'.ns;⟨o,e'⟩
 refine I.write (x:=a) (e:=dx) (by rw[e];exact True.intro) (.inr ho) (fun b q hb z=>(sb.2 b hb).trans z) hd ?_
 refine⟨by rw[yP O.ne];exact ho,?_,O.ne,O'.obj,_,O'.ns,fun g=>?_,fun g hg=>?_⟩
 · have:=bM f y fs;omega
 · show RelO ((mV f y fs).lookup g) (if g=f then some u else mA g)
   rw[jT]
   by_cases q:g=f
   · rw[Qx q,Qx q];exact ry
   · rw[Wy q,Wy q];exact r g
 · by_cases q:g=f
   · rw[q];exact(cU f y fs).1
   · refine(cU f y fs).2 g (wi g fun z=>hg ?_)
     show(if g=f then some u else mA g)=none
     rw[Wy q];exact z
theorem Inv.made (I:Inv X pins σ H s):Inv X pins σ (upd (upd H s.heap.objs.size (.own (s.heap.objs.size+1))) (s.heap.objs.size+1) (.ins C s.heap.objs.size []))
   { s with heap:=(s.heap.push PySem.W.emptyDict).push (PySem.W.instObj C s.heap.objs.size) }:=by
 have e1:(s.heap.push PySem.W.emptyDict).get? s.heap.objs.size=some PySem.W.emptyDict:=Qa s.heap rfl
 have e2:((s.heap.push PySem.W.emptyDict).push (PySem.W.instObj C s.heap.objs.size)).get? (s.heap.objs.size+1)=some (PySem.W.instObj C s.heap.objs.size):=by
   have:=Qa (s.heap.push PySem.W.emptyDict) (o:=PySem.W.instObj C s.heap.objs.size) rfl
   rwa[Ek] at this
 have e3:(s.heap.push PySem.W.emptyDict).Ns s.heap.objs.size (fun _=>none):=⟨PySem.W.emptyDict,#[],_,e1,rfl,(fun e he=>absurd he (by simp)),fun _=>rfl⟩
 have I1:=I.laid (a:=s.heap.objs.size) (o:=.own (s.heap.objs.size+1)) (h':=s.heap.push PySem.W.emptyDict) (t':=s.toks) (fun b u q=>Qe _ q) (Qk _) ⟨_,e1⟩
 refine I1.laid (a:=s.heap.objs.size+1) (o:=.ins C s.heap.objs.size []) (t':=s.toks) (fun b u q=>Qe _ q) (Nat.le_of_eq (Ek _ _)) ?_
 have ne:s.heap.objs.size≠s.heap.objs.size+1:=We (Ol _)
 refine⟨by rw[yP ne,zE],Ye _,ne,e2,fun _=>none,(Heap.Ns1.of_empty e3).at fun o q=>Qe _ q,fun _=>True.intro,fun y hy=>absurd rfl hy⟩
theorem zSW {prog:Program}{w:World}{env:Env}{e:Expr}{f:Str}{pos:Pos}{s:Shared}{Q:Value->Shared->Prop}(hb:attributeBase e f env (eval e env)=eval e env)
   (h:wpAny (model prog w) A (eval e env) (fun o s₁=>wpAny (model prog w) A (getAttr o f true) Q E s₁) E s):wpAny (model prog w) A (eval (.Attribute e f pos) env) Q E s :=
 Attribute_any_ h (by rw[arm_eval_Attribute,hb])
end
def zJU (K:PySem.W.Frag)(ta:TE)(f:Str):TE:=fun σ H Q=>ta σ H fun x H1=>∃a C dx fs v,x = .ref a/\H1 a=some (.ins C dx fs)/\Cls K C/\NoAttr K C f/\fs.lookup f=some v/\Q v H1
def zKk (K:PySem.W.Frag)(ta tv:TE)(f:Str):TS:=fun D σ H=>tv σ H fun y H1=>ta σ H1 fun x H2=>∃a C dx fs,x = .ref a/\H2 a=some (.ins C dx fs)/\Cls K C/\NoAttr K C f/\fs.length < 1000 /\
 D.nx σ (upd H2 a (.ins C dx (mV f y fs)))
section
variable {X:Cx} {o e value:Expr} {f:Str} {pos pos' tpos:Pos} {ta tv:TE}
theorem zMD (he:PE X e ta)(hb:attributeBase e f X.env (eval e X.env)=eval e X.env):PE X (.Attribute e f pos) (zJU X.K ta f):=by
 intro pins s σ H Q I h
 refine zSW hb (thn (he pins s σ H _ I h) fun u s1 ⟨x,H1,I1,rx,a,C,dx,fs,v,ex,ea,c,n,l,q⟩=>?_)
 subst ex
 obtain rfl:u=Value.ref a:=rx
 exact zUo I1 ea c n l fun u' s2 I2 ru=>⟨v,H1,I2,ru,q⟩
theorem zM6 (ha:PE X o ta)(hv:PE X value tv)(hs:swapsWith value (some (.Attribute o f pos')) pos.line X.env=pure false):PS X (.Assign [.Attribute o f pos'] value pos) (zKk X.K ta tv f):=by
 intro pins s σ H D I h
 refine Op (thn (hv pins s σ H _ I h) fun u s1 ⟨y,H1,I1,ry,q⟩=>thn (ha pins s1 σ H1 _ I1 q) fun ov s2 ⟨x,H2,I2,rx,a,C,dx,fs,ex,ea,c,n,l,q2⟩=>?_) hs
 subst ex
 obtain rfl:ov=Value.ref a:=rx
 exact zUx I2 ea c n l ry fun s3 I3=>⟨σ,_,I3,q2⟩
end
section
variable {X:Cx} {pins:List (Addr×Obj)} {σ:St} {H:Hp} {s:Shared} {A:Around} {E:Value->Shared->Prop} {Q:Value->Shared->Prop} {c:Value} {b:Bool}
inductive TyOf (K:PySem.W.Frag)(H:Hp):V->Value->Prop where
 | non:TyOf K H .non (.type "NoneType")
 | bl (x:Bool):TyOf K H (.bl x) (.type "bool")
 | int (i:Int):TyOf K H (.int i) (.type "int")
 | str (x:Str):TyOf K H (.str x) (.type "str")
 | flt (x:UInt64):TyOf K H (.flt x) (.type "float")
 | lst {a:Addr} {xs:List V} (e:H a=some (.lst xs)):TyOf K H (.ref a) (.type "list")
 | frz {a:Addr} {o:Obj} {xs:List V} (e:H a=some (.frz o (.lst xs))):TyOf K H (.ref a) (.type "list")
 | tup {a:Addr} {xs:List V} (e:H a=some (.tup xs)):TyOf K H (.ref a) (.type "tuple")
 | dK {a:Addr} {kvs:List (Key×V)} (e:H a=some (.dK kvs)):TyOf K H (.ref a) (.type "dict")
 | dT {a:Addr} {kvs:List (List Key×V)} (e:H a=some (.dT kvs)):TyOf K H (.ref a) (.type "dict")
 | ins {a C dx:Addr} {fs:List (Str×V)} (e:H a=some (.ins C dx fs)) (cl:Cls K C) (ha:PySem.W.findIn K (.ref C) "__class__"=some (some (.builtin "object.__class__")))
     (hn:PySem.W.specialIn K (.builtin "object.__class__") "__get__"=some (some (.builtin "getset_descriptor.__get__"))) (htk:PySem.W.takesIn K (.builtin "object.__class__")=some true)
     (hm:PySem.W.mroIn K C (.type "object")=some true):TyOf K H (.ref a) (.ref C)
end
structure Room (k:Nat)(A:Around):Prop where
 hd:A.handled=none
 dp:A.depth+3*k+5 < recursionLimit
 un:A.units+16*k+200 < cLine
theorem Room.mono {j k:Nat}{A:Around}(r:Room k A)(h:j<=k):Room j A:=⟨r.hd,by have:=r.dp;omega,by have:=r.un;omega⟩
theorem Room.deeper {k:Nat}{A:Around}(r:Room (k+1) A)(env:Env):Room k (A.deeper env) :=
 ⟨r.hd,by have:=r.dp;show A.depth+1+3*k+5 < _;omega,by have:=r.un;show A.units+3+16*k+200 < _;omega⟩
theorem zUv {A:Around}{C:Addr}{us:List Value}{kw:List (Str×Value)}:(A.under (.builtin "type.__call__" ⟨.ref C::us,kw⟩)).depth=A.depth+1:=by
 first | rfl | simp[Around.under,Code.weight,Code.isCreation,Code.isGuard,Code.isCaller,Code.frames,Code.isFrame,guardIds]
theorem zTS {A:Around}{C:Addr}{us:List Value}{kw:List (Str×Value)}:(A.under (.builtin "type.__call__" ⟨.ref C::us,kw⟩)).units=A.units+1:=by
 first | rfl | simp[Around.under,Code.cUnits,Code.frames,Code.isFrame]
theorem Room.make {k:Nat}{A:Around}(r:Room (k+1) A)(C:Addr)(us:List Value)(kw:List (Str×Value)):Room k (A.under (.builtin "type.__call__" ⟨.ref C::us,kw⟩)) :=
 ⟨r.hd,by have:=r.dp;rw[zUv];omega,by have:=r.un;rw[zTS];omega⟩
theorem Room.depth {k:Nat}{A:Around}(r:Room k A):A.depth < recursionLimit:=by have:=r.dp;omega
theorem Room.units {k:Nat}{A:Around}(r:Room k A):A.units+64 < cLine:=by have:=r.un;omega
theorem Room.units0 {k:Nat}{A:Around}(r:Room k A):A.units < cLine:=by have:=r.un;omega
def zTw:TA:=fun _ H Q=>Q [] H
def zZd (ta:TE)(tr:TA):TA:=fun σ H Q=>ta σ H fun x H1=>tr σ H1 fun xs H2=>Q (x::xs) H2
section
variable {X:Cx} {e:Expr} {es:List Expr} {te:TE} {t:TA} {pos:Pos}
theorem yE:PA X [] zTw:=fun _ _ _ _ H Q I h=>Oa ⟨[],H,I,.nil,h⟩
theorem yO (ha:PE X e te)(hr:PA X es t)(hs:starEach (e::es) X.env=(false,eval e X.env)::starEach es X.env:=by rfl):PA X (e::es) (zZd te t):=by
 intro pos pins s σ H Q I h
 rw[hs]
 show wpAny _ _ (spliced ((false,eval e X.env)::backTo pos (starEach es X.env))) _ _ s
 refine Oe (thn (ha pins s σ H _ I h) fun u s1 ⟨x,H1,I1,r1,q1⟩=>?_)
 exact thn (hr pos pins s1 σ H1 _ I1 q1) fun us s2 ⟨xs,H2,I2,r2,q2⟩=>⟨x::xs,H2,I2,.cons r1 r2,q2⟩
def zJX (t:TA):TE:=fun σ H Q=>t σ H fun xs H1=>xs.length<=sizeLine/\∀p,H1 p=none->Q (.ref p) (upd H1 p (.tup xs))
def zKu (t:TA):TE:=fun σ H Q=>t σ H fun xs H1=>xs.length<=sizeLine/\∀p,H1 p=none->Q (.ref p) (upd H1 p (.lst xs))
theorem zMx {x1}(h:PA X es t):PE X (.Tuple es x1 pos) (zJX t):=by
 intro pins s σ H Q I hq
 refine wpAny_Tuple_spliced (thn (h pos pins s σ H _ I hq) fun us s1 ⟨xs,H1,I1,r,z,q⟩=>⟨by rw[←r.length];exact z,?_⟩)
 have hf:H1 s1.heap.objs.size=none:=I1.hok.fresh (Qk _)
 refine⟨.ref s1.heap.objs.size,upd H1 s1.heap.objs.size (.tup xs),I1.laid (t':=s1.toks) (fun b u e=>Qe _ e) (Qk _) ?_,rfl,q _ hf⟩
 exact⟨z,us,r,⟨_,Qa _ rfl,rfl,_,rfl⟩⟩
theorem zPS (h:PA X es t):PE X (.List es pos) (zKu t):=by
 intro pins s σ H Q I hq
 refine wpAny_List_spliced (thn (h pos pins s σ H _ I hq) fun us s1 ⟨xs,H1,I1,r,z,q⟩=>⟨by rw[←r.length];exact z,?_⟩)
 have hf:H1 s1.heap.objs.size=none:=I1.hok.fresh (Qk _)
 refine⟨.ref s1.heap.objs.size,upd H1 s1.heap.objs.size (.lst xs),I1.laid (t':=s1.toks) (fun b u e=>Qe _ e) (Qk _) ?_,rfl,q _ hf⟩
 exact⟨z,us,0,r,Qa _ rfl⟩
end
abbrev Sp:=List V->Hp->VK->XK->Prop
abbrev CXT:=List Env->Hp->Shared->XK->Value->Shared->Prop
structure Env0 (P:Program)(w:World)(K:PySem.W.Frag)(mg:Str->Option Value)(base:Heap)(A:Around)(outer:List Env)(s:Shared)(H:Hp):Prop where
 frames:A.frames=some outer
 mod:Mod K mg base
 bs:∀b o,base.get? b=some o->s.heap.get? b=some o/\H b=none
 bsz:base.objs.size<=s.heap.objs.size
 funs:s.heap.FunFrames base outer
 frf:∀b∈frs outer,H b=none
 hok:HOk P w H s.heap
 bare:AllBare s.gens
def CE (outer:List Env)(P:Program)(w:World)(H:Hp)(s:Shared)(Q:VK)(u:Value)(s':Shared):Prop :=
 ∃v H',s'.os=s.os/\AllBare s'.gens/\Un (frs outer) [] H H' s.heap s'.heap/\HOk P w H' s'.heap/\RelV v u/\Q v H'
def CR (CX:CXT)(outer:List Env)(P:Program)(w:World)(H:Hp)(s:Shared)(Q:VK)(E:XK)(r:Result)(s':Shared):Prop :=
 match r with
 | .ok (.ret u)=>CE outer P w H s Q u s'
 | .ok _=>False
 | .error e=>CX outer H s E e s'
structure FnOk (P:Program)(w:World)(K:PySem.W.Frag)(mg:Str->Option Value)(base:Heap)(CX:CXT)(k:Nat)(f:Addr)(fd:FuncData)(ps:List Str)(sp:Sp):Prop where
 len:∀vs H Q E,sp vs H Q E->vs.length=ps.length
 run:∀(A:Around) (outer:List Env) (s:Shared) (H:Hp) (args:Args) (us:List Value) (vs:List V) (Q:VK) (E:XK),Room k A->Env0 P w K mg base A outer s H->BindsTo s fd args (ps.zip us)->Vals vs us->sp vs H Q E ->
   codeAny (model P w) A (.call (.ref f) args) (CR CX outer P w H s Q E) s
theorem Env0.make {P:Program}{w:World}{K:PySem.W.Frag}{mg:Str->Option Value}{base:Heap}{A:Around}{outer:List Env}{s:Shared}{H:Hp}(e:Env0 P w K mg base A outer s H)(C:Addr)(us:List Value)(kw:List (Str×Value)) :
   Env0 P w K mg base (A.under (.builtin "type.__call__" ⟨.ref C::us,kw⟩)) outer s H:=⟨by first | exact e.frames | (simpa [Around.under,Code.envs,Code.isFrame,pushEnvs] using e.frames),e.mod,e.bs,e.bsz,e.funs,e.frf,e.hok,e.bare⟩
section
variable {X:Cx} {pins:List (Addr×Obj)} {σ:St} {H:Hp} {s s':Shared}
theorem Inv.env0 (I:Inv X pins σ H s):Env0 X.prog X.w X.K X.mg X.base X.A X.stack s H :=
 ⟨I.ok.frames,I.ok.mod,I.bs,Wi I.ok.bsz I.sz,I.stack,I.stkFree,I.hok,I.bare⟩
theorem Inv.after {Q:VK}{u:Value}(I:Inv X pins σ H s)(h:CE X.stack X.prog X.w H s Q u s'):EP X pins σ Q u s':=by
 obtain⟨v,H',os,bare,un,hok,r,q⟩:=h
 obtain⟨hh,g,d,t,os'⟩:=s'
 obtain rfl:os'=s.os:=os
 exact⟨v,H',I.call (h':=hh) (g':=g) (d':=d) (t':=t) (ch:=[]) un hok bare (fun b z=>absurd z (by simp)),r,q⟩
end
def zKY (sp:Sp)(dvs:List V)(E:XK)(t:TA):TE:=fun σ H Q=>t σ H fun vs H1=>sp (vs++dvs) H1 Q E
def zKF (C:Addr)(sp:Sp)(dvs:List V)(E:XK)(t:TA):TE:=fun σ H Q=>t σ H fun vs H1=>∀x dx,H1 x=none->H1 dx=none->dx≠x ->
 sp (.ref x::(vs++dvs)) (upd (upd H1 dx (.own x)) x (.ins C dx [])) (fun v H2=>v = .non/\Q (.ref x) H2) E
def Binds (K:PySem.W.Frag)(fd:FuncData)(ps:List Str)(ds:List Value):Prop :=
 ∀(s:Shared) (us:List Value),K.In s.heap->(us++ds).length=ps.length->BindsTo s fd ⟨us,[]⟩ (ps.zip (us++ds))
theorem Binds.all {K:PySem.W.Frag}{fd:FuncData}{ps:List Str}(h:∀us:List Value,us.length=ps.length->bindArgs fd ⟨us,[]⟩=pure (ps.zip us)):Binds K fd ps []:=fun s us _ hl=>by
 rw[Wa] at hl ⊢
 exact .of_eq (h us hl)
def lV (CX:CXT)(X:Cx)(E:XK):Prop:=∀(pins:List (Addr×Obj)) (σ:St) (H:Hp) (s:Shared) (e:Value) (s':Shared),Inv X pins σ H s->CX X.stack H s E e s'->X.xe e s'
section
variable {X:Cx} {CX:CXT} {k:Nat} {f C:Addr} {fd:FuncData} {ps:List Str} {sp:Sp} {dvs:List V} {ds:List Value} {E:XK} {x m:Str} {p pos apos:Pos} {e o:Expr} {es:List Expr} {ta:TE} {t:TA}
theorem zMn {pins:List (Addr×Obj)}{σ:St}{H:Hp}{s:Shared}{Q:VK}{us:List Value}{vs:List V}(F:FnOk X.prog X.w X.K X.mg X.base CX k f fd ps sp)(hr:Room k X.A)(hb:Binds X.K fd ps ds)(hd:Vals dvs ds)(hx:lV CX X E)
   (I:Inv X pins σ H s) (r:Vals vs us) (h:sp (vs++dvs) H Q E):wpAny (model X.prog X.w) X.A (call (.ref f) us) (EP X pins σ Q) X.xe s:=by
 have r2:Vals (vs++dvs) (us++ds):=r.append hd
 have hl:(us++ds).length=ps.length:=by rw[←r2.length];exact F.len _ _ _ _ h
 refine Ig (Ut (F.run X.A X.stack s H ⟨us,[]⟩ (us++ds) (vs++dvs) Q E hr I.env0 (hb s us I.kIn hl) r2 h) fun r s' hq=>?_)
 cases r with
 | error e=>exact hx pins σ H s e s' I hq
 | ok fl =>
   cases fl with
   | ret u=>exact I.after hq
   | next=>exact False.elim hq
   | brk=>exact False.elim hq
   | cont=>exact False.elim hq
theorem zZN (F:FnOk X.prog X.w X.K X.mg X.base CX k f fd ps sp)(hr:Room k X.A)(hg:Gl X x)(hm:X.mg x=some (.ref f))(hk:PySem.W.keepIn X.K (.ref f)=true)(hb:Binds X.K fd ps ds)(hd:Vals dvs ds)(hx:lV CX X E)
   (ha:PA X (e::es) t) (hdb:(x==("__debug__":Str))=false:=by decide) (he:starEach (e::es) X.env=(false,eval e X.env)::starEach es X.env:=by rfl) (hpl:(backTo pos (starEach es X.env)).any (·.1)=false:=by rfl) :
   PE X (.Call (.Name x p) (e::es) [] pos) (zKY sp dvs E t):=by
 intro pins s σ H Q I h
 refine Rh (iG I hg hm ?_ hdb)
 refine Uy (h₀:=X.base) I.ok.mod.kin hk (thn (ha pos pins s σ H _ I h) fun us s1 ⟨vs,H1,I1,r,q⟩=>⟨I1.kIn,?_⟩) he hpl
 exact zMn F hr hb hd hx I1 r q
structure Mk (K:PySem.W.Frag)(C f:Addr):Prop where
 makes:PySem.W.makesIn K C=true
 init:PySem.W.findIn K (.ref C) "__init__"=some (some (.ref f))
 fn:PySem.W.isFn K (.ref f)=true
 kp:PySem.W.keepIn K (.ref C)=true
theorem zPM {pins:List (Addr×Obj)}{σ:St}{H:Hp}{s:Shared}{Q:VK}{us:List Value}{vs:List V}(M:Mk X.K C f)(F:FnOk X.prog X.w X.K X.mg X.base CX k f fd ps sp)(hr:Room (k+1) X.A)(hb:Binds X.K fd ps ds)(hd:Vals dvs ds)
   (hx:lV CX X E) (I:Inv X pins σ H s) (r:Vals vs us)
   (h:∀x dx,H x=none->H dx=none->dx≠x->sp (.ref x::(vs++dvs)) (upd (upd H dx (.own x)) x (.ins C dx [])) (fun v H2=>v = .non/\Q (.ref x) H2) E) :
   wpAny (model X.prog X.w) X.A (call (.ref C) us) (EP X pins σ Q) X.xe s:=by
 have hq:=h (s.heap.objs.size+1) s.heap.objs.size (I.hok.fresh (Td _)) (I.hok.fresh (Qk _)) (We (Ol _))
 have I2:=Inv.made (C:=C) I
 have r2:Vals (V.ref (s.heap.objs.size+1)::(vs++dvs)) (Value.ref (s.heap.objs.size+1)::(us++ds)):=.cons rfl (r.append hd)
 have hl:(Value.ref (s.heap.objs.size+1)::us++ds).length=ps.length:=by
   have e:=r2.length
   rw[F.len _ _ _ _ hq] at e
   exact e.symm
 refine Ig (zPR (f:=f) I.kIn M.makes M.init (Tq.mp M.fn) (Ut (F.run _ X.stack _ _ ⟨Value.ref (s.heap.objs.size+1)::us,[]⟩ (Value.ref (s.heap.objs.size+1)::(us++ds)) _ _ E (hr.make C us [])
   (I2.env0.make C us []) (hb _ (Value.ref (s.heap.objs.size+1)::us) I2.kIn hl) r2 hq) fun r s' hq'=>?_))
 cases r with
 | error e=>exact hx pins σ _ _ e s' I2 hq'
 | ok fl =>
   cases fl with
   | ret u =>
     obtain⟨v,H',I3,rv,ev,q3⟩:=I2.after hq'
     subst ev
     exact⟨rv,⟨V.ref (s.heap.objs.size+1),H',I3,rfl,q3⟩⟩
   | next=>exact False.elim hq'
   | brk=>exact False.elim hq'
   | cont=>exact False.elim hq'
theorem zNu (M:Mk X.K C f)(F:FnOk X.prog X.w X.K X.mg X.base CX k f fd ps sp)(hr:Room (k+1) X.A)(hg:Gl X x)(hm:X.mg x=some (.ref C))(hb:Binds X.K fd ps ds)(hd:Vals dvs ds)(hx:lV CX X E)
   (ha:PA X (e::es) t) (hdb:(x==("__debug__":Str))=false:=by decide) (he:starEach (e::es) X.env=(false,eval e X.env)::starEach es X.env:=by rfl) (hpl:(backTo pos (starEach es X.env)).any (·.1)=false:=by rfl) :
   PE X (.Call (.Name x p) (e::es) [] pos) (zKF C sp dvs E t):=by
 intro pins s σ H Q I h
 refine Rh (iG I hg hm ?_ hdb)
 refine Uy (h₀:=X.base) I.ok.mod.kin M.kp (thn (ha pos pins s σ H _ I h) fun us s1 ⟨vs,H1,I1,r,q⟩=>⟨I1.kIn,?_⟩) he hpl
 exact zPM M F hr hb hd hx I1 r q
end
section
variable {X:Cx} {CX:CXT} {k:Nat} {f C:Addr} {fd:FuncData} {ps ks:List Str} {sp:Sp} {E:XK} {x m:Str} {p pos apos kpos:Pos} {e o:Expr} {es:List Expr} {kws:List Keyword} {te ta:TE} {t tk:TA} {nm:Option Str}
structure KBinds (K:PySem.W.Frag)(fd:FuncData)(ps ks:List Str)(g:List Value->List Value->List Value)(gV:List V->List V->List V):Prop where
 to:∀(s:Shared) (us ws:List Value),K.In s.heap->(g us ws).length=ps.length->BindsTo s fd ⟨us,ks.zip ws⟩ (ps.zip (g us ws))
 rel:∀ {vs:List V} {us:List Value} {zs:List V} {ws:List Value},Vals vs us->Vals zs ws->Vals (gV vs zs) (g us ws)
variable {g:List Value->List Value->List Value} {gV:List V->List V->List V}
end
structure FnScope (N P:List Str)(sc:Scope):Prop where
 kind:sc.kind = .function
 co:sc.isCoroutine=false
 gen:sc.isGenerator=false
 nd:N.Nodup
 pre:N.take P.length=P
 par:∀x∈P,sc.names.lookup x=some .local∨sc.names.lookup x=some .cell
 nofree:∀y∈sc.names,y.2 ≠ .free
theorem zXm {kindOf:Str->Option NameKind}{x:Str}:∀ {binds:List (Str×Value)} {m:Str->Option Value},(∀v,(x,v)∉binds)->bindL kindOf binds m x=m x
 | [],_,_=>rfl
 | (n,v)::r,m,h=>by
   unfold bindL
   rw[zXm fun w hw=>h w (Qd _ hw)]
   split
   · have:x≠n:=by rintro rfl;exact h v Qh
     simp[this]
   · rfl
theorem zXI {kindOf:Str->Option NameKind}{x:Str}:∀ {binds:List (Str×Value)} {m:Str->Option Value},(∀v,(x,v)∉binds)->bindC kindOf binds m x=m x
 | [],_,_=>rfl
 | (n,v)::r,m,h=>by
   unfold bindC
   rw[zXI fun w hw=>h w (Qd _ hw)]
   split
   · rfl
   · have:x≠n:=by rintro rfl;exact h v Qh
     simp[this]
theorem zX7 {kindOf:Str->Option NameKind}{x:Str}{v:Value}:∀ {P:List Str} {vs:List Value} {i:Nat} {m:Str->Option Value},P.Nodup->P[i]?=some x->vs[i]?=some v->kindOf x=some .local ->
   bindL kindOf (P.zip vs) m x=some v
 | [],_,_,_,_,h,_,_=>by simp at h
 | _::_,[],_,_,_,_,h,_=>by simp at h
 | p::P,w::vs,0,m,nd,h1,h2,hk=>by
   simp at h1 h2;subst h1;subst h2
   show bindL kindOf ((p,w)::P.zip vs) m p=_
   unfold bindL
   rw[zXm fun v hv=>(Yx.mp nd).1 (Ox hv).1,Qx hk]
   simp
 | p::P,w::vs,i+1,m,nd,h1,h2,hk=>by
   show bindL kindOf ((p,w)::P.zip vs) m x=_
   unfold bindL
   exact zX7 (i:=i) (Yx.mp nd).2 (by simpa using h1) (by simpa using h2) hk
theorem zXx {kindOf:Str->Option NameKind}{x:Str}{v:Value}:∀ {P:List Str} {vs:List Value} {i:Nat} {m:Str->Option Value},P.Nodup->P[i]?=some x->vs[i]?=some v->kindOf x≠some .local ->
   bindC kindOf (P.zip vs) m x=some v
 | [],_,_,_,_,h,_,_=>by simp at h
 | _::_,[],_,_,_,_,h,_=>by simp at h
 | p::P,w::vs,0,m,nd,h1,h2,hk=>by
   simp at h1 h2;subst h1;subst h2
   show bindC kindOf ((p,w)::P.zip vs) m p=_
   unfold bindC
   rw[zXI fun v hv=>(Yx.mp nd).1 (Ox hv).1,Wy hk]
   simp
 | p::P,w::vs,i+1,m,nd,h1,h2,hk=>by
   show bindC kindOf ((p,w)::P.zip vs) m x=_
   unfold bindC
   exact zXx (i:=i) (Yx.mp nd).2 (by simpa using h1) (by simpa using h2) hk
def oG (N:List Str)(vs:List V):St:=vs.map some++List.replicate (N.length - vs.length) none
def kX (CX:CXT)(P:Program)(w:World)(K:PySem.W.Frag)(mg:Str->Option Value)(base:Heap)(N:List Str)(qual:Str)(scope:Scope)(f:Addr)(cd:Value)(A:Around)(outer:List Env)(s:Shared)(H:Hp)(E:XK):Cx where
 prog:=P
 w:=w
 K:=K
 mg:=mg
 base:=base
 A:=A.deeper (envOfC qual scope s.heap.objs.size f cd)
 N:=N
 s₀:=s
 H₀:=H
 env:=envOfC qual scope s.heap.objs.size f cd
 outer:=outer
 stack:=envOfC qual scope s.heap.objs.size f cd::outer
 ex:=[]
 calm:=true
 fn:=fun _=>true
 pn:=[]
 xe:=fun e s'=>wpAny (model P w) (A.deeper (envOfC qual scope s.heap.objs.size f cd)) (leaving (envOfC qual scope s.heap.objs.size f cd) e) (fun _ s''=>CX outer H s E e s'') (fun e' s''=>CX outer H s E e' s'') s'
theorem zVF {sc:Scope}{n:Nat}{x:Str}(h:sc.names.lookup x=some .cell):∃c,(cellsFrom n sc.names []).lookup x=some c:=by
 have q:=PySem.W.cellsFrom_some sc.names n [] (.inl h)
 exact Tw.mp q
theorem zRK {CX:CXT}{P:Program}{w:World}{K:PySem.W.Frag}{mg:Str->Option Value}{base:Heap}{N ps:List Str}{qual:Str}{scope:Scope}{f:Addr}{cd:Value}{A:Around}{outer:List Env}{s s1:Shared}{H:Hp}{E:XK}{us:List Value}{vs:List V}
   (S:FnScope N ps scope) (hd:A.handled=none) (e0:Env0 P w K mg base A outer s H) (hl:vs.length=ps.length) (r:Vals vs us)
   (x:InCallC s s.heap.objs.size (bindL (envOfC qual scope s.heap.objs.size f cd).kindOf (ps.zip us) fun _=>none) (cellsFrom (s.heap.objs.size+1) scope.names []) (bindC (envOfC qual scope s.heap.objs.size f cd).kindOf (ps.zip us) fun _=>none) s1) :
   Inv (kX CX P w K mg base N qual scope f cd A outer s H E) [] (oG N vs) H s1:=by
 have hpl:ps.length<=N.length:=by have:=Rg List.length S.pre;rw[Ul] at this;omega
 obtain⟨h1,tk,rfl,hk⟩:=x.done
 have noA:∀b:Addr,b∉(kX CX P w K mg base N qual scope f cd A outer s H E).ex:=fun b z=>absurd (show b∈([]:List Addr) from z) (by simp)
 refine⟨⟨e0.mod,S.kind,rfl,rfl,Qk _,fun y z c h1 h2=>?_,fun y hy=>?_,fun y c _ h=>?_,fun _=>hd,Around.frames_deeper e0.frames,.inr ⟨rfl,rfl⟩,fun b z=>absurd z (noA b),e0.bs,e0.bsz,fun b _ _=>noA b,fun b z=>absurd z (noA b),e0.funs,e0.frf⟩,
   rfl,e0.bare,Un.kept hk,⟨_,x.toInCall.ns,fun i y v h1 h2 h3=>?_⟩,fun y c h=>⟨_,x.cell y c h⟩,e0.hok.fresh (Qk _),fun y c h=>?_,fun p hp=>absurd (show p∈([]:List (Addr×Obj)) from hp) (by simp),e0.hok.kept hk,?_⟩
 · exact name_of_addr x.apart (En h1) (En h2)
 · have hy:scope.names.lookup y=some .cell∨scope.names.lookup y=some .free:=hy
   rcases hy with hy | hy
   · exact zVF hy
   · exact absurd rfl (S.nofree _ (En hy))
 · exact Wd (x.above y c (En h))
 · have hi:i < vs.length:=by
     unfold oG at h2
     by_cases hi:i < vs.length
     · exact hi
     · rw[Es (by simpa using hi)] at h2
       rw[Ry] at h2
       split at h2<;>cases h2
   have ha:vs[i]?=some v:=by
     unfold oG at h2
     rw[Rw (by simpa using hi),Wu] at h2
     cases e:vs[i]? with
     | none=>rw[e] at h2;cases h2
     | some a=>rw[e] at h2;cases h2;rfl
   obtain⟨u,hu,rv⟩:=r.get ha
   have hp:ps[i]?=some y:=by
     rw[←S.pre,List.getElem?_take_of_lt (by omega)];exact h1
   have ndP:ps.Nodup:=by rw[←S.pre];exact S.nd.sublist (List.take_sublist _ _)
   refine⟨u,rv,?_⟩
   rcases S.par y (Tz hp) with k | k
   · exact .inl ⟨k,zX7 ndP hp hu k⟩
   · obtain⟨c,e⟩:=zVF (n:=s.heap.objs.size+1) k
     refine .inr ⟨.inl k,c,e,?_⟩
     have q:=x.cell y c e
     rw[zXx ndP hp hu (by show scope.names.lookup y≠_;rw[k];decide)] at q
     exact q
 · exact e0.hok.fresh (Wd (x.above y c (En h)))
 · unfold oG
   show _=N.length
   rw[Qb,Qg,Yj]
   omega
theorem zMI {CX:CXT}{P:Program}{w:World}{K:PySem.W.Frag}{mg:Str->Option Value}{base:Heap}{k:Nat}{f:Addr}{name qual:Str}{params:Arguments}{body:List Stmt}{scope:Scope}{dV kV doc pm cdv ct oc:Value}{an od:Option Addr}
   {osl:Array (Option Value)} {N ps:List Str} {sp:Sp} (lk:K.lookup f=some ⟨oc,od,.func (PySem.W.fnOf name qual params body scope dV kV doc pm an cdv ct),osl⟩) (hcd:PySem.W.codeIn K cdv qual=true) (S:FnScope N ps scope)
   (len:∀vs H Q E,sp vs H Q E->vs.length=ps.length)
   (hbody:∀(A:Around) (outer:List Env) (s:Shared) (H:Hp) (vs:List V) (Q:VK) (E:XK),Room k (A.deeper (envOfC qual scope s.heap.objs.size f cdv))->sp vs H Q E ->
     ∃t,PSs (kX CX P w K mg base N qual scope f cdv A outer s H E) body t/\t { nx:=fun _ H'=>Q .non H',rt:=Q } (oG N vs) H) :
   FnOk P w K mg base CX (k+1) f (PySem.W.fnOf name qual params body scope dV kV doc pm an cdv ct) ps sp:=by
 refine⟨len,fun A outer s H args us vs Q E hr e0 hb r hsp=>?_⟩
 have hl:=len _ _ _ _ hsp
 have KX:K.In s.heap:=e0.mod.kin.keeps fun b o e=>(e0.bs b o e).1
 have lim:s.heap.NoLimit:=e0.mod.nolimit.keeps fun b o e=>(e0.bs b o e).1
 have hkind:∀y∈ps.zip us,scope.names.lookup y.1=some .local∨(scope.names.lookup y.1=some .cell/\((cellsFrom (s.heap.objs.size+1) scope.names []).lookup y.1).isSome=true):=fun⟨n,v⟩ hy=>by
   rcases S.par n (Ox hy).1 with q | q
   · exact .inl q
   · exact .inr ⟨q,PySem.W.cellsFrom_some _ _ _ (.inl q)⟩
 refine codeAny_call_function hr.depth (KX _ _ lk) rfl S.co S.gen rfl (PySem.W.codeRec_of KX hcd) (hb _ _ _ _ ?_)
 refine wpAny_newFunctionEnv_cells S.kind hkind fun env he s1 x=>?_
 subst he
 refine⟨lim.keeps x.toInCall.keep,codeAny_func ?_⟩
 obtain⟨t,ht,hq⟩:=hbody A outer s H vs Q E (hr.deeper _) hsp
 have I:Inv (kX CX P w K mg base N qual scope f cdv A outer s H E) [] (oG N vs) H s1:=zRK S hr.hd e0 hl r x
 refine Rp (ht [] s1 (oG N vs) H _ I hq) (fun fl s' hs=>?_) fun e s' hs=>hs
 have fin:∀ {σ':St} {H':Hp} {v:V} {u:Value},Inv (kX CX P w K mg base N qual scope f cdv A outer s H E) [] σ' H' s'->RelV v u->Q v H'->CE outer P w H s Q u s' :=
   fun {σ' H' v u} J rv q=>⟨v,H',J.os,J.bare,J.base,J.hok,rv,q⟩
 cases fl with
 | ret u =>
   obtain⟨v,σ',H',J,rv,q⟩:=hs
   exact fin J rv q
 | next =>
   obtain⟨σ',H',J,q⟩:=hs
   exact fin (v:=V.non) (u:=Value.none) J rfl q
 | brk =>
   obtain⟨_,_,_,q⟩:=hs
   exact False.elim q
 | cont =>
   obtain⟨_,_,_,q⟩:=hs
   exact False.elim q
section
variable {X:Cx} {x:Str} {p pos:Pos} {e:Expr} {es:List Expr} {t:TA} {id T:String} {r:List V->Hp->VK->Prop}
def tCB (r:List V->Hp->VK->Prop)(t:TA):TE:=fun σ H Q=>t σ H fun vs H1=>r vs H1 Q
theorem rJ (hc:CallR X (.builtin id) r)(hg:Gl X x)(hm:X.mg x=none)(hv:bootBuiltins x=some (.builtin id))(ha:PA X (e::es) t)(hn:x≠"__name__":=by decide)(hdb:(x==("__debug__":Str))=false:=by decide)
   (he:starEach (e::es) X.env=(false,eval e X.env)::starEach es X.env:=by rfl) (hpl:(backTo pos (starEach es X.env)).any (·.1)=false:=by rfl):PE X (.Call (.Name x p) (e::es) [] pos) (tCB r t):=by
 intro pins s σ H Q I h
 refine Rh (nS I hg hm hv ?_ hn hdb)
 exact PyProof.Rows.callWith_builtin1 (thn (ha pos pins s σ H _ I h) fun us s1 ⟨vs,H1,I1,r1,q1⟩=>hc pins s1 σ H1 vs us Q I1 r1 q1) he hpl
theorem qC (hc:CallR X (.type T) r)(hg:Gl X x)(hm:X.mg x=none)(hv:bootBuiltins x=some (.type T))(ha:PA X (e::es) t)(hn:x≠"__name__":=by decide)(hdb:(x==("__debug__":Str))=false:=by decide)
   (he:starEach (e::es) X.env=(false,eval e X.env)::starEach es X.env:=by rfl) (hpl:(backTo pos (starEach es X.env)).any (·.1)=false:=by rfl):PE X (.Call (.Name x p) (e::es) [] pos) (tCB r t):=by
 intro pins s σ H Q I h
 refine Rh (nS I hg hm hv ?_ hn hdb)
 exact Ew (thn (ha pos pins s σ H _ I h) fun us s1 ⟨vs,H1,I1,r1,q1⟩=>hc pins s1 σ H1 vs us Q I1 r1 q1) he hpl
end
end L2
namespace HT
open PySem PyProof.Rows
section
open PySem.SeqAt
open PySem.AutoSeq1 (wpAny_loadPart')
open PySem.MeetsSeq PySem.MeetsSeq2 PySem.MeetsSeq3
end
section
variable {prog:Program} {w:World} {A:Around} {E:Value->Shared->Prop} {s:Shared}
def sIx (n d:Nat):Option Int->Nat
 | none=>d
 | some v=>if v < 0 then(v+(n:Int)).toNat else min v.toNat n
end
end HT
namespace L2
open PySem PySem.Spec PyProof.Rows
abbrev TO:=St->Hp->(Option Int->Hp->Prop)->Prop
def PO (X:Cx)(e:Option Expr)(t:TO):Prop :=
 ∀(pins:List (Addr×Obj)) (s:Shared) (σ:St) (H:Hp) (Q:Option Int->Hp->Prop),Inv X pins σ H s->t σ H Q ->
   wpAny (model X.prog X.w) X.A (evalPart e X.env) (fun u s'=>∃o H',Inv X pins σ H' s'/\IsPart u o/\Q o H') X.xe s
def zN8:TO:=fun _ H Q=>Q none H
def zLb (t:TE):TO:=fun σ H Q=>t σ H fun x H1=>∃i,x = .int i/\Q (some i) H1
theorem zUw {ns:List Int}:∀ {us:List Value},Vals (ns.map V.int) us->IntsAre us ns:=by
 induction ns with
 | nil=>intro us r;rw[Ro] at r;cases r;exact .nil
 | cons n ns ih =>
   intro us r
   rw[Qj] at r
   cases r with
   | cons r1 r2 =>
     obtain⟨t,e⟩:=r1
     subst e
     exact .cons n t (ih r2)
section
variable {X:Cx} {e:Expr} {te:TE} {lo hi:Option Expr} {tl th:TO} {pos p2:Pos}
theorem zNX:PO X none zN8:=by
 intro pins s σ H Q I h
 rw[Ot]
 exact Qo ⟨none,H,I,.none,h⟩
theorem zO9 (h:PE X e te):PO X (some e) (zLb te):=by
 intro pins s σ H Q I hw
 rw[evalPart_some]
 refine thn (h pins s σ H _ I hw) fun u s1 ⟨x,H1,I1,r1,q1⟩=>?_
 obtain⟨i,rfl,q⟩:=q1
 obtain⟨t,rfl⟩:=r1
 exact⟨some i,H1,I1,.int i t,q⟩
def SlR (X:Cx)(r:V->Option Int->Option Int->Hp->VK->Prop):Prop :=
 ∀(pins:List (Addr×Obj)) (s:Shared) (σ:St) (H:Hp) (x:V) (v vl vu:Value) (lo hi:Option Int) (sl:Addr) (Q:VK),Inv X pins σ H s->RelV x v->s.heap.IsSliceOf sl vl vu .none->IsPart vl lo->IsPart vu hi->r x lo hi H Q ->
   ∃T id,typeLookup (.type T) "__getitem__"=pure (some (.builtin id))/\s.TypeIs v T/\wpAny (model X.prog X.w) X.A (getItem v (.ref sl)) (EP X pins σ Q) X.xe s
def tSl (r:V->Option Int->Option Int->Hp->VK->Prop)(te:TE)(tl th:TO):TE:=fun σ H Q=>te σ H fun x H1=>tl σ H1 fun l H2=>th σ H2 fun u H3=>r x l u H3 Q
theorem zP9 {r:V->Option Int->Option Int->Hp->VK->Prop}(hr:SlR X r)(he:PE X e te)(hl:PO X lo tl)(hu:PO X hi th):PE X (.Subscript e (.Slice lo hi none p2) pos) (tSl r te tl th):=by
 intro pins s σ H Q I h
 refine Subscript_ (thn (he pins s σ H _ I h) fun v s1 ⟨x,H1,I1,r1,q1⟩=>?_)
 refine wpAny_Slice (thn (hl pins s1 σ H1 _ I1 q1) fun vl s2 ⟨l,H2,I2,pl,q2⟩=>thn (hu pins s2 σ H2 _ I2 q2) fun vu s3 ⟨u,H3,I3,pu,q3⟩=>?_)
 rw[Ot]
 refine Qo ?_
 have I4:Inv X pins σ H3 { s3 with heap:=s3.heap.push { cls:=.type "slice",data:=.fields #[vl,vu,.none] } }:=I3.kept (t':=s3.toks) fun b ob q=>Qe _ q
 obtain⟨T,id,hT,ht,hg⟩:=hr pins { s3 with heap:=s3.heap.push { cls:=.type "slice",data:=.fields #[vl,vu,.none] } } σ H3 x v vl vu l u s3.heap.objs.size Q I4 r1 (Heap.IsSliceOf.new ..) pl pu q3
 show wpAny (model X.prog X.w) X.A (subscriptTail e (.Slice lo hi none p2) v (.ref s3.heap.objs.size)) (EP X pins σ Q) X.xe { s3 with heap:=s3.heap.push { cls:=.type "slice",data:=.fields #[vl,vu,.none] } }
 exact tail_any (ops:=[.ref s3.heap.objs.size,v]) ht hT hg (by with_unfolding_all rfl)
def zR4 (xs:List V)(lo hi:Option Int):List V:=(xs.drop (HT.sIx xs.length 0 lo)).take (HT.sIx xs.length xs.length hi - HT.sIx xs.length 0 lo)
theorem zUK (xs:List V)(lo hi:Option Int):(zR4 xs lo hi).length<=xs.length:=by
 unfold zR4
 rw[Ul,List.length_drop]
 omega
theorem Vals.nil_iff {xs:List V}{us:List Value}(r:Vals xs us):us=[]↔xs=[]:=by
 cases r with
 | nil=>simp
 | cons _ _=>simp
end
def ixN (n:Nat)(i:Int):Option Nat:=if 0<=i then(if i < n then some i.toNat else none) else if -(n:Int)<=i then some (i+n).toNat else none
def atI {α:Type}(xs:List α)(i:Int):Option α:=(ixN xs.length i).bind fun j=>xs[j]?
theorem zXb {n:Nat}{i:Int}{j:Nat}(h:ixN n i=some j):seqIndex? i n=some j/\j < n /\ -(n:Int)<=i/\i < n:=by
 unfold ixN at h
 by_cases h0:0<=i
 · rw[Qx h0] at h
   by_cases h1:i < n
   · rw[Qx h1] at h
     have e:i.toNat=j:=Wp h
     exact⟨by rw[seqIndex_of h0 h1,e],by omega,by omega,h1⟩
   · rw[Wy h1] at h;cases h
 · rw[Wy h0] at h
   by_cases h1 : -(n:Int)<=i
   · rw[Qx h1] at h
     have e:(i+n).toNat=j:=Wp h
     exact⟨by rw[seqIndex_neg (by omega) h1,e],by omega,h1,by omega⟩
   · rw[Wy h1] at h;cases h
theorem zW2 {α:Type}{xs:List α}{i:Int}{v:α}(h:atI xs i=some v):∃j,seqIndex? i xs.length=some j/\xs[j]?=some v/\j < xs.length /\ -(xs.length:Int)<=i/\i < xs.length:=by
 unfold atI at h
 cases e:ixN xs.length i with
 | none=>rw[e] at h;cases h
 | some j =>
   rw[e] at h
   obtain⟨h1,h2,h3,h4⟩:=zXb e
   exact⟨j,h1,h,h2,h3,h4⟩
theorem zNQ {α:Type}{xs:List α}{j:Nat}{v:α}(h:xs[j]?=some v):atI xs (j:Int)=some v:=by
 have hj:j < xs.length:=(Ql.mp h).1
 have e:ixN xs.length (j:Int)=some j:=by
   unfold ixN
   rw[Qx (by omega),Qx (by omega)];simp
 unfold atI;rw[e];exact h
def aF (b:Expr):Prop:=∀o i,subscripted b false o i=operate [o,i] (getItem o i)
def IxR (X:Cx)(r:R2):Prop :=
 ∀(value slice:Expr) (pins:List (Addr×Obj)) (s:Shared) (σ:St) (H:Hp) (x y:V) (v u:Value) (Q:VK),Inv X pins σ H s->RelV x v->RelV y u->r x y H Q ->
   subscripted slice false v u=operate [v,u] (getItem v u)->wpAny (model X.prog X.w) X.A (subscriptTail value slice v u) (EP X pins σ Q) X.xe s
def MtR (X:Cx)(id:String)(r:V->List V->Hp->VK->Prop):Prop :=
 ∀(pins:List (Addr×Obj)) (s:Shared) (σ:St) (H:Hp) (x:V) (xs:List V) (v:Value) (us:List Value) (Q:VK),Inv X pins σ H s->RelV x v->Vals xs us->r x xs H Q ->
   wpAny (model X.prog X.w) X.A (call (.builtin id) (v::us)) (EP X pins σ Q) X.xe s
section
variable {X:Cx} {a b:Expr} {ta tb:TE} {pos:Pos}
theorem IxR.or {r r':R2}(h:IxR X r)(h':IxR X r'):IxR X (fun x y H Q=>r x y H Q∨r' x y H Q):=by
 intro value slice pins s σ H x y v u Q I rx ry q hs
 rcases q with q | q
 · exact h value slice pins s σ H x y v u Q I rx ry q hs
 · exact h' value slice pins s σ H x y v u Q I rx ry q hs
theorem zQM {r:R2}(hr:IxR X r)(ha:PE X a ta)(hb:PE X b tb)(hs:aF b):PE X (.Subscript a b pos) (tOp r ta tb):=by
 intro pins s σ H Q I h
 exact Subscript_ (zLG ha hb I h fun v u s2 x y H2 I2 rx ry q=>hr a b pins s2 σ H2 x y v u Q I2 rx ry q (hs _ _))
def zLi (K:PySem.W.Frag):R2:=fun x y H Q=>∃p xs i v,x = .ref p/\y = .int i/\SqL K H p xs/\atI xs i=some v/\Q v H
def zLd (K:PySem.W.Frag):R2:=fun x y H Q=>∃p xs i v,x = .ref p/\y = .int i/\SqT K H p xs/\atI xs i=some v/\Q v H
def zK5:R2:=fun x y H Q=>∃z i c,x = .str z/\y = .int i/\z.length<=sizeLine/\atI z.cps.toList i=some c/\Q (.str ⟨#[c]⟩) H
theorem zSy:IxR X (zLi X.K):=by
 intro value slice pins s σ H x y v u Q I rx ry h hs
 obtain⟨p,xs,i,z,rfl,rfl,hq,he,q⟩:=h
 cases rx
 obtain⟨t,rfl⟩:=ry
 obtain⟨its,r,pl,hz⟩:=I.list hq
 obtain⟨j,h1,h2,h3,h4,h5⟩:=zW2 he
 obtain⟨w,ew,rw'⟩:=r.get h2
 have hl:=r.length
 have hn:=cP
 have fin:EP X pins σ Q w s:=⟨z,H,I,rw',q⟩
 by_cases h0:0<=i
 · have hj:i.toNat=j:=by
     rw[seqIndex_of h0 h5] at h1
     exact Wp h1
   exact item_listR pl.isList h0 (by omega) (by rw[hj];simpa using ew) fin hs
 · have hj:(i+(its.toArray.size:Int)).toNat=j:=by
     rw[seqIndex_neg (by omega) h4] at h1
     rw[Qs,←hl]
     exact Wp h1
   exact subscriptTail_builtinR (x:=w) pl.isList.typeIs slot_list_getitem.lookup
     (wpAny_getItem_list_neg (Q:=fun r s'=>r=w/\EP X pins σ Q r s') pl.isList (by omega) (by rw[Qs]<;>omega) (by omega) (by rw[hj];simpa using ew) ⟨rfl,fin⟩) hs
theorem zMu:IxR X (zLd X.K):=by
 intro value slice pins s σ H x y v u Q I rx ry h hs
 obtain⟨p,xs,i,z,rfl,rfl,hq,he,q⟩:=h
 cases rx
 obtain⟨t,rfl⟩:=ry
 obtain⟨its,r,pl,hz⟩:=I.tuple hq
 obtain⟨j,h1,h2,h3,h4,h5⟩:=zW2 he
 obtain⟨w,ew,rw'⟩:=r.get h2
 have hl:=r.length
 have hn:=cP
 have fin:EP X pins σ Q w s:=⟨z,H,I,rw',q⟩
 exact subscriptTail_builtinR (x:=w) pl.typeIs slot_tuple_getitem.lookup
   (getItem_tuple (j:=j) (Q:=fun r s'=>r=w/\EP X pins σ Q r s') pl (by omega) (by omega) (by rw[Qs,←hl];exact h1) (by simpa using ew) ⟨rfl,fin⟩) hs
theorem zL3:IxR X zK5:=by
 intro value slice pins s σ H x y v u Q I rx ry h hs
 obtain⟨z,i,c,rfl,rfl,hz,he,q⟩:=h
 obtain⟨t,rfl⟩:=rx
 obtain⟨t',rfl⟩:=ry
 obtain⟨j,h1,h2,h3,h4,h5⟩:=zW2 he
 have hl:z.cps.toList.length=z.length:=by simp[Str.length]
 rw[hl] at h1 h4 h5
 have hn:=cP
 exact tail_any (Ih s z t) slot_str_getitem.lookup (getItem_str (c:=c) (by
   have e1:decide (i < -(2^63:Int))=false:=Qf (by omega)
   have e2:decide (i≥2^63)=false:=Qf (by omega)
   rw[e1,e2,Bool.or_false]) (by rw[h1];simpa using h2) ⟨.str ⟨#[c]⟩,H,I.tok _,⟨_,rfl⟩,q⟩) hs
def rIx (K:PySem.W.Frag):R2:=fun x y H Q=>zLi K x y H Q∨zLd K x y H Q∨zK5 x y H Q
theorem zL0:IxR X (rIx X.K):=zSy.or (zMu.or zL3)
theorem zTH (its:List Value)(n j:Nat)(u:Value):Obj.mapSeq (·.setIfInBounds j u) { cls:=.type "list",data:=.seq its.toArray n }={ cls:=.type "list",data:=.seq (its.set j u).toArray n }:=by
 simp[Obj.mapSeq]
theorem Inv.lst {pins:List (Addr×Obj)}{σ:St}{H:Hp}{s:Shared}{p:Addr}{xs:List V}(I:Inv X pins σ H s)(h:H p=some (.lst xs)) :
   ∃(its:List Value) (n:Nat),Vals xs its/\s.heap.get? p=some { cls:=.type "list",data:=.seq its.toArray n }/\xs.length<=sizeLine:=by
 obtain⟨z,its,n,r,e⟩:=I.hok p _ h
 exact⟨its,n,r,e,z⟩
theorem Inv.lstUpd {pins:List (Addr×Obj)}{σ:St}{H:Hp}{s:Shared}{p:Addr}{xs ys:List V}{its its':List Value}{n n':Nat}{f:Obj->Obj}(I:Inv X pins σ H s)(h:H p=some (.lst xs))
   (ho:s.heap.get? p=some { cls:=.type "list",data:=.seq its.toArray n }) (hf:f { cls:=.type "list",data:=.seq its.toArray n }={ cls:=.type "list",data:=.seq its'.toArray n' }) (r:Vals ys its') (hz:ys.length<=sizeLine) (t:Nat) :
   Inv X pins σ (upd H p (.lst ys)) { s with heap:=s.heap.update p f,toks:=t }:=by
 have e:(s.heap.update p f).get? p=some { cls:=.type "list",data:=.seq its'.toArray n' }:=by
   rw[Wf f ho (by rw[hf]<;>rfl),hf]
 refine I.write (x:=p) (e:=p) (by rw[h];trivial) (.inl rfl) (fun b u hb q=>(Wz _ _ (Ne.symm hb)).trans q) ⟨_,e⟩ ?_
 exact⟨hz,its',n',r,e⟩
def zK6:V->V->V->Hp->(Hp->Prop)->Prop:=fun o i v H Q=>∃p xs k j,o = .ref p/\i = .int k/\H p=some (.lst xs)/\ixN xs.length k=some j/\Q (upd H p (.lst (xs.set j v)))
theorem zQC:zLH X zK6:=by
 intro pins s σ H o i v ov iv u Q I ro ri rv h
 obtain⟨p,xs,k,j,rfl,rfl,hp,hj,q⟩:=h
 cases ro
 obtain⟨t,rfl⟩:=ri
 obtain⟨its,n,r,ho,hz⟩:=I.lst hp
 obtain⟨h1,h2,h3,h4⟩:=zXb hj
 have hl:=r.length
 have hn:=cP
 have I':Inv X pins σ (upd H p (.lst (xs.set j v))) { s with heap:=s.heap.update p (Obj.mapSeq (·.setIfInBounds j u)) } :=
   I.lstUpd hp ho (zTH its n j u) (r.set rv j) (by rw[Tg];exact hz) s.toks
 by_cases h0:0<=k
 · have hk:k.toNat=j:=by
     rw[seqIndex_of h0 h4] at h1
     exact Wp h1
   exact PySem.W.ki_setAt ho h0 (by omega) (by rw[Qs,←hl];exact h4) (by rw[hk];exact⟨_,I',q⟩)
 · have hk:(k+(its.toArray.size:Int)).toNat=j:=by
     rw[seqIndex_neg (by omega) h3] at h1
     rw[Qs,←hl]
     exact Wp h1
   exact PySem.W.ki_setBack ho (by omega) (by rw[Qs,←hl];exact h3) (by omega) (by rw[hk];exact⟨_,I',q⟩)
theorem zW5 (lo hi:Option Int)(n:Nat):(sliceBounds lo hi none n).1=((HT.sIx n 0 lo:Nat):Int)/\(sliceBounds lo hi none n).2.1=((HT.sIx n n hi:Nat):Int)/\(sliceBounds lo hi none n).2.2=1:=by
 refine⟨?_,?_,rfl⟩
 · cases lo with
   | none=>simp[sliceBounds,HT.sIx]
   | some i =>
     simp only[sliceBounds,HT.sIx,Option.getD_none,show(1:Int) > 0 by decide,Tp]
     by_cases h:i < 0
     · simp only[h,Tp]<;>omega
     · simp only[h,Ta]<;>omega
 · cases hi with
   | none=>simp[sliceBounds,HT.sIx]
   | some i =>
     simp only[sliceBounds,HT.sIx,Option.getD_none,show(1:Int) > 0 by decide,Tp]
     by_cases h:i < 0
     · simp only[h,Tp]<;>omega
     · simp only[h,Ta]<;>omega
theorem zYk (its:List Value)(lo hi:Option Int):slicePick its.toArray lo hi none=((its.drop (HT.sIx its.length 0 lo)).take (HT.sIx its.length its.length hi - HT.sIx its.length 0 lo)).toArray:=by
 obtain⟨h1,h2,h3⟩:=zW5 lo hi its.toArray.size
 unfold slicePick
 rw[h1,h2,h3]
 simp only[sliceRange_one,pick_run,Qs]<;>rfl
def zKr (K:PySem.W.Frag):V->Option Int->Option Int->Hp->VK->Prop:=fun x lo hi H Q=>∃a xs,x = .ref a/\SqL K H a xs/\∀p,H p=none->Q (.ref p) (upd H p (.lst (zR4 xs lo hi)))
theorem zOe:SlR X (zKr X.K):=by
 intro pins s σ H x v vl vu lo hi sl Q I rx hs pl pu h
 obtain⟨a,xs,rfl,hx,q⟩:=h
 cases rx
 obtain⟨its,r,ht,hz⟩:=I.list hx
 have hlen:=r.length
 refine⟨"list",_,slot_list_getitem.lookup,ht.isList.typeIs,?_⟩
 refine wpAny_getItem_list_slice ht.isList hs pl pu .none (by simp) ?_ (by rw[Qs]<;>omega)
 rw[zYk,←hlen]
 refine⟨.ref s.heap.objs.size,_,I.laid (t':=s.toks) (o:=.lst (zR4 xs lo hi)) (fun b ob q=>Qe _ q) (Qk _) ?_,rfl,q _ (I.hok.fresh (Qk _))⟩
 exact⟨Wi (zUK xs lo hi) hz,_,0,(r.drop (HT.sIx xs.length 0 lo)).take (HT.sIx xs.length xs.length hi - HT.sIx xs.length 0 lo),Qa _ rfl⟩
def lA:V->Bool
 | .non=>true
 | .bl _=>true
 | .int _=>true
 | .str _=>true
 | _=>false
def eqV:V->V->Bool
 | .non,.non=>true
 | .bl a,.bl b=>a==b
 | .bl a,.int b=>(if a then 1 else 0)==b
 | .int a,.bl b=>a==(if b then 1 else 0)
 | .int a,.int b=>a==b
 | .str a,.str b=>a==b
 | _,_=>false
theorem zMs {A:Around}{s:Shared}{y x:V}{u v:Value}(ry:RelV y u)(rx:RelV x v)(fy:lA y=true)(fx:lA x=true):SeqAt.EqAt A s u v (eqV y x):=by
 cases y with
 | non =>
   cases ry
   cases x with
   | non=>cases rx;exact Yc _
   | bl b=>cases rx;exact SeqAt.EqAt.none_bool b
   | int b=>obtain⟨t,rfl⟩:=rx;exact SeqAt.EqAt.none_int b t
   | str b=>obtain⟨t,rfl⟩:=rx;exact SeqAt.EqAt.none_str b t
   | _=>exact absurd (show false=true from fx) Qc
 | bl a =>
   cases ry
   cases x with
   | non=>cases rx;exact SeqAt.EqAt.bool_none a
   | bl b=>cases rx;exact Ik a b
   | int b=>obtain⟨t,rfl⟩:=rx;exact SeqAt.EqAt.bool_int a b t
   | str b=>obtain⟨t,rfl⟩:=rx;exact SeqAt.EqAt.bool_str a b t
   | _=>exact absurd (show false=true from fx) Qc
 | int a =>
   obtain⟨t',rfl⟩:=ry
   cases x with
   | non=>cases rx;exact SeqAt.EqAt.int_none a t'
   | bl b=>cases rx;exact SeqAt.EqAt.int_bool a t' b
   | int b=>obtain⟨t,rfl⟩:=rx;exact Oy a t' b t
   | str b=>obtain⟨t,rfl⟩:=rx;exact SeqAt.EqAt.int_str a t' b t
   | _=>exact absurd (show false=true from fx) Qc
 | str a =>
   obtain⟨t',rfl⟩:=ry
   cases x with
   | non=>cases rx;exact SeqAt.EqAt.str_none a t'
   | bl b=>cases rx;exact SeqAt.EqAt.str_bool a t' b
   | int b=>obtain⟨t,rfl⟩:=rx;exact SeqAt.EqAt.str_int a t' b t
   | str b=>obtain⟨t,rfl⟩:=rx;exact SeqAt.EqAt.str_str a t' b t
   | _=>exact absurd (show false=true from fx) Qc
 | _=>exact absurd (show false=true from fy) Qc
def eqU (x:V)(u:Value):Bool:=match u with
 | .none=>eqV .non x
 | .bool b=>eqV (.bl b) x
 | .int i _=>eqV (.int i) x
 | .str z _=>eqV (.str z) x
 | _=>false
theorem zOU {x y:V}{u:Value}(r:RelV y u)(f:lA y=true):eqU x u=eqV y x:=by
 cases y with
 | non=>cases r;rfl
 | bl b=>cases r;rfl
 | int i=>obtain⟨t,rfl⟩:=r;rfl
 | str z=>obtain⟨t,rfl⟩:=r;rfl
 | _=>exact absurd (show false=true from f) Qc
theorem zVS {x:V}:∀ {xs:List V} {us:List Value},Vals xs us->xs.all lA=true->us.any (eqU x)=xs.any fun y=>eqV y x
 | _,_,.nil,_=>rfl
 | y::xs,u::us,.cons r t,f=>by
   rw[Ug,Qn] at f
   rw[List.any_cons,List.any_cons,zOU r f.1,zVS t f.2]
theorem zYx {A:Around}{s:Shared}{x:V}{v:Value}(rx:RelV x v)(fx:lA x=true):∀ {xs:List V} {us:List Value},Vals xs us->xs.all lA=true->∀u∈us,SeqAt.EqAt A s u v (eqU x u)
 | _,_,.nil,_=>fun u hu=>by cases hu
 | y::xs,u::us,.cons r t,f=>fun u' hu=>by
   rw[Ug,Qn] at f
   rcases Qz.mp hu with rfl | hu
   · rw[zOU r f.1];exact zMs r rx f.1 fx
   · exact zYx rx fx t f.2 u' hu
def inV (x:V)(xs:List V):Bool:=xs.any fun y=>eqV y x
def rIn (K:PySem.W.Frag)(neg:Bool):R2:=fun x y H Q=>∃p xs,y = .ref p/\(SqL K H p xs∨SqT K H p xs)/\lA x=true/\xs.all lA=true/\Q (.bl (if neg then !inV x xs else inV x xs)) H
theorem zSe:OpR X (compareOp .In) (rIn X.K false):=by
 intro pins s σ H x y v u Q I rx ry h
 obtain⟨p,xs,rfl,hq,fx,fs,q⟩:=h
 cases ry
 rcases hq with hq | hq
 · obtain⟨its,r,pl,hz⟩:=I.list hq
   refine SeqAt.in_listAt (eqU x) pl.isList (fun w hw=>zYx rx fx r fs w (by simpa using hw)) ⟨.bl _,H,I,rfl,?_⟩
   rw[show its.toArray.any (eqU x)=its.any (eqU x) by simp,zVS r fs]
   exact q
 · obtain⟨its,r,pl,hz⟩:=I.tuple hq
   refine SeqAt.in_tupleAt (eqU x) pl (fun w hw=>zYx rx fx r fs w (by simpa using hw)) ⟨.bl _,H,I,rfl,?_⟩
   rw[show its.toArray.any (eqU x)=its.any (eqU x) by simp,zVS r fs]
   exact q
theorem dU:CallR X (.builtin "len") (fun xs H Q=>∃p ys,xs=[.ref p]/\(SqL X.K H p ys∨SqT X.K H p ys)/\Q (.int ys.length) H):=by
 intro pins s σ H xs us Q I r h
 obtain⟨p,ys,rfl,hq,q⟩:=h
 obtain⟨u,rfl,rx⟩:=oV r
 cases rx
 have hn:=cP
 rcases hq with hq | hq
 · obtain⟨its,r',pl,hz⟩:=I.list hq
   have hlen:=r'.length
   exact Calls.call_len_list pl.isList (by simp only[Qs]<;>omega) ⟨.int ys.length,H,I.tok _,⟨s.toks+1,by rw[Qs,hlen]⟩,q⟩
 · obtain⟨its,r',pl,hz⟩:=I.tuple hq
   have hlen:=r'.length
   exact len_tuple pl (by simp only[Qs]<;>omega) ⟨.int ys.length,H,I.tok _,⟨s.toks+1,by rw[Qs,hlen]⟩,q⟩
theorem zWw:CallR X (.builtin "len") (fun xs H Q=>∃z,xs=[.str z]/\z.length<=sizeLine/\Q (.int z.length) H):=by
 intro pins s σ H xs us Q I r h
 obtain⟨z,rfl,hz,q⟩:=h
 obtain⟨u,rfl,t,rfl⟩:=oV r
 have hn:=cP
 exact len_str (by omega) ⟨.int z.length,H,I.tok _,⟨_,rfl⟩,q⟩
theorem CallR.or {f:Value}{r r':List V->Hp->VK->Prop}(h:CallR X f r)(h':CallR X f r'):CallR X f (fun xs H Q=>r xs H Q∨r' xs H Q):=by
 intro pins s σ H xs us Q I rs q
 rcases q with q | q
 · exact h pins s σ H xs us Q I rs q
 · exact h' pins s σ H xs us Q I rs q
theorem zWs:CallR X (.type "list") (fun xs H Q=>∃p ys,xs=[.ref p]/\(SqL X.K H p ys∨SqT X.K H p ys)/\∀l,H l=none->Q (.ref l) (upd H l (.lst ys))):=by
 intro pins s σ H xs us Q I r h
 obtain⟨p,ys,rfl,hq,q⟩:=h
 obtain⟨u,rfl,rx⟩:=oV r
 cases rx
 have fin:∀(its:List Value),Vals ys its->ys.length<=sizeLine->∀(h':Heap) (c':Nat),(∀b o',s.heap.get? b=some o'->h'.get? b=some o') ->
     h'.get? s.heap.objs.size=some { cls:=.type "list",dict:=none,data:=.seq its.toArray c',slots:=#[] }->EP X pins σ Q (.ref s.heap.objs.size) { s with heap:=h' }:=fun its r' hz h' c' kp e =>
   ⟨.ref s.heap.objs.size,_,I.laid (t':=s.toks) kp (Qk _) (show ObjOk X.prog X.w _ h' _ (.lst ys) from⟨hz,its,c',r',e⟩),rfl,q _ (I.hok.fresh (Qk _))⟩
 rcases hq with hq | hq
 · obtain⟨its,r',pl,hz⟩:=I.list hq
   have hlen:=r'.length
   obtain⟨o,ho,hc,n,hd⟩:=pl.isList
   exact call_list_seq p (.inl rfl) ho hc hd (fun h' c' kp e=>fin its r' hz h' c' kp e) (by simp only[Qs]<;>omega)
 · obtain⟨its,r',pl,hz⟩:=I.tuple hq
   have hlen:=r'.length
   obtain⟨o,ho,hc,n,hd⟩:=pl
   exact call_list_seq p (.inr rfl) ho hc hd (fun h' c' kp e=>fin its r' hz h' c' kp e) (by simp only[Qs]<;>omega)
theorem zYe:CallR X (.type "tuple") (fun xs H Q=>∃p ys,xs=[.ref p]/\((SqL X.K H p ys/\∀l,H l=none->Q (.ref l) (upd H l (.tup ys)))∨(SqT X.K H p ys/\Q (.ref p) H))):=by
 intro pins s σ H xs us Q I r h
 obtain⟨p,ys,rfl,h⟩:=h
 obtain⟨u,rfl,rx⟩:=oV r
 cases rx
 rcases h with⟨hq,q⟩ | ⟨hq,q⟩
 · obtain⟨its,r',pl,hz⟩:=I.list hq
   have hlen:=r'.length
   refine call_tuple_list pl.isList (fun h' kp=>?_) (by simp only[Qs]<;>omega)
   have I1:Inv X pins σ H { s with heap:=h' }:=I.kept (t':=s.toks) kp
   have I2:Inv X pins σ (upd H h'.objs.size (.tup ys)) { s with heap:=h'.push { cls:=.type "tuple",data:=.seq its.toArray } } :=
     I1.laid (t':=s.toks) (fun b o e=>Qe _ e) (Qk _) (show ObjOk X.prog X.w _ _ _ (.tup ys) from⟨hz,its,r',IsTup.new _ _⟩)
   exact⟨.ref h'.objs.size,_,I2,rfl,q _ (I1.hok.fresh (Qk _))⟩
 · obtain⟨its,r',pl,hz⟩:=I.tuple hq
   exact call_tuple_same pl ⟨.ref p,H,I,rfl,q⟩
def tyV (K:PySem.W.Frag)(T:String)(x:V)(H:Hp):Prop:=match x with
 | .str _=>T="str"
 | .int _=>T="int"
 | .ref p=>(T="list"/\∃xs,SqL K H p xs)∨(T="tuple"/\∃o,K.lookup p=some o/\o.cls = .type "tuple"/\o.dict=none) ∨
     (T="dict"/\((∃kvs,H p=some (.dK kvs))∨∃kvs,H p=some (.dT kvs)))∨(T="set"/\∃S n,H p=some (.set S n))
 | _=>False
theorem zLq {pins:List (Addr×Obj)}{σ:St}{H:Hp}{s:Shared}{T:String}{x:V}{v:Value}(I:Inv X pins σ H s)(r:RelV x v)(ty:tyV X.K T x H) :
   s.TypeIs v T/\∀a,v = .ref a->∃ob,s.heap.get? a=some ob/\ob.dict=none:=by
 cases x with
 | str z =>
   obtain⟨t,rfl⟩:=r
   cases (show T="str" from ty)
   exact⟨Ih s z t,fun _ e=>nomatch e⟩
 | int i =>
   obtain⟨t,rfl⟩:=r
   cases (show T="int" from ty)
   exact⟨Os s i t,fun _ e=>nomatch e⟩
 | ref p =>
   cases r
   rcases ty with⟨rfl,xs,hq⟩ | ⟨rfl,o,hk,hc,hd⟩ | ⟨rfl,hk⟩ | ⟨rfl,S,n,hk⟩
   · obtain⟨its,_,pl,_⟩:=I.list hq
     refine⟨pl.isList.typeIs,fun a e=>?_⟩
     cases e
     obtain⟨o,n,e,c,hd,_⟩:=pl
     exact⟨o,e,hd⟩
   · refine⟨⟨o,I.kIn p o hk,hc⟩,fun a e=>?_⟩
     cases e
     exact⟨o,I.kIn _ o hk,hd⟩
   · have z:∃o,s.heap.get? p=some o/\o.ExactDict:=by
       rcases hk with⟨kvs,hk⟩ | ⟨kvs,hk⟩
       · obtain⟨_,_,_,_,o,_,_,e,ex,_⟩:=I.hok p _ hk
         exact⟨o,e,ex⟩
       · obtain⟨_,_,_,_,o,_,_,e,ex,_⟩:=I.hok p _ hk
         exact⟨o,e,ex⟩
     obtain⟨o,e,ex⟩:=z
     refine⟨⟨o,e,ex.1⟩,fun a e2=>?_⟩
     cases e2
     exact⟨o,e,ex.2.1⟩
   · obtain⟨o,_,_,_,e,ex,_⟩:=I.hok p _ hk
     refine⟨⟨o,e,ex.1⟩,fun a e2=>?_⟩
     cases e2
     exact⟨o,e,ex.2.1⟩
 | _=>exact False.elim ty
def tBM (K:PySem.W.Frag)(T:String)(r:V->List V->Hp->VK->Prop)(to:TE)(t:TA):TE:=fun σ H Q=>to σ H fun x H1=>tyV K T x H1/\t σ H1 fun xs H2=>r x xs H2 Q
variable {o e:Expr} {es:List Expr} {to:TE} {t:TA} {name:Str} {apos cpos:Pos} {T id:String} {r:V->List V->Hp->VK->Prop}
theorem rK (pa:PlainAttrs T)(slot:Slot T name id)(hty:typeOf (.builtin id)=pure (.type "method_descriptor"))(hm:MtR X id r)(ho:PE X o to)(ha:PA X (e::es) t)
   (hbase:attributeBase o name X.env (eval o X.env)=eval o X.env:=by rfl)
   (hfew:((backTo cpos (starEach (e::es) X.env)).all (fun x => !x.1)&&(backToKw cpos (keywordEach [] X.env)).all (fun x=>x.1.isSome)
     && decide ((e::es).length+([]:List Keyword).length+(if ([]:List Keyword).isEmpty then 0 else 1) < 30))=true:=by rfl)
   (hline:(apos.endLine==cpos.line)=true:=by rfl) (hs:starEach (e::es) X.env=(false,eval e X.env)::starEach es X.env:=by rfl) (hplain:(backTo cpos (starEach es X.env)).any (·.1)=false:=by rfl) :
   PE X (.Call (.Attribute o name apos) (e::es) [] cpos) (tBM X.K T r to t):=by
 intro pins s σ H Q I h
 refine wpAny_Call_method_late hbase hfew hline rfl (thn (ho pins s σ H _ I h) fun v s1 ⟨x,H1,I1,r1,ty,q1⟩=>?_)
 obtain⟨h1,h2⟩:=zLq I1 r1 ty
 refine⟨T,id,pa,slot,hty,h1,h2,?_⟩
 have hA:=ha cpos pins s1 σ H1 _ I1 q1
 rw[hs] at hA ⊢
 refine Calls.callWith_builtin (by show(false||(backTo cpos (starEach es X.env)).any (·.1))=false;rw[hplain]<;>rfl) (Calls.evalArgs_plain ?_)
 exact thn hA fun us s2 ⟨vs,H2,I2,r2,q2⟩=>hm pins s2 σ H2 x vs v us Q I2 r1 r2 q2
end
def MtM (X:Cx)(id:String)(r:V->List V->Hp->VK->Prop):Prop :=
 ∀(pins:List (Addr×Obj)) (s:Shared) (σ:St) (H:Hp) (x:V) (xs:List V) (v:Value) (us:List Value) (Q:VK),Inv X pins σ H s->RelV x v->Vals xs us->r x xs H Q ->
   wpAny (model X.prog X.w) X.A (call (.builtin id) (v::us)) (EP X pins σ Q) X.xe s
theorem Vals.one:∀ {x:V} {us:List Value},Vals [x] us->∃u,us=[u]/\RelV x u
 | _,_,.cons r .nil=>⟨_,rfl,r⟩
theorem Vals.eraseIdx:∀ {xs:List V} {us:List Value} (i:Nat),Vals xs us->Vals (xs.eraseIdx i) (us.eraseIdx i)
 | _,_,_,.nil=>.nil
 | _,_,0,.cons _ t=>t
 | _,_,i+1,.cons r t=>.cons r (Vals.eraseIdx i t)
theorem Vals.reverse {xs:List V}{us:List Value}(h:Vals xs us):Vals xs.reverse us.reverse:=by
 induction h with
 | nil=>exact .nil
 | cons r t ih=>rw[Ej,Ej];exact Vals.append ih (.cons r .nil)
theorem Vals.rep {xs:List V}{us:List Value}(h:Vals xs us):∀k:Nat,Vals (List.replicate k xs).flatten (List.replicate k us).flatten
 | 0=>.nil
 | k+1=>by
   rw[Wj,Wj,Tl,Tl]
   exact Vals.append h (Vals.rep h k)
theorem zXE {α:Type}:∀(l:List α) (i:Nat),(l.eraseIdx i).length<=l.length
 | [],_=>Qk _
 | _::_,0=>Td _
 | _::r,i+1=>Nat.succ_le_succ (zXE r i)
theorem cF (its:List Value):∀(k:Nat) (acc:List Value),
   List.foldl (fun x1 x2=>x1++x2) acc.toArray (List.replicate k its.toArray)=(acc++(List.replicate k its).flatten).toArray
 | 0,acc=>by simp
 | k+1,acc=>by
   have e:acc.toArray++its.toArray=(acc++its).toArray:=by simp
   have e2:(acc++its)++(List.replicate k its).flatten=acc++(List.replicate (k+1) its).flatten:=by
     rw[Wj,Tl,Ra]
   rw[←e2,←cF its k (acc++its),←e,Wj,List.foldl_cons]
section
variable {X:Cx} {pins:List (Addr×Obj)} {σ:St} {H:Hp} {s:Shared} {l b:Addr} {xs ys zs:List V}
theorem Inv.lset {its its':List Value}{n:Nat}{f:Array Value->Array Value}{t':Nat}(I:Inv X pins σ H s)(hH:H l=some (.lst xs))
   (e:s.heap.get? l=some { cls:=.type "list",data:=.seq its.toArray n }) (hf:f its.toArray=its'.toArray) (hv:Vals ys its') (hz:ys.length<=sizeLine) :
   Inv X pins σ (upd H l (.lst ys)) { s with heap:=s.heap.update l (Obj.mapSeq f),toks:=t' }:=by
 have q:=PySem.IsL.update e f
 rw[hf] at q
 refine I.write (x:=l) (e:=l) (by rw[hH];exact trivial) (.inl rfl) (fun b' u hb hu=>(Wz s.heap (Obj.mapSeq f) (Ne.symm hb)).trans hu) ⟨_,q⟩ ?_
 exact⟨hz,its',_,hv,q⟩
theorem Inv.lnew {its:List Value}{t':Nat}(I:Inv X pins σ H s)(hv:Vals ys its)(hz:ys.length<=sizeLine) :
   Inv X pins σ (upd H s.heap.objs.size (.lst ys)) { s with heap:=s.heap.push { cls:=.type "list",data:=.seq its.toArray },toks:=t' } :=
 I.laid (fun _ _ q=>Qe _ q) (Qk _) ⟨hz,its,0,hv,Qa _ rfl⟩
theorem Inv.fresh (I:Inv X pins σ H s):H s.heap.objs.size=none:=I.hok.fresh (Qk _)
theorem Inv.lstM (I:Inv X pins σ H s)(hH:H l=some (.lst xs)):xs.length<=sizeLine/\∃(its:List Value) (n:Nat),Vals xs its/\xs.length=its.length/\s.heap.get? l=some { cls:=.type "list",data:=.seq its.toArray n }:=by
 obtain⟨z,its,n,r,e⟩:=I.hok l _ hH
 exact⟨z,its,n,r,r.length,e⟩
theorem zPr {n:Nat}(h:n<=sizeLine):Builtin.List.listTooLong n=false:=by
 unfold Builtin.List.listTooLong
 exact Qf (by omega)
end
section
variable {X:Cx}
def zSs:V->List V->Hp->VK->Prop:=fun x vs H Q=>∃l xs y,x = .ref l/\vs=[y]/\H l=some (.lst xs)/\xs.length < sizeLine/\Q .non (upd H l (.lst (xs++[y])))
theorem sF:MtM X "list.append" zSs:=by
 intro pins s σ H x vs v us Q I rx rv h
 obtain⟨l,xs,y,rfl,rfl,hH,hz,q⟩:=h
 cases rx
 obtain⟨u,rfl,ru⟩:=rv.one
 obtain⟨z,its,n,r,hl,e⟩:=I.lstM hH
 refine Yy F.slot_list_append ⟨_,e,rfl⟩ F.entry_list_append (F.args_list_append_2 _ _) (PySem.list_append l its.toArray n u (by rw[Qs];omega)) ⟨e,?_⟩
 refine⟨.non,_,I.lset (its':=its++[u]) hH e (by simp) (r.append (.cons ru .nil)) ?_,rfl,q⟩
 rw[Qb,Th]
 omega
def zPH:V->List V->Hp->VK->Prop:=fun x vs H Q=>∃l xs i k y,x = .ref l/\vs=[.int i]/\H l=some (.lst xs) /\ -(2^63)<=i/\i < 2^63/\seqIndex? i xs.length=some k/\xs[k]?=some y/\Q y (upd H l (.lst (xs.eraseIdx k)))
theorem zQ1:MtM X "list.pop" zPH:=by
 intro pins s σ H x vs v us Q I rx rv h
 obtain⟨l,xs,i,k,y,rfl,rfl,hH,h1,h2,hk,hy,q⟩:=h
 cases rx
 obtain⟨u,rfl,ru⟩:=rv.one
 obtain⟨t,rfl⟩:=ru
 obtain⟨z,its,n,r,hl,e⟩:=I.lstM hH
 obtain⟨w,hw,rw'⟩:=r.get hy
 refine Yy F.slot_list_pop ⟨_,e,rfl⟩ F.entry_list_pop (F.args_list_pop_2 _ _)
   (MeetsSeq.list_pop_at l its.toArray n i t k w (fitsIndex_both h1 h2) (by rw[Qs,←hl];exact hk) (by rw[←Array.getElem?_toList];exact hw) (by rw[Qs];omega)) ⟨e,?_⟩
 refine⟨y,_,I.lset (its':=its.eraseIdx k) hH e ?_ (r.eraseIdx k) ?_,rw',q⟩
 · show its.toArray.eraseIdxIfInBounds k=(its.eraseIdx k).toArray
   rw[List.eraseIdxIfInBounds_toArray]
 · have:=zXE xs k
   omega
def zJP:R2:=fun x y H Q=>∃l b xs zs,x = .ref l/\y = .ref b/\H l=some (.lst xs)/\H b=some (.lst zs)/\xs.length+zs.length<=sizeLine/\∀p,H p=none->Q (.ref p) (upd H p (.lst (xs++zs)))
theorem zLW:OpR X (binaryOp .Add) zJP:=by
 intro pins s σ H x y v u Q I rx ry h
 obtain⟨l,b,xs,zs,rfl,rfl,hH,hB,hz,q⟩:=h
 cases rx
 cases ry
 obtain⟨z,its,n,r,hl,e⟩:=I.lstM hH
 obtain⟨z2,its2,n2,r2,hl2,e2⟩:=I.lstM hB
 refine PySem.P.add_list e e2 ?_ (by rw[Qs,Qs];omega)
 have ea:its.toArray++its2.toArray=(its++its2).toArray:=by simp
 rw[ea]
 exact⟨.ref _,_,I.lnew (t':=s.toks) (r.append r2) (by rw[Qb];omega),rfl,q _ I.fresh⟩
def zKf:R2:=fun x y H Q=>∃l k xs,x = .ref l/\y = .int k/\H l=some (.lst xs) /\ -(2^63)<=k/\k < 2^63/\xs.length*k.toNat<=sizeLine /\
 ∀p,H p=none->Q (.ref p) (upd H p (.lst (List.replicate k.toNat xs).flatten))
theorem zOk {α:Type}(xs:List α)(k:Nat):(List.replicate k xs).flatten.length=k*xs.length:=by
 induction k with
 | zero=>simp
 | succ k ih=>rw[Wj,Tl,Qb,ih,Nat.succ_mul,Nat.add_comm]
theorem zLQ:OpR X (binaryOp .Mult) zKf:=by
 intro pins s σ H x y v u Q I rx ry h
 obtain⟨l,k,xs,rfl,rfl,hH,h1,h2,hz,q⟩:=h
 cases rx
 obtain⟨t,rfl⟩:=ry
 obtain⟨z,its,n,r,hl,e⟩:=I.lstM hH
 have hlen:its.toArray.size*k.toNat<=sizeLine:=by rw[Qs,←hl];exact hz
 have hcap:¬its.toArray.size*k.toNat > (2^63 - 1) / 8:=by
   have:(sizeLine:Nat)<=(2^63 - 1) / 8:=by decide
   omega
 have hfit:¬(!Builtin.List.listFitsIndex k)=true:=by
   rw[fitsIndex_both h1 h2]
   exact Qc
 have hlong:¬Builtin.List.listTooLong (its.toArray.size*k.toNat)=true:=by
   rw[zPr hlen]
   exact Qc
 have hnew:List.foldl (fun x1 x2=>x1++x2) #[] (List.replicate (if its.toArray.isEmpty=true then 0 else k.toNat) its.toArray)=(List.replicate k.toNat its).flatten.toArray:=by
   have f0:∀m:Nat,List.foldl (fun x1 x2=>x1++x2) #[] (List.replicate m its.toArray)=(List.replicate m its).flatten.toArray:=fun m=>by
     have:=cF its m []
     rw[Eo] at this
     exact this
   rw[f0]
   cases its with
   | nil=>simp
   | cons a r'=>rw[Wy (by simp)]
 refine Pw (T:="list") (U:="int") (by decide) ⟨_,e,rfl⟩ (fun s'=>Os s' k t) noFill_list_mul F.fills_int_mul F.slot_int_rmul repeat_list F.slot_int_index.lookup
   (Yy F.slot_int_rmul (Os s k t) F.entry_int_rmul (F.args_int_rmul_2 _ _) (int___rmul___int_list k t l its.toArray n)
     ⟨e,rfl,⟨_,e,rfl⟩,Yy F.slot_list_mul ⟨_,e,rfl⟩ F.entry_list_mul (F.args_list_mul_2 _ _) (AutoListH.list___mul___list_int_3 l its.toArray n k t hfit hcap hlong) ⟨e,?_⟩⟩)
 rw[hnew]
 exact⟨.ref _,_,I.lnew (t':=s.toks) (r.rep k.toNat) (by rw[zOk,Ev];exact hz),rfl,q _ I.fresh⟩
end
section
variable {prog:Program} {w:World} {A:Around} {E:Value->Shared->Prop} {s:Shared}
end
section
variable {X:Cx}
end
end L2
namespace Att
open PySem PySem.W PySem.Calls PyProof.Rows
theorem aL {P:Params}{h:Heap}:∀(ns:List Int) (vs:List Value),WellAll P h vs (ns.map WData.int)->IntsAre vs ns:=by
 intro ns
 induction ns with
 | nil =>
   intro vs w
   rw[Ro] at w
   cases w
   exact .nil
 | cons n ns ih =>
   intro vs w
   rw[Qj] at w
   cases w with
   | cons a b =>
     cases a
     exact .cons _ _ (ih _ b)
theorem zRl {l:OpenLaw}{n:Nat}(hn:l.most=some n){P:Params}{h:Heap}{args:List WData}{vals:List Value}
   (hpre:l.row.toRowW.claim.pre args=true) (hwl:WellAll P h vals args) :
   ∃a vs ns,vals=[Value.ref a]/\args=[WData.list (ns.map WData.int)]/\h.get? a=some { cls:=.type "list",data:=.seq vs.toArray }/\IntsAre vs ns/\ns.length<=n:=by
 have hsh:WShape.hasAll [] args [.list .int]=true:=(pre_splitW hpre).1
 have hc:l.pre.holds [] { args:=args }=true:=(pre_splitW hpre).2
 obtain⟨d,r,rfl,h1,h2⟩:=hasAllW_cons hsh
 obtain rfl:=hasAllW_nil h2
 obtain⟨xs,rfl,h3⟩:=hasW_list h1
 obtain⟨ns,rfl⟩:=items_int h3
 have hlen:ns.length<=n:=by
   unfold OpenLaw.pre at hc
   have h4:(WTm.not (.lt (.lit (.int (n:Int))) (.len (.arg 0)))).holds [] { args:=[.list (ns.map .int)] }=true:=by
     have h4:=(holds_andW hc).1
     rw[hn] at h4
     exact h4
   have h5:=condW_of h4 (w_not (w_lt w_lit (w_len_list (w_arg rfl))))
   rw[Qg] at h5
   refine Nat.le_of_not_lt fun q=>?_
   have q':(n:Int) < ((ns.length:Nat):Int):=by omega
   first
     | (rw[Qt q'] at h5;exact absurd h5 (by decide))
     | (simp at h5;omega)
 cases hwl with
 | cons w1 w2 =>
   cases w2
   cases w1 with
   | list ho hall=>exact⟨_,_,ns,rfl,rfl,ho,aL ns _ hall,hlen⟩
theorem zRo (l:OpenLaw)(args:List WData):l.row.toRowW.claim.post args (.bool true) args=true :=
 postW_of (r:=l.row.toRowW) (X:=(true==true))
   (show WShape.has [] (.bool true) .bool=true by first | rfl | decide | simp[WShape.has,WShape.arms,WShape.armsAll])
   (show(WTm.eq .res (.lit (.bool true))).value [] { args:=args,res:=some (.bool true),after:=args }=some (.bool (true==true)) from w_eq_bool (w_res rfl) w_lit) rfl
section
variable {prog:Program} {w:World} {A:Around} {E:Value->Shared->Prop} {s:Shared} {K:Frag}
end
end Att
namespace L2
open PySem PySem.Spec PyProof.Rows
theorem cG:∀ {vs:List Value} {ns:List Int},IntsAre vs ns->Vals (ns.map V.int) vs
 | _,_,.nil=>.nil
 | _,_,.cons n t h=>.cons ⟨t,rfl⟩ (cG h)
def zLZ (H:Hp):Prop:=∀b,H b=none∨∃o xs,H b=some (.frz o (.lst xs))
theorem zOV {P:Program}{w:World}{K:PySem.W.Frag}{mg mb:Str->Option Value}{CX:CXT}{k:Nat}{fa a:Addr}{fd:FuncData}{x:Str}{sp:Sp}{s₁:Shared}{vs:List Value}{ns:List Int}
   (KX:K.In s₁.heap) (hns:s₁.heap.Ns mainGlobals mg) (hb:s₁.heap.Ns builtinsNs mb) (hbb:∀x:Str,x≠"__name__"->mb x=bootBuiltins x) (hlim:s₁.heap.NoLimit) (hg:s₁.gens=#[])
   (ha:s₁.heap.get? a=some { cls:=.type "list",data:=.seq vs.toArray }) (hi:IntsAre vs ns) (hl:ns.length<=sizeLine) (hr:Room k callerA)
   (F:∀base:Heap,K.In base->base.Ns mainGlobals mg->FnOk P w K mg base CX k fa fd [x] sp) (hbind:∀(s:Shared) (u:Value),BindsTo s fd ⟨[u],[]⟩ [(x,u)])
   (hsp:∀H:Hp,zLZ H->SqL K H a (ns.map V.int)->sp [.ref a] H (fun v _=>v = .bl true) fun _ _ _=>False)
   (hCX:∀H e s',CX [] H s₁ (fun _ _ _=>False) e s'->False) :
   codeAny (model P w) callerA (.call (.ref fa) ⟨[.ref a],[]⟩) (fun r s'=>r = .ok (.ret (.bool true))/\OldK s₁.heap s'.heap/\s'.os=s₁.os/\AllBare s'.gens) s₁:=by
 have rv:=cG hi
 have lenV:=hi.length
 -- from an abstract heap in which nothing but the script may be tracked
 have core:∀H:Hp,zLZ H->SqL K H a (ns.map V.int)->HOk P w H s₁.heap->(∀b,H b≠none->b=a)->(H a≠none->K.lookup a=none) ->
     codeAny (model P w) callerA (.call (.ref fa) ⟨[.ref a],[]⟩) (fun r s'=>r = .ok (.ret (.bool true))/\OldK s₁.heap s'.heap/\s'.os=s₁.os/\AllBare s'.gens) s₁:=by
   intro H hO hS hok hA hK
   have base_of:∀ {b:Addr} {o:Obj},s₁.heap.get? b=some o->H b=none->(zXe s₁.heap H).get? b=some o:=fun e n=>zQb e n
   have noA:∀ {b:Addr} {o:Obj} {es:Array DictEntry} {ep:Nat},s₁.heap.get? b=some o->o.data = .dict es ep->H b=none:=fun {b o es ep} e d=>by
     cases q:H b with
     | none=>rfl
     | some u =>
       have e':b=a:=hA b (by rw[q];simp)
       subst e'
       rw[ha] at e;cases e
       have d':Data.seq vs.toArray _=Data.dict es ep:=d
       cases d'
   have nsK:∀ {b:Addr} {m:Str->Option Value},s₁.heap.Ns b m->(zXe s₁.heap H).Ns b m:=fun {b m} ⟨o,es,ep,e,d,r⟩=>⟨o,es,ep,base_of e (noA e d),d,r⟩
   have hKb:K.In (zXe s₁.heap H):=fun b o e=>base_of (KX b o e) (by
     cases q:H b with
     | none=>rfl
     | some u =>
       have e':b=a:=hA b (by rw[q];simp)
       subst e'
       rw[hK (by rw[q];simp)] at e;cases e)
   have hM:Mod K mg (zXe s₁.heap H):=⟨hKb,nsK hns,⟨mb,nsK hb,hbb⟩,let ⟨mc,h1,h2⟩:=hlim;⟨mc,nsK h1,h2⟩⟩
   have e0:Env0 P w K mg (zXe s₁.heap H) callerA [] s₁ H:=⟨rfl,hM,fun b o e=>zNR e,Nat.le_of_eq (zSg _ _),trivial,fun b hb=>absurd (show b∈([]:List Addr) from hb) (by simp),hok,.of_eq hg⟩
   refine Ut ((F _ hKb (nsK hns)).run callerA [] s₁ H ⟨[.ref a],[]⟩ [.ref a] [.ref a] _ _ hr e0 (hbind s₁ (.ref a)) (.cons rfl .nil) (hsp H hO hS)) fun r s' h=>?_
   cases r with
   | error e=>exact(hCX H e s' h).elim
   | ok fl =>
     cases fl with
     | next=>exact False.elim h
     | brk=>exact False.elim h
     | cont=>exact False.elim h
     | ret u =>
       obtain⟨v,H',os,bare,un,hok',r',q⟩:=h
       have q':v = .bl true:=q
       subst q'
       obtain rfl:u=Value.bool true:=r'
       refine⟨rfl,OldK.of_keep fun b o e=>?_,os,bare⟩
       cases q:H b with
       | none=>exact un.keep b o e q (by intro z;exact absurd (show b∈([]:List Addr) from z) (by simp)) (by simp)
       | some u =>
         rcases hO b with z | ⟨ob,xs,z⟩
         · rw[q] at z;cases z
         · have z2:=un.frzs b ob _ z
           obtain⟨e1,_⟩:=hok b _ z
           obtain⟨e2,_⟩:=hok' b _ z2
           rw[e] at e1;cases e1
           exact e2
 cases hk:K.lookup a with
 | some o =>
   -- the script is one of the module's own objects
   have e:=KX a o hk
   rw[ha] at e
   cases e
   refine core (fun _=>none) (fun _=>.inl rfl) (.inr ⟨_,vs.toArray,_,hk,rfl,rfl,rfl,by rw[Qs,lenV];exact hl,by simpa using rv⟩) (fun b u z=>by have z':(none:Option HO)=some u:=z;cases z') (fun b z=>absurd rfl z) fun z=>absurd rfl z
 | none =>
   refine core (fun b=>if b=a then some (.frz { cls:=.type "list",data:=.seq vs.toArray } (.lst (ns.map V.int))) else none) (fun b=>?_) (.inl (.inr ⟨{ cls:=.type "list",data:=.seq vs.toArray },Qx rfl⟩)) (fun b u z=>?_) (fun b z=>?_) fun _=>hk
   · by_cases hb:b=a
     · exact .inr ⟨_,_,Qx hb⟩
     · exact .inl (Wy hb)
   · by_cases hb:b=a
     · have z':=(Qx hb).symm.trans z
       cases z'
       subst hb
       exact⟨ha,by rw[Qg];exact hl,vs,_,rv,ha⟩
     · have z':=(Wy hb).symm.trans z
       cases z'
   · by_cases hb:b=a
     · exact hb
     · exact absurd (Wy hb) z
abbrev CX0:CXT:=fun _ _ _ _ _ _=>False
abbrev E0:XK:=fun _ _ _=>False
theorem zSP {X:Cx}:lV CX0 X E0:=fun _ _ _ _ _ _ _ h=>h.elim
structure Fun (K:PySem.W.Frag)(x qual:Str)(st:Stmt)(f:Addr)(fd:FuncData):Prop where
 ex:∃(oc:Value) (od:Option Addr) (kV doc pm:Value) (an:Option Addr) (cdv ct:Value) (osl:Array (Option Value)),
   fd=PySem.W.fnOf x qual (zB st) (zI st) (zU st) .none kV doc pm an cdv ct/\K.lookup f=some ⟨oc,od,.func fd,osl⟩/\PySem.W.codeIn K cdv qual=true
 kp:PySem.W.keepIn K (.ref f)=true
section
variable {P:Program} {w:World} {K:PySem.W.Frag} {mg:Str->Option Value} {base:Heap}
theorem Fun.ok {x qual:Str}{st:Stmt}{f:Addr}{fd:FuncData}{N ps:List Str}{k:Nat}{sp:Sp}(F:Fun K x qual st f fd)(S:FnScope N ps (zU st))(len:∀vs H Q E,sp vs H Q E->vs.length=ps.length)
   (hbody:∀(cdv:Value) (A:Around) (outer:List Env) (s:Shared) (H:Hp) (vs:List V) (Q:VK) (E:XK),Room k (A.deeper (envOfC qual (zU st) s.heap.objs.size f cdv))->sp vs H Q E ->
     ∃t,PSs (kX CX0 P w K mg base N qual (zU st) f cdv A outer s H E).nox (zI st) t/\t { nx:=fun _ H'=>Q .non H',rt:=Q } (oG N vs) H):FnOk P w K mg base CX0 (k+1) f fd ps sp:=by
 obtain⟨oc,od,kV,doc,pm,an,cdv,ct,osl,rfl,lk,hcd⟩:=F.ex
 refine zMI lk hcd S len fun A outer s H vs Q E hr hsp=>?_
 obtain⟨t,h,q⟩:=hbody cdv A outer s H vs Q E hr hsp
 exact⟨t,h.nox,q⟩
theorem Fun.binds {x qual:Str}{st:Stmt}{f:Addr}{fd:FuncData}{ps:List Str}(F:Fun K x qual st f fd)
   (h:∀(kV doc pm:Value) (an:Option Addr) (cdv ct:Value) (us:List Value),us.length=ps.length->bindArgs (PySem.W.fnOf x qual (zB st) (zI st) (zU st) .none kV doc pm an cdv ct) ⟨us,[]⟩=pure (ps.zip us)):Binds K fd ps []:=by
 obtain⟨oc,od,kV,doc,pm,an,cdv,ct,osl,rfl,lk,hcd⟩:=F.ex
 exact .all (h kV doc pm an cdv ct)
theorem zZh {x qual:Str}{st:Stmt}{f:Addr}{oc:Value}{od an:Option Addr}{osl:Array (Option Value)}{kV doc pm cdv ct:Value}(l:K.lookup f=some ⟨oc,od,.func (PySem.W.fnOf x qual (zB st) (zI st) (zU st) .none kV doc pm an cdv ct),osl⟩)
   (c:PySem.W.codeIn K cdv qual=true) (k:PySem.W.keepIn K (.ref f)=true):Fun K x qual st f (PySem.W.fnOf x qual (zB st) (zI st) (zU st) .none kV doc pm an cdv ct):=⟨⟨oc,od,kV,doc,pm,an,cdv,ct,osl,rfl,l,c⟩,k⟩
end
section
variable {X:Cx}
theorem pv (i:Nat){x:Str}{pos:Pos}(hN:X.N[i]?=some x:=by rfl)(hv:Vis X.env.scope x:=by first | exact Or.inl rfl | exact Or.inr (Or.inl rfl) | exact Or.inr (Or.inr rfl))(hd:(x==("__debug__":Str))=false:=by decide)
   (hcd:(x==("__classdict__":Str))=false:=by decide):PE X (.Name x pos) (zNA i):=oY hN hv hd hcd
end
def Same (H H':Hp):Prop:=∀b o,H b=some o->H' b=some o
theorem Same.refl (H:Hp):Same H H:=fun _ _ h=>h
theorem Same.trans {H H1 H2:Hp}(a:Same H H1)(b:Same H1 H2):Same H H2:=fun c o h=>b c o (a c o h)
theorem Same.free {H H':Hp}(e:Same H H'){l:Addr}(h:H' l=Option.none):H l=Option.none:=by
 cases q:H l with
 | none=>rfl
 | some o =>
   rw[e l o q] at h
   cases h
theorem Same.seq {K:PySem.W.Frag}{H H':Hp}{a:Addr}{xs:List V}(e:Same H H')(h:SqL K H a xs):SqL K H' a xs:=by
 rcases h with(h | ⟨o,h⟩) | h
 · exact .inl (.inl (e _ _ h))
 · exact .inl (.inr ⟨o,e _ _ h⟩)
 · exact .inr h
section
variable {prog:Program} {w:World} {A:Around} {R:Result->Shared->Prop} {s:Shared}
abbrev F0:Value->Shared->Prop:=fun _ _=>False
theorem zXD {α:Type}{t:Sem α}{Q Q':α->Shared->Prop}{M:Model}{A:Around}{E:Value->Shared->Prop}{s:Shared}(h:wpAny M A t Q F0 s)(hq:∀a s,Q a s->Q' a s):wpAny M A t Q' E s:=Rp h hq fun _ _ z=>z.elim
theorem zZm {elt target iter:Expr}{ifs:List Expr}{scope:Scope}{pos:Pos}{it acc:Value}{env:Env}(I:Nat->Shared->Prop)
   (turn:∀n s,I n s->wpAny (model prog w) A (pyNext it) (fun r s₁=>match r with
     | none=>R (.ok .next) s₁
     | some v=>wpAny (model prog w) A (letOwnedTupleGo target it v) (fun _ s₁=>wpAny (model prog w) A (assign target env v) (fun _ s₂ =>
         wpAny (model prog w) A (forIn ifs true fun c r=>if r=true then do let ok ←isTrue c env (eval c env);pure (ForInStep.yield ok) else pure (ForInStep.yield r)) (fun ok s₃ =>
           if ok=true then wpAny (model prog w) A (eval elt env) (fun x s₄ =>
             wpAny (model prog w) A (call (.builtin "list.append") [acc,x]) (fun _ s₅ => ∃m,m < n/\I m s₅) F0 s₄) F0 s₃
           else ∃m,m < n/\I m s₃) F0 s₂) F0 s₁) F0 s₁) F0 s)
   (n:Nat) (h:I n s) :
   codeAny (model prog w) A (.compLoop (.ListComp elt [⟨target,iter,ifs,0⟩] scope pos) 0 it acc env) R s:=by
 refine codeAny_loop rfl I (fun n s hI=>?_) n h
 show wpAny _ A ((compTurn (.ListComp elt [⟨target,iter,ifs,0⟩] scope pos) 0 it acc env).onRaise (fun x=>do noteFrame x env;theTreesLotGoes x)) _ _ s
 refine wpAny_noted ?_
 rw[compTurn_list]
 refine Qw (Ud (Qw (zXD (turn n s hI) (fun r s₁ h₁=>?_))))
 cases r with
 | none=>exact Qo h₁
 | some v =>
   refine Qw (zXD h₁ fun _ s₁' h₁'=>?_)
   refine Qw (zXD h₁' fun _ s₂ h₂=>Qw (zXD h₂ fun ok s₃ h₃ => ?_))
   cases ok with
   | false=>exact Qo ⟨rfl,h₃⟩
   | true =>
     exact Qw (Qw (zXD h₃ fun x s₄ h₄ => Qw (zXD h₄ fun _ s₅ h₅ => Qo (Qo ⟨rfl,h₅⟩))))
end
theorem kR {env:Env}(x:Str):∀(names:List (Str×NameKind)),
   (names.map fun(n,k)=>if (k==NameKind.free&&env.scope.kind == .function&&env.kindOf n==some .cell) then(n,NameKind.cell) else(n,k)).lookup x
     = (names.lookup x).map fun k=>if (k==NameKind.free&&env.scope.kind == .function&&env.kindOf x==some .cell)=true then NameKind.cell else k
 | []=>rfl
 | (n,k)::r=>by
   have ih:=kR (env:=env) x r
   rw[Qj]
   cases hx:x==n with
   | true =>
     have e:x=n:=eq_of_beq hx
     subst e
     by_cases hc:(k==NameKind.free&&env.scope.kind == .function&&env.kindOf x==some .cell)=true
     · simp only[hc,Tp,Er,Tb,Wk]
     · simp only[hc,Ta,Er,Tb,Wk,Wg]
   | false =>
     by_cases hc:(k==NameKind.free&&env.scope.kind == .function&&env.kindOf n==some .cell)=true
     · simp only[hc,Tp,Er,hx];exact ih
     · simp only[hc,Ta,Er,hx,Wg];exact ih
def iF (env:Env):List (Str×NameKind)->List (Str×Addr)->List (Str×Addr)
 | [],acc=>acc
 | (n,k)::r,acc=>iF env r (if k = .free then(match env.cells.lookup n with | some c=>(n,c)::acc | none=>acc) else acc)
theorem zTU {env:Env}{scope:Scope}(h:∀p∈scope.names,p.2 = .free->∃c,env.cells.lookup p.1=some c):closureFor scope env=pure (iF env scope.names []):=by
 have gen:∀(l:List (Str×NameKind)) (acc:List (Str×Addr)),(∀p∈l,p.2 = .free->∃c,env.cells.lookup p.1=some c) ->
     (forIn l acc fun x r=>if (x.2==NameKind.free)=true then(do let a ←cellOf env x.1;pure (ForInStep.yield ((x.1,a)::r))) else pure (ForInStep.yield r):Sem (List (Str×Addr)))=pure (iF env l acc):=by
   intro l
   induction l with
   | nil=>intro acc _;rfl
   | cons p r ih =>
     intro acc hp
     obtain⟨n,k⟩:=p
     rw[Yv]
     have hr:∀p∈r,p.2 = .free->∃c,env.cells.lookup p.1=some c:=fun p hm=>hp p (Qd _ hm)
     by_cases hk:k = .free
     · subst hk
       obtain⟨c,hc⟩:=hp (n,.free) Qh rfl
       have e:cellOf env n=pure c:=by unfold cellOf;rw[hc]
       simp only[Tb,Tp,e]
       show(forIn r ((n,c)::acc) _:Sem _)=_
       rw[ih _ hr]
       show _=(pure (iF env r (if NameKind.free=NameKind.free then(match env.cells.lookup n with | some c=>(n,c)::acc | none=>acc) else acc)):Sem _)
       rw[Qx rfl,hc]
     · have hb:(k==NameKind.free)=false:=by simpa using hk
       simp only[hb,Wg,Ta]
       show(forIn r acc _:Sem _)=_
       rw[ih _ hr]
       show _=(pure (iF env r (if k=NameKind.free then(match env.cells.lookup n with | some c=>(n,c)::acc | none=>acc) else acc)):Sem _)
       rw[Wy hk]
 have q:=gen scope.names [] h
 simp only[closureFor]
 rw[q]
 rfl
theorem zYz {env:Env}:∀(l:List (Str×NameKind)) (acc:List (Str×Addr)),(∀x c,acc.lookup x=some c->env.cells.lookup x=some c)->∀x c,(iF env l acc).lookup x=some c->env.cells.lookup x=some c
 | [],_,h=>h
 | (n,k)::r,acc,h=>by
   refine zYz r _ ?_
   by_cases hk:k = .free
   · rw[Qx hk]
     cases e:env.cells.lookup n with
     | none=>exact h
     | some c =>
       intro x c' hx
       rw[Er] at hx
       cases q:x==n with
       | true=>rw[q] at hx;cases hx;rw[eq_of_beq q];exact e
       | false=>rw[q] at hx;exact h x c' hx
   · rw[Wy hk];exact h
theorem zUC {env:Env}:∀(l:List (Str×NameKind)) (acc:List (Str×Addr)) (x:Str),(acc.lookup x).isSome=true->((iF env l acc).lookup x).isSome=true
 | [],_,_,h=>h
 | (n,k)::r,acc,x,h=>by
   refine zUC r _ x ?_
   by_cases hk:k = .free
   · rw[Qx hk]
     cases e:env.cells.lookup n with
     | none=>exact h
     | some c =>
       show(List.lookup x ((n,c)::acc)).isSome=true
       rw[Er]
       cases q:x==n with
       | true=>rfl
       | false=>exact h
   · rw[Wy hk];exact h
theorem zYI {env:Env}:∀(l:List (Str×NameKind)) (acc:List (Str×Addr)),(∀p∈l,p.2 = .free->∃c,env.cells.lookup p.1=some c)->∀x,(x,NameKind.free)∈l->((iF env l acc).lookup x).isSome=true
 | [],_,_,_,h=>nomatch h
 | (n,k)::r,acc,hp,x,h=>by
   rcases Qz.mp h with e | h
   · cases e
     obtain⟨c,hc⟩:=hp (n,.free) Qh rfl
     show((iF env r (if NameKind.free=NameKind.free then(match env.cells.lookup n with | some c=>(n,c)::acc | none=>acc) else acc)).lookup n).isSome=true
     rw[Qx rfl,hc]
     exact zUC r _ n (by simp[Er])
   · exact zYI r _ (fun p hm=>hp p (Qd _ hm)) x h
def lJ (sc scope:Scope)(N tgs frees:List Str)(js:List Nat):Bool :=
 scope.kind == .function&&scope.names.all (fun p=>p.2 != .cell&&(p.2 != .free||sc.names.lookup p.1==some .cell||sc.names.lookup p.1==some .free)&&(p.2 != .local||scope.names.lookup p.1==some .local))
   && tgs.all (fun x=>scope.names.lookup x==some .local)&&frees.all (fun x=>scope.names.lookup x==some .free)&&(js.map fun j=>N[j]?)==frees.map some
def upC (m:Nat)(js:List Nat)(σ:St):St:=List.replicate m none++js.map fun j=>(σ[j]?).join
def vN (X:Cx)(Nc:List Str)(scope:Scope)(C:Addr)(s₀:Shared)(H₀:Hp)(fp:List Addr):Cx where
 prog:=X.prog
 w:=X.w
 K:=X.K
 mg:=X.mg
 base:=X.base
 A:=X.A
 N:=Nc
 s₀:=s₀
 H₀:=H₀
 env:=compEnvC scope (iF X.env scope.names []) C X.env
 outer:=X.stack
 stack:=X.stack
 ex:=fp
 fn:=fun _=>false
 calm:=X.calm
 pn:=[]
 xe:=F0
def zTL (X:Cx)(ifs:List Expr)(t:TT):Prop :=
 ∀(pins:List (Addr×Obj)) (s:Shared) (σ:St) (H:Hp) (Q:Bool->Hp->Prop),Inv X pins σ H s->t σ H Q ->
   wpAny (model X.prog X.w) X.A (forIn ifs true fun c r=>if r=true then do let ok ←isTrue c X.env (eval c X.env);pure (ForInStep.yield ok) else pure (ForInStep.yield r)) (TP X pins σ Q) X.xe s
def zKl:TT:=fun _ H Q=>Q true H
theorem zP3 {X:Cx}:zTL X [] zKl:=fun _ _ _ H _ I h=>wpAny_tests_nil ⟨H,I,h⟩
theorem zQk {X:Cx}{c:Expr}{t:TT}(h:PT X c t):zTL X [c] t:=fun pins s σ H Q I hq=>wpAny_tests_one (h pins s σ H Q I hq)
def zK7 (J:It)(m:Nat)(js:List Nat)(g:TG)(tc:TT)(te:TE)(σ:St)(H1:Hp)(Q:VK):Prop:=∀D,H1 D=none ->
 ∃W:Nat->Nat->St->Hp->Prop,(∃k,W 0 k (upC m js σ) (upd H1 D (.lst [])))/\∀i k σ' H',W i k σ' H' ->
   (J.stop i H'/\Q (.ref D) H')∨(J.go i H'/\∀x H2,J.yld i H' x H2->g x σ' H2 fun σ2 H3=>tc σ2 H3 fun b H4=>if b=true then te σ2 H4 fun y H5=>∃ys k',H5 D=some (.lst ys)/\ys.length < sizeLine/\k' < k/\W (i+1) k' σ2 (upd H5 D (.lst (ys++[y])))
     else ∃k',k' < k/\W (i+1) k' σ2 H4)
section
variable {X:Cx} {pins:List (Addr×Obj)} {σ:St} {H2:Hp} {s2:Shared} {tg elt iter:Expr} {ifs:List Expr} {scope sc:Scope} {pos:Pos} {tgs frees:List Str} {js:List Nat} {g:TG} {te:TE} {tc:TT}
theorem sO {N:List Str}(h:lJ sc scope N tgs frees js=true):scope.kind = .function/\(∀p∈scope.names,p.2 ≠ .cell)/\(∀p∈scope.names,p.2 = .free->sc.names.lookup p.1=some .cell∨sc.names.lookup p.1=some .free) /\
   (∀p∈scope.names,p.2 = .local->scope.names.lookup p.1=some .local)/\(∀x∈tgs,scope.names.lookup x=some .local)/\(∀x∈frees,scope.names.lookup x=some .free)/\(js.map fun j=>N[j]?)=frees.map some:=by
 unfold lJ at h
 simp only[Qn,Qv,bne_iff_ne,ne_eq,Tj,Tq] at h
 obtain⟨⟨⟨⟨h1,h2⟩,h3⟩,h4⟩,h5⟩:=h
 refine⟨h1,fun p hp=>(h2 p hp).1.1,fun p hp e=>?_,fun p hp e=>?_,h3,h4,h5⟩
 · rcases(h2 p hp).1.2 with(q | q) | q
   · exact absurd e q
   · exact .inl q
   · exact .inr q
 · rcases(h2 p hp).2 with q | q
   · exact absurd e q
   · exact q
theorem zTT {C:Addr}{s3:Shared}{H3:Hp}{h4:Heap}{tk:Nat}{fp:List Addr}{m0:Str->Option Value}(I:Inv X pins σ H3 s3)(f3:∀b∈fp,mN X pins H3 b)(ofp:∀b∈fp,b < s3.heap.objs.size)
   (hsc:X.env.scope=sc) (hok:lJ sc scope X.N tgs frees js=true) (hC:C=s3.heap.objs.size) (hk:∀b o,s3.heap.get? b=some o->h4.get? b=some o) (hn:h4.Ns C m0) :
   Inv (vN X (tgs++frees) scope C s3 H3 fp) [] (upC tgs.length js σ) H3 { s3 with heap:=h4,toks:=tk }:=by
 obtain⟨k1,k2,k3,k4,k5,k6,k7⟩:=sO hok
 have hcl:∀x c,(iF X.env scope.names []).lookup x=some c->X.env.cells.lookup x=some c:=zYz scope.names [] (fun _ _ z=>nomatch z)
 have hfr:∀p∈scope.names,p.2 = .free->∃c,X.env.cells.lookup p.1=some c:=fun p hp e=>I.ok.has p.1 (by
   show X.env.scope.names.lookup p.1=_∨X.env.scope.names.lookup p.1=_
   rw[hsc];exact k3 p hp e)
 have rl:∀x,(relabel scope X.env).names.lookup x=(scope.names.lookup x).map fun k=>if (k==NameKind.free&&X.env.scope.kind == .function&&X.env.kindOf x==some .cell)=true then NameKind.cell else k:=fun x=>kR x scope.names
 have hasc:∀x,((relabel scope X.env).names.lookup x=some .cell∨(relabel scope X.env).names.lookup x=some .free)->∃c,(iF X.env scope.names []).lookup x=some c:=fun x hx=>by
   rw[rl x] at hx
   cases e:scope.names.lookup x with
   | none=>rw[e] at hx;simp at hx
   | some k =>
     have hm:=En e
     have hkf:k = .free:=by
       rw[e] at hx
       simp only[Wk,Option.some.injEq] at hx
       by_cases q:k = .free
       · exact q
       · have hb:(k==NameKind.free)=false:=by simpa using q
         rw[hb] at hx
         simp only[Bool.false_and,Wg,Ta] at hx
         rcases hx with z | z
         · exact absurd z (k2 _ hm)
         · exact z
     subst hkf
     exact Tw.mp (zYI scope.names [] hfr x hm)
 have cfr:∀x c,X.env.cells.lookup x=some c->c≠C:=fun x c e z=>by
   obtain⟨v,q⟩:=I.cell x c e
   exact absurd (z ▸ q.lt) (by rw[hC];exact Ww _)
 have base0:∀b o,X.base.get? b=some o->b∉fp:=fun b o e hb=>by
   obtain⟨_,_,_,q,_⟩:=f3 b hb
   rcases q with q | q
   · exact I.ok.noex b o e q
   · exact absurd (Qm (Qy (I.ok.bs b o e).1) q) (Ww _)
 have stk:∀b∈fp,b∉frs X.stack:=fun b hb z=>by
   obtain⟨_,q1,q2,_⟩:=f3 b hb
   rcases Qz.mp (I.stkSub b z) with e | e
   · exact q1 e
   · exact q2 e
 refine⟨⟨I.ok.mod,k1,I.ok.glob,I.ok.blt,by rw[hC];exact Qk _,fun x y c e1 e2=>I.ok.inj x y c (hcl x c e1) (hcl y c e2),hasc,(fun x c z _=>nomatch z),I.ok.hd,I.ok.frames,.inl rfl,
     fun b hb=>⟨fun z=>absurd (ofp b hb) (by rw[show b=C from z,hC];exact Ww _),fun x c e=>(f3 b hb).2.2.2.2.1 x c (hcl x c e)⟩,
     fun b o e=>I.bs b o e,Wi I.ok.bsz I.sz,base0,stk,I.stack,I.stkFree⟩,
   rfl,I.bare,Un.kept hk,⟨m0,hn,fun i x v e1 e2 e3=>?_⟩,fun x c e=>?_,I.hok.fresh (by rw[show(vN X (tgs++frees) scope C s3 H3 fp).env.locals=C from rfl,hC];exact Qk _),fun x c e=>I.freeC x c (hcl x c e),
   fun p hp=>absurd (show p∈([]:List (Addr×Obj)) from hp) (by simp),I.hok.kept hk,?_⟩
 · -- a name's value
   have hi:tgs.length<=i:=by
     refine Nat.le_of_not_lt fun hlt=>?_
     have e2:(upC tgs.length js σ)[i]?=some (some v):=e2
     unfold upC at e2
     rw[Rw (by simpa using hlt),Ry] at e2
     split at e2<;>cases e2
   have e2:(upC tgs.length js σ)[i]?=some (some v):=e2
   unfold upC at e2
   rw[Es (by simpa using hi),Yj,Wu] at e2
   have e1:(tgs++frees)[i]?=some x:=e1
   rw[Es hi] at e1
   obtain⟨j,ej,e2⟩:=Qu.mp e2
   have hj:X.N[j]?=some x:=by
     have q:=Rg (fun l=>l[i - tgs.length]?) k7
     simp only[Wu,ej,e1,Wk] at q
     exact Wp q
   have hσ:σ[j]?=some (some v):=by
     cases q:σ[j]? with
     | none=>rw[q] at e2;cases e2
     | some o=>rw[q] at e2;exact Rg some e2
   have hf:scope.names.lookup x=some .free:=k6 x (Tz e1)
   have hX:X.env.kindOf x=some .cell∨X.env.kindOf x=some .free:=by
     show X.env.scope.names.lookup x=_∨X.env.scope.names.lookup x=_
     rw[hsc];exact k3 _ (En hf) rfl
   obtain⟨m,_,hl⟩:=I.loc
   obtain⟨u,r,l⟩:=hl j x v hj hσ (by
     rcases hX with q | q
     · exact .inr (.inl q)
     · exact .inr (.inr q))
   refine⟨u,r,.inr ⟨?_,?_⟩⟩
   · show(relabel scope X.env).names.lookup x=_∨(relabel scope X.env).names.lookup x=_
     rw[rl x,hf]
     by_cases q:(NameKind.free==NameKind.free&&X.env.scope.kind == .function&&X.env.kindOf x==some .cell)=true
     · exact .inl (by rw[Wk,Qx q])
     · exact .inr (by rw[Wk,Wy q])
   · rcases l with⟨q,_⟩ | ⟨_,c,ec,hcell⟩
     · rcases hX with z | z<;>(rw[z] at q;cases q)
     · obtain⟨c',ec'⟩:=Tw.mp (zYI scope.names [] hfr x (En hf))
       have e:c'=c:=Wp ((hcl x c' ec').symm.trans ec)
       subst e
       obtain⟨o,ho,hd⟩:=hcell
       exact⟨c',ec',o,hk _ _ ho,hd⟩
 · obtain⟨v,o,ho,hd⟩:=I.cell x c (hcl x c e)
   exact⟨v,o,hk _ _ ho,hd⟩
 · show(upC tgs.length js σ).length=(tgs++frees).length
   have q:=Rg List.length k7
   rw[Qg,Qg] at q
   unfold upC
   rw[Qb,Yj,Qg,Qb,q]
theorem zZ8 {J:It}{fp:List Addr}{it:Addr}{tn:Nat->Heap->Prop}{RR:Value->Addr->Result->Shared->Prop}{E:Value->Shared->Prop}{Q:VK}
   (I2:Inv X pins σ H2 s2) (T:Turn X.prog X.w X.K tg J fp it tn) (st2:tn 0 s2.heap) (f2:∀b∈fp,mN X pins H2 b) (hc:X.calm=true)
   (hsc:X.env.scope=sc) (hok:lJ sc scope X.N tgs frees js=true)
   (hg:∀C s₀ H₀ fp,PG (vN X (tgs++frees) scope C s₀ H₀ fp) tg g) (hi:∀C s₀ H₀ fp,zTL (vN X (tgs++frees) scope C s₀ H₀ fp) ifs tc) (he:∀C s₀ H₀ fp,PE (vN X (tgs++frees) scope C s₀ H₀ fp) elt te)
   (hw:zK7 J tgs.length js g tc te σ H2 Q)
   (hRR:∀D C s' H' m,Inv X pins σ H' s'->Q (.ref D) H'->mN X pins H' C->s'.heap.Ns C m->RR (.ref D) C (.ok .next) s') :
   wpAny (model X.prog X.w) X.A (newList []) (fun acc s₃ => wpAny (model X.prog X.w) X.A (newFunctionEnv scope X.env.globals (iF X.env scope.names []) [] X.env.qual none .none (some X.env)) (fun cenv s₄ =>
     codeAny (model X.prog X.w) X.A (.compStart (.ListComp elt [⟨tg,iter,ifs,0⟩] scope pos) 0 (.ref it) acc { cenv with scope:=relabel scope X.env }) (RR acc cenv.locals) s₄) E s₃) E s2:=by
 obtain⟨k1,k2,k3,k4,k5,k6,k7⟩:=sO hok
 refine Em (wpAny_newFunctionEnv k2 (by intro y hy;simp at hy) (fun h4 hn4 hs4=>?_) k1)
 dsimp only at hn4 hs4 ⊢
 generalize hh3:s2.heap.push { cls:=.type "list",dict:=none,data:=.seq ([]:List Value).toArray }=h3 at hn4 hs4 ⊢
 generalize hD:s2.heap.objs.size=D
 have hDn:H2 D=none:=by rw[←hD];exact I2.fresh
 have hsz3:h3.objs.size=D+1:=by rw[←hh3,Ek,hD]
 have keep23:∀b o,s2.heap.get? b=some o->h3.get? b=some o:=fun b o e=>by rw[←hh3];exact Qe _ e
 have keep34:∀b o,h3.get? b=some o->h4.get? b=some o:=fun b o e=>hs4.extBut b o (We (Qy e)) (Qe _ e)
 have I3:Inv X pins σ (upd H2 D (.lst [])) { s2 with heap:=h3 }:=by
   have q:=I2.lnew (its:=[]) (ys:=[]) (t':=s2.toks) .nil (Ye _)
   rw[hD] at q
   rw[←hh3]
   exact q
 have nfp:∀b∈fp,b≠D:=fun b hb z=>by
   obtain⟨o,e,_⟩:=T.obj 0 _ st2 b hb
   exact absurd (Qy e) (by rw[z,hD];exact Ww _)
 have f3:∀b∈fp,mN X pins (upd H2 D (.lst [])) b:=fun b hb=>by
   obtain⟨q0,q⟩:=f2 b hb
   exact⟨by rw[yP (nfp b hb)];exact q0,q⟩
 have ofp:∀b∈fp,b < h3.objs.size:=fun b hb=>by
   obtain⟨o,e,_⟩:=T.obj 0 _ st2 b hb
   exact Qy (keep23 b o e)
 obtain⟨W,⟨n0,w0⟩,turn⟩:=hw D hDn
 have loop:∀s4:Shared,s4={ s2 with heap:=h4,toks:=s2.toks+([]:List (Str×Value)).length } ->
     codeAny (model X.prog X.w) X.A (.compLoop (.ListComp elt [⟨tg,iter,ifs,0⟩] scope pos) 0 (.ref it) (.ref D) (compEnvC scope (iF X.env scope.names []) h3.objs.size X.env)) (RR (.ref D) h3.objs.size) s4:=by
   rintro s4 rfl
   generalize hX':vN X (tgs++frees) scope h3.objs.size { s2 with heap:=h3 } (upd H2 D (.lst [])) fp=X'
   have I4:Inv X' [] (upC tgs.length js σ) (upd H2 D (.lst [])) { s2 with heap:=h4,toks:=s2.toks+([]:List (Str×Value)).length }:=by
     rw[←hX']
     exact zTT (s3:={ s2 with heap:=h3 }) I3 f3 ofp hsc hok rfl keep34 hn4
   have eP:X'.prog=X.prog:=by rw[←hX'];rfl
   have eW:X'.w=X.w:=by rw[←hX'];rfl
   have eK:X'.K=X.K:=by rw[←hX'];rfl
   have eA:X'.A=X.A:=by rw[←hX'];rfl
   have eC:X'.calm=true:=by rw[←hX'];exact hc
   have T':Turn X'.prog X'.w X'.K tg J fp it tn:=by rw[eP,eW,eK];exact T
   have eE:X'.env=compEnvC scope (iF X.env scope.names []) h3.objs.size X.env:=by rw[←hX'];rfl
   have eX:X'.xe=F0:=by rw[←hX'];rfl
   have stat:∀ {H':Hp},(∀b∈fp,H' b=none)->∀b∈fp,mN X' [] H' b:=fun {H'} hn b hb=>by
     obtain⟨_,q1,q2,q3,q4,q5⟩:=f3 b hb
     rw[←hX']
     refine⟨hn b hb,?_,?_,.inl hb,fun x c e=>?_,fun p hp=>absurd (show p∈([]:List (Addr×Obj)) from hp) (by simp)⟩
     · exact fun z=>absurd (ofp b hb) (by rw[show b=h3.objs.size from z];exact Ww _)
     · intro z
       rcases Qz.mp (I3.stkSub b z) with e | e
       · exact q1 e
       · exact q2 e
     · exact q4 x c (zYz scope.names [] (fun _ _ z=>nomatch z) x c e)
   have hgX:PG X' tg g:=by rw[←hX'];exact hg _ _ _ _
   have hiX:zTL X' ifs tc:=by rw[←hX'];exact hi _ _ _ _
   have heX:PE X' elt te:=by rw[←hX'];exact he _ _ _ _
   refine zZm (fun n s'=>∃i σ' H',Inv X' [] σ' H' s'/\tn i s'.heap/\(∀b∈fp,H' b=none)/\W i n σ' H') ?_ n0 ⟨0,_,_,I4,T.keep 0 _ _ st2 (fun b _ o e=>keep34 b o (keep23 b o e)),fun b hb=>(f3 b hb).1,w0⟩
   rintro n s5 ⟨i,σ5,H5,I5,st5,fr5,w5⟩
   rw[←eP,←eW,←eE,←eA]
   rcases turn i n σ5 H5 w5 with⟨stop,qn⟩ | ⟨go,step⟩
   · refine thn (T'.done X' rfl rfl rfl eC i [] s5 σ5 H5 F0 I5 (stat fr5) st5 stop) fun r s6 ⟨hr,I6⟩=>?_
     subst hr
     have un:Un (frs X.stack) fp H2 H5 s2.heap s6.heap:=by
       have u1:Un (frs X.stack) fp H2 (upd H2 D (.lst [])) s2.heap h3:=Un.laid keep23 (Nat.le_of_eq hD) hDn
       have u2:=I6.base
       rw[←hX'] at u2
       exact u1.trans u2
     have hpx:HOk X.prog X.w H5 s6.heap:=by have q:=I6.hok;rw[eP,eW] at q;exact q
     have hos:s6.os=s2.os:=by have q:=I6.os;rw[←hX'] at q;exact q
     have IX:Inv X pins σ H5 s6:=I2.call' (ch:=fp) hos un hpx I6.bare fun b hb=>⟨(f2 b hb).2.2.2.1,(f2 b hb).2.1,(f2 b hb).2.2.2.2.1,(f2 b hb).2.2.2.2.2⟩
     obtain⟨m,hm,_⟩:=I6.loc
     have hloc:X'.env.locals=h3.objs.size:=by rw[eE];rfl
     rw[hloc] at hm
     have hle:s2.heap.objs.size<=h3.objs.size:=by rw[hD,hsz3];exact Td _
     refine hRR D h3.objs.size s6 H5 m IX qn (I2.fpOk hle ?_) hm
     have q:=I6.free
     rw[hloc] at q
     exact q
   · refine thn (T'.item X' rfl rfl rfl eC i [] s5 σ5 H5 F0 I5 (stat fr5) st5 go) fun r s6 ⟨u,hr,h6⟩=>?_
     subst hr
     refine thn h6 fun _ s7 ⟨x,H7,I7,r7,y7,st7,fr7⟩=>?_
     have I7':=I7.pinned (stat fr7) (T.obj _ _ st7)
     have xe0:X'.xe=F0:=eX
     have conv:∀ {α:Type} {t:Sem α} {Q:α->Shared->Prop} {s:Shared},wpAny (model X'.prog X'.w) X'.A t Q X'.xe s->wpAny (model X'.prog X'.w) X'.A t Q F0 s:=fun h=>by rw[xe0] at h;exact h
     refine thn (conv (hgX _ s7 σ5 H7 x u _ I7' r7 (step x H7 y7))) fun _ s8 ⟨σ8,H8,I8,q8⟩=>?_
     refine thn (conv (hiX _ s8 σ8 H8 _ I8 q8)) fun ok s9 ⟨H9,I9,q9⟩=>?_
     have again:∀ {σz:St} {Hz:Hp} {sz:Shared} {k':Nat},Inv X' ([]++zZ3 fp s7.heap) σz Hz sz->k' < n->W (i+1) k' σz Hz->∃m,m < n/\∃i σ' H',Inv X' [] σ' H' sz/\tn i sz.heap/\(∀b∈fp,H' b=none)/\W i m σ' H':=fun {σz Hz sz k'} Iz hk wz=>by
       refine⟨k',hk,i+1,σz,Hz,Iz.unpinned,T.keep _ _ _ st7 fun b hb o e=>(Iz.pin (b,o) (Wc _ (Wc _ (lD hb e)))).1,fun b hb=>?_,wz⟩
       obtain⟨o,e,d⟩:=T.obj _ _ st7 b hb
       exact(Iz.pin (b,o) (Wc _ (Wc _ (lD hb e)))).2.1
     cases ok with
     | false =>
       rw[Wy (by decide)] at q9
       rw[Wy (by decide)]
       obtain⟨k',hk,wz⟩:=q9
       exact again I9 hk wz
     | true =>
       rw[Qx rfl] at q9
       rw[Qx rfl]
       refine thn (conv (heX _ s9 σ8 H9 _ I9 q9)) fun v s10 ⟨y,H10,I10,r10,ys,k',hys,hl,hk,wz⟩=>?_
       refine thn (conv (sF (X:=X') _ s10 σ8 H10 (.ref D) [y] (.ref D) [v] (fun z Hz=>W (i+1) k' σ8 Hz) I10 rfl (.cons r10 .nil) ⟨D,ys,y,rfl,rfl,hys,hl,wz⟩)) fun _ s11 ⟨_,H11,I11,_,q11⟩=>?_
       exact again I11 hk q11
 rw[show s2.heap.objs.size=D from hD] at *
 exact codeAny_compStart_list (loop _ rfl) (T.self _ 0 _ _ _ (T.keep 0 _ _ st2 fun b _ o e=>keep34 b o (keep23 b o e)) (loop _ rfl))
def zPe (wi:TI)(m:Nat)(js:List Nat)(g:TG)(tc:TT)(te:TE):TE:=fun σ H Q=>wi σ H fun J H1=>zK7 J m js g tc te σ H1 Q
theorem zYv (ok:X.Ok)(hsc:X.env.scope=sc)(hok:lJ sc scope X.N tgs frees js=true):closureFor scope X.env=pure (iF X.env scope.names []) :=
 zTU fun p hp e=>ok.has p.1 (by
   show X.env.scope.names.lookup p.1=_∨X.env.scope.names.lookup p.1=_
   rw[hsc];exact(sO hok).2.2.1 p hp e)
theorem zNH (sc:Scope)(tgs frees:List Str)(js:List Nat){wi:TI}(hp:PI X tg iter wi)(hc:X.calm=true)(hsc:X.env.scope=sc)(hok:lJ sc scope X.N tgs frees js=true)
   (hg:∀C s₀ H₀ fp,PG (vN X (tgs++frees) scope C s₀ H₀ fp) tg g) (hi:∀C s₀ H₀ fp,zTL (vN X (tgs++frees) scope C s₀ H₀ fp) ifs tc) (he:∀C s₀ H₀ fp,PE (vN X (tgs++frees) scope C s₀ H₀ fp) elt te)
   (hs:∀x,foldedSetIterable iter X.env x=pure x:=by intro _;rfl) :
   PE X (.ListComp elt [⟨tg,iter,ifs,0⟩] scope pos) (zPe wi tgs.length js g tc te):=by
 intro pins s σ H Q I h
 obtain⟨k1,k2,k3,k4,k5,k6,k7⟩:=sO hok
 rw[eval_ListComp]
 refine wpAny_comprehension_free (use:=none) rfl hs (zYv I.ok hsc hok) k1 k4 (thn (hp pins s σ H _ I h) fun v s1 h1=>thn h1 fun itv s2 h2=>?_)
 obtain⟨it,fp,tn,J,H2,e,I2,T,st2,f2,hw⟩:=h2
 subst e
 refine zZ8 (RR:=fun acc C=>compPost (model X.prog X.w) X.A X.xe none (EP X pins σ Q) acc C) I2 T st2 f2 hc hsc hok hg hi he hw ?_
 intro D C s' H' m I' q fC hn
 refine⟨m,hn,fun h' hs'=>⟨.ref D,H',?_,rfl,q⟩⟩
 obtain⟨c0,c1,c2,c3,c4,c5⟩:=fC
 exact I'.turned (t':=s'.toks) (fun b o hb e=>hs'.extBut b o hb e) c0 c1 c3 c4 c5
theorem zTo (sc:Scope)(tgs frees:List Str)(js:List Nat){wi:TI}{i:Nat}{x:Str}{pos' spos:Pos}(hN:X.N.Nodup)(hx:X.N[i]?=some x)(hl:X.env.scope.names.lookup x=some .local)
   (hp:PI X tg iter wi) (hc:X.calm=true) (hsc:X.env.scope=sc) (hok:lJ sc scope X.N tgs frees js=true)
   (hg:∀C s₀ H₀ fp,PG (vN X (tgs++frees) scope C s₀ H₀ fp) tg g) (hi:∀C s₀ H₀ fp,zTL (vN X (tgs++frees) scope C s₀ H₀ fp) ifs tc) (he:∀C s₀ H₀ fp,PE (vN X (tgs++frees) scope C s₀ H₀ fp) elt te)
   (hsw:swapsWith (.ListComp elt [⟨tg,iter,ifs,0⟩] scope pos) (some (.Name x pos')) spos.line X.env=pure true:=by with_unfolding_all rfl) (hs:∀x,foldedSetIterable iter X.env x=pure x:=by intro _;rfl) :
   PS X (.Assign [.Name x pos'] (.ListComp elt [⟨tg,iter,ifs,0⟩] scope pos) spos) (zRi (zPe wi tgs.length js g tc te) (zVP i)):=by
 intro pins s σ H D I h
 obtain⟨k1,k2,k3,k4,k5,k6,k7⟩:=sO hok
 rw[exec_Assign_Name_used _ _ _ _ hsw]
 refine Qw (Ud (Qw ?_))
 show wpAny _ X.A (do let _ ←comprehension (.ListComp elt [⟨tg,iter,ifs,0⟩] scope pos) scope X.env _ (newList []) false (eval iter X.env) (some (assign (.Name x pos') X.env))) _ _ s
 refine Qw (Rp (wpAny_comprehension_free (use:=some (assign (.Name x pos') X.env)) (Q:=fun _ s'=>SP X pins D .next s') rfl hs (zYv I.ok hsc hok) k1 k4
   (thn (hp pins s σ H _ I h) fun v s1 h1=>thn h1 fun itv s2 h2=>?_)) (fun _ s' hq=>Qo (Qo hq)) fun _ _ e=>e)
 obtain⟨it,fp,tn,J,H2,e,I2,T,st2,f2,hw⟩:=h2
 subst e
 refine zZ8 (RR:=fun acc C=>compPost (model X.prog X.w) X.A X.xe (some (assign (.Name x pos') X.env)) (fun _ s'=>SP X pins D .next s') acc C) I2 T st2 f2 hc hsc hok hg hi he hw ?_
 intro D' C s' H' m I' q fC hn
 obtain⟨c0,c1,c2,c3,c4,c5⟩:=fC
 show wpAny _ X.A (assign (.Name x pos') X.env (.ref D')) _ _ _
 refine wpAny_assign_Name (bX (v:=V.ref D') I' hN hx (.inl hl) rfl (fun s3 I3 hb=>?_) (.inr hl))
 obtain⟨a,sb,ha⟩:=hb
 have hCa:C≠a:=by
   rcases ha with z | z
   · rw[z];exact c1
   · exact(c4 x a z).symm
 refine⟨m,hn.sameBut sb hCa,fun h' hs'=>⟨_,H',I3.turned (t':=s3.toks) (fun b o hb e=>hs'.extBut b o hb e) c0 c1 c3 c4 c5,q⟩⟩
end
inductive KT where
 | int (i:Int) | tup (l:List KT)
instance:DecidableEq KT:=fun _ _=>Classical.propDecidable _
def zMR:KT->Int
 | .int i=>hashInt i
 | .tup _=>0
def hK:Nat->KT->Int
 | n+1,.tup ks=>reduceHash (Builtin.Tuple.tupleHashOf (ks.map (hK n)))
 | _,k=>zMR k
def bO:List KT->List Addr->List Value->List DictEntry
 | k::ks,a::as,u::us=>⟨hK 8 k,.ref a,u⟩::bO ks as us
 | _,_,_=>[]
def mR (a:Addr)(ks:List KT)(as:List Addr)(vs:List V):Heap->Prop:=fun h =>
 ∃us,Vals vs us/\∃o es ep,h.get? a=some o/\o.ExactDict/\o.data = .dict es ep/\es.toList=bO ks as us
inductive D where
 | non | bl (b:Bool) | int (i:Int) | str (x:Str) | tup (ds:List D) | lst (ds:List D) | obj (c:Str) (ns:List Str) (ds:List D)
 /-- an exception of an own class -/
 | exc (c:Str) (ns:List Str) (ds:List D)
 deriving Inhabited
theorem Same.tup {K:PySem.W.Frag}{H H':Hp}{a:Addr}{xs:List V}(e:Same H H')(h:SqT K H a xs):SqT K H' a xs:=by
 rcases h with(h | ⟨o,h⟩) | h
 · exact .inl (.inl (e _ _ h))
 · exact .inl (.inr ⟨o,e _ _ h⟩)
 · exact .inr h
def ClsAt (K:PySem.W.Frag)(c:Str)(C:Addr):Prop:=PySem.W.nsIn K mainGlobals c=some (some (.ref C))
theorem ClsAt.one {K:PySem.W.Frag}{c:Str}{C C':Addr}(h:ClsAt K c C)(h':ClsAt K c C'):C'=C:=by
 have:=h.symm.trans h'
 cases this;rfl
def Xe (C a:Addr)(od:Option Addr):Heap->Prop:=fun h=>∃fs,h.get? a=some { cls:=.ref C,dict:=od,data:=.fields fs }
def Xd (dx:Addr)(fs:List (Str×V)):Heap->Prop:=fun h=>∃mA,h.Ns1 dx mA/\∀f,RelO (fs.lookup f) (mA f)
def XD (G:Hp):Option Addr->List (Str×V)->Prop
 | none,fs=>fs=[]
 | some dx,fs=>G dx=some (.ext (Xd dx fs))
theorem XD.mono {G G':Hp}(e:Same G G'):∀ {od:Option Addr} {fs:List (Str×V)},XD G od fs->XD G' od fs
 | none,_,h=>h
 | some _,_,h=>e _ _ h
mutual
def Rep (K:PySem.W.Frag)(G:Hp):D->V->Prop
 | .non,v=>v = .non
 | .bl b,v=>v = .bl b
 | .int i,v=>v = .int i
 | .str x,v=>v = .str x
 | .tup ds,v=>∃a vs,v = .ref a/\SqT K G a vs/\Reps K G ds vs
 | .lst ds,v=>∃a vs,v = .ref a/\SqL K G a vs/\Reps K G ds vs
 | .obj c ns ds,v=>∃C a dx vs,ClsAt K c C/\v = .ref a/\G a=some (.ins C dx (ns.zip vs))/\ns.length=ds.length/\Reps K G ds vs
 | .exc c ns ds,v=>∃C a od vs,ClsAt K c C/\v = .ref a/\G a=some (.ext (Xe C a od))/\XD G od (ns.zip vs)/\ns.length=ds.length/\Reps K G ds vs
def Reps (K:PySem.W.Frag)(G:Hp):List D->List V->Prop
 | [],vs=>vs=[]
 | d::r,vs=>∃v vr,vs=v::vr/\Rep K G d v/\Reps K G r vr
end
section
variable {K:PySem.W.Frag} {G G':Hp}
mutual
theorem Rep.mono (e:Same G G'):∀(d:D) (v:V),Rep K G d v->Rep K G' d v
 | .non,_,h=>by unfold Rep at h ⊢;exact h
 | .bl _,_,h=>by unfold Rep at h ⊢;exact h
 | .int _,_,h=>by unfold Rep at h ⊢;exact h
 | .str _,_,h=>by unfold Rep at h ⊢;exact h
 | .tup ds,_,h=>by
   unfold Rep at h ⊢
   obtain⟨a,vs,h1,h2,h3⟩:=h
   exact⟨a,vs,h1,e.tup h2,Reps.mono e ds vs h3⟩
 | .lst ds,_,h=>by
   unfold Rep at h ⊢
   obtain⟨a,vs,h1,h2,h3⟩:=h
   exact⟨a,vs,h1,e.seq h2,Reps.mono e ds vs h3⟩
 | .obj C ns ds,_,h=>by
   unfold Rep at h ⊢
   obtain⟨C,a,dx,vs,h0,h1,h2,h4,h3⟩:=h
   exact⟨C,a,dx,vs,h0,h1,e _ _ h2,h4,Reps.mono e ds vs h3⟩
 | .exc C ns ds,_,h=>by
   unfold Rep at h ⊢
   obtain⟨C,a,od,vs,h0,h1,h2,h5,h4,h3⟩:=h
   exact⟨C,a,od,vs,h0,h1,e _ _ h2,h5.mono e,h4,Reps.mono e ds vs h3⟩
theorem Reps.mono (e:Same G G'):∀(ds:List D) (vs:List V),Reps K G ds vs->Reps K G' ds vs
 | [],_,h=>by unfold Reps at h ⊢;exact h
 | d::r,_,h=>by
   unfold Reps at h ⊢
   obtain⟨v,vr,h1,h2,h3⟩:=h
   exact⟨v,vr,h1,Rep.mono e d v h2,Reps.mono e r vr h3⟩
end
theorem uW {v:V}:Rep K G .non v↔v = .non:=by unfold Rep;exact Oc
theorem wM {b:Bool}{v:V}:Rep K G (.bl b) v↔v = .bl b:=by unfold Rep;exact Oc
theorem zH {i:Int}{v:V}:Rep K G (.int i) v↔v = .int i:=by unfold Rep;exact Oc
theorem yH {x:Str}{v:V}:Rep K G (.str x) v↔v = .str x:=by unfold Rep;exact Oc
theorem xM {ds:List D}{v:V}:Rep K G (.tup ds) v↔∃a vs,v = .ref a/\SqT K G a vs/\Reps K G ds vs:=by
 constructor<;>(intro h;unfold Rep at *;exact h)
theorem xG {ds:List D}{v:V}:Rep K G (.lst ds) v↔∃a vs,v = .ref a/\SqL K G a vs/\Reps K G ds vs:=by
 constructor<;>(intro h;unfold Rep at *;exact h)
theorem aC {c:Str}{ns:List Str}{ds:List D}{v:V}:Rep K G (.obj c ns ds) v↔∃C a dx vs,ClsAt K c C/\v = .ref a/\G a=some (.ins C dx (ns.zip vs))/\ns.length=ds.length/\Reps K G ds vs:=by
 constructor<;>(intro h;unfold Rep at *;exact h)
theorem iY {c:Str}{ns:List Str}{ds:List D}{v:V}:Rep K G (.exc c ns ds) v↔∃C a od vs,ClsAt K c C/\v = .ref a/\G a=some (.ext (Xe C a od))/\XD G od (ns.zip vs)/\ns.length=ds.length/\Reps K G ds vs:=by
 constructor<;>(intro h;unfold Rep at *;exact h)
theorem yQ {vs:List V}:Reps K G [] vs↔vs=[]:=by unfold Reps;exact Oc
theorem yZ {d:D}{r:List D}{vs:List V}:Reps K G (d::r) vs↔∃v vr,vs=v::vr/\Rep K G d v/\Reps K G r vr:=by
 rw[Reps]
theorem Reps.length:∀ {ds:List D} {vs:List V},Reps K G ds vs->ds.length=vs.length
 | [],_,h=>by rw[yQ] at h;rw[h];rfl
 | d::r,_,h=>by
   rw[yZ] at h
   obtain⟨v,vr,rfl,_,h3⟩:=h
   rw[Qi,Qi,Reps.length h3]
theorem Reps.get:∀ {ds:List D} {vs:List V} {i:Nat} {d:D},Reps K G ds vs->ds[i]?=some d->∃v,vs[i]?=some v/\Rep K G d v
 | [],_,_,_,_,e=>by simp at e
 | d::r,_,0,_,h,e=>by
   rw[yZ] at h
   obtain⟨v,vr,rfl,h2,h3⟩:=h
   simp at e;subst e
   exact⟨v,rfl,h2⟩
 | d::r,_,i+1,_,h,e=>by
   rw[yZ] at h
   obtain⟨v,vr,rfl,h2,h3⟩:=h
   obtain⟨u,e1,e2⟩:=Reps.get h3 (by simpa using e)
   exact⟨u,by simpa using e1,e2⟩
theorem Reps.snoc:∀ {ds:List D} {vs:List V} {d:D} {v:V},Reps K G ds vs->Rep K G d v->Reps K G (ds++[d]) (vs++[v])
 | [],_,d,v,h,r=>by
   rw[yQ] at h;subst h
   exact yZ.mpr ⟨v,[],rfl,r,yQ.mpr rfl⟩
 | e::t,_,d,v,h,r=>by
   rw[yZ] at h
   obtain⟨u,vr,rfl,h2,h3⟩:=h
   exact yZ.mpr ⟨u,vr++[v],rfl,h2,h3.snoc r⟩
theorem Reps.append:∀ {ds es:List D} {vs us:List V},Reps K G ds vs->Reps K G es us->Reps K G (ds++es) (vs++us)
 | [],_,_,_,h,r=>by rw[yQ] at h;subst h;exact r
 | e::t,_,_,us,h,r=>by
   rw[yZ] at h
   obtain⟨u,vr,rfl,h2,h3⟩:=h
   exact yZ.mpr ⟨u,vr++us,rfl,h2,h3.append r⟩
theorem Reps.take:∀ {ds:List D} {vs:List V} (n:Nat),Reps K G ds vs->Reps K G (ds.take n) (vs.take n)
 | _,_,0,_=>by rw[List.take_zero,List.take_zero];exact yQ.mpr rfl
 | [],_,_+1,h=>by rw[yQ] at h;subst h;exact yQ.mpr rfl
 | e::t,_,n+1,h=>by
   rw[yZ] at h
   obtain⟨u,vr,rfl,h2,h3⟩:=h
   exact yZ.mpr ⟨u,vr.take n,rfl,h2,h3.take n⟩
theorem Reps.drop:∀ {ds:List D} {vs:List V} (n:Nat),Reps K G ds vs->Reps K G (ds.drop n) (vs.drop n)
 | _,_,0,h=>h
 | [],_,_+1,h=>by rw[yQ] at h;subst h;exact yQ.mpr rfl
 | e::t,_,n+1,h=>by
   rw[yZ] at h
   obtain⟨u,vr,rfl,h2,h3⟩:=h
   exact h3.drop n
theorem Reps.set:∀ {ds:List D} {vs:List V} {d:D} {v:V} (i:Nat),Reps K G ds vs->Rep K G d v->Reps K G (ds.set i d) (vs.set i v)
 | [],_,_,_,_,h,_=>by rw[yQ] at h;subst h;exact yQ.mpr rfl
 | e::t,_,d,v,0,h,r=>by
   rw[yZ] at h
   obtain⟨u,vr,rfl,h2,h3⟩:=h
   exact yZ.mpr ⟨v,vr,rfl,r,h3⟩
 | e::t,_,d,v,i+1,h,r=>by
   rw[yZ] at h
   obtain⟨u,vr,rfl,h2,h3⟩:=h
   exact yZ.mpr ⟨u,vr.set i v,rfl,h2,h3.set i r⟩
theorem Reps.erase:∀ {ds:List D} {vs:List V} (i:Nat),Reps K G ds vs->Reps K G (ds.eraseIdx i) (vs.eraseIdx i)
 | [],_,_,h=>by rw[yQ] at h;subst h;exact yQ.mpr rfl
 | e::t,_,0,h=>by
   rw[yZ] at h
   obtain⟨u,vr,rfl,h2,h3⟩:=h
   exact h3
 | e::t,_,i+1,h=>by
   rw[yZ] at h
   obtain⟨u,vr,rfl,h2,h3⟩:=h
   exact yZ.mpr ⟨u,vr.eraseIdx i,rfl,h2,h3.erase i⟩
end
structure Step (G H G' H':Hp):Prop where
 hh:Same H H'
 gg:Same G G'
 sub:Same G' H'
 new:∀a,H a≠none->G' a=G a
theorem Step.refl {G H:Hp}(h:Same G H):Step G H G H:=⟨Same.refl _,Same.refl _,h,fun _ _=>rfl⟩
theorem Step.trans {G H G1 H1 G2 H2:Hp}(a:Step G H G1 H1)(b:Step G1 H1 G2 H2):Step G H G2 H2 :=
 ⟨a.hh.trans b.hh,a.gg.trans b.gg,b.sub,fun c hc=>(b.new c (fun z=>hc (a.hh.free z))).trans (a.new c hc)⟩
theorem Same.new {H:Hp}{p:Addr}{o:HO}(hp:H p=none):Same H (upd H p o):=fun b u e=>by rw[yP (yJ e hp)];exact e
theorem Step.laid {G H:Hp}{p:Addr}{o:HO}(s:Same G H)(hp:H p=none):Step G H (upd G p o) (upd H p o):=by
 refine⟨Same.new hp,Same.new (s.free hp),fun b u e=>?_,fun a ha=>?_⟩
 · by_cases hb:b=p
   · subst hb;rw[zE] at e ⊢;exact e
   · rw[yP hb] at e ⊢;exact s b u e
 · exact yP (fun z:a=p=>ha (by rw[z];exact hp))
theorem Step.own {G H:Hp}{p:Addr}{o:HO}(s:Same G H)(hp:H p=none):Step G H G (upd H p o) :=
 ⟨Same.new hp,Same.refl _,s.trans (Same.new hp),fun _ _=>rfl⟩
theorem Step.frz {G H G' H':Hp}{p:Addr}{o:HO}(s:Step G H G' H')(hp:H p=none)(h':H' p=some o)(g':G' p=none):Step G H (upd G' p o) H':=by
 refine⟨s.hh,s.gg.trans (Same.new g'),fun b u e=>?_,fun a ha=>?_⟩
 · by_cases hb:b=p
   · subst hb;rw[zE] at e;rw[h'];exact e
   · rw[yP hb] at e;exact s.sub b u e
 · rw[yP (fun z:a=p=>ha (by rw[z];exact hp))];exact s.new a ha
inductive B where
 | no | fz (d:D) | ow (ds:List D)
 /-- a dict of its own: keys and values -/
 | od (kvs:List (D×D))
 deriving Inhabited
def cO (f:D->Option KT):List D->Option (List KT)
 | []=>some []
 | d::r=>(f d).bind fun k=>(cO f r).map fun ks=>k::ks
def ktD:Nat->D->Option KT
 | _,.int i=>some (.int i)
 | _,.bl b=>some (.int (if b then 1 else 0))
 | n+1,.tup ds=>(cO (ktD n) ds).map .tup
 | _,_=>none
inductive ODs (K:PySem.W.Frag)(G:Hp):List (D×D)->List KT->List Addr->List V->Prop
 | nil:ODs K G [] [] [] []
 | cons {d e:D} {k:KT} {a:Addr} {v:V} {kvs:List (D×D)} {ks:List KT} {as:List Addr} {vs:List V}:ktD 8 d=some k->Rep K G d (.ref a)->Rep K G e v->ODs K G kvs ks as vs->ODs K G ((d,e)::kvs) (k::ks) (a::as) (v::vs)
theorem ODs.mono {K:PySem.W.Frag}{G G':Hp}(h:Same G G'):∀ {kvs ks as vs},ODs K G kvs ks as vs->ODs K G' kvs ks as vs
 | _,_,_,_,.nil=>.nil
 | _,_,_,_,.cons h1 h2 h3 h4=>.cons h1 (h2.mono h) (h3.mono h) (ODs.mono h h4)
inductive RB (K:PySem.W.Frag)(H0 G H:Hp):Option V->B->Prop where
 | no {o:Option V}:RB K H0 G H o .no
 | fz {v:V} {d:D}:Rep K G d v->RB K H0 G H (some v) (.fz d)
 | ow {a:Addr} {vs:List V} {ds:List D}:H a=some (.lst vs)->G a=none->H0 a=none->Reps K G ds vs->RB K H0 G H (some (.ref a)) (.ow ds)
 | od {a:Addr} {kvs:List (D×D)} {ks:List KT} {as:List Addr} {vs:List V}:H a=some (.ext (mR a ks as vs))->G a=none->H0 a=none->ODs K G kvs ks as vs->ks.Nodup->(a==sysModules)=false->RB K H0 G H (some (.ref a)) (.od kvs)
structure Good (K:PySem.W.Frag)(G0 H0 G H:Hp)(σ:St)(ρ:List B):Prop where
 st:Step G0 H0 G H
 vals:Paired (RB K H0 G H) σ ρ
 apart:∀(i j:Nat) (a:Addr) (ds es:List D),ρ[i]?=some (.ow ds)->ρ[j]?=some (.ow es)->σ[i]?=some (some (.ref a))->σ[j]?=some (some (.ref a))->i=j
theorem Paired.get {α β:Type}{F:α->β->Prop}:∀ {l:List α} {r:List β} {i:Nat} {b:β},Paired F l r->r[i]?=some b->∃a,l[i]?=some a/\F a b
 | _,_,_,_,.nil,e=>by simp at e
 | _,_,0,_,.cons h _,e=>by simp at e;subst e;exact⟨_,rfl,h⟩
 | _,_,i+1,b,.cons _ t,e=>by
   obtain⟨a,h1,h2⟩:=Paired.get (i:=i) (b:=b) t (by simpa using e)
   exact⟨a,by simpa using h1,h2⟩
theorem Paired.set {α β:Type}{F:α->β->Prop}{a:α}{b:β}(h:F a b):∀ {l:List α} {r:List β} (i:Nat),Paired F l r->Paired F (l.set i a) (r.set i b)
 | _,_,_,.nil=>.nil
 | _,_,0,.cons _ t=>.cons h t
 | _,_,i+1,.cons q t=>.cons q (Paired.set h i t)
theorem RB.step {K:PySem.W.Frag}{H0 G H G' H':Hp}{o:Option V}{b:B}(r:RB K H0 G H o b)(s:Step G H G' H'):RB K H0 G' H' o b:=by
 cases r with
 | no=>exact .no
 | fz q=>exact .fz (q.mono s.gg)
 | ow h1 h2 h3 h4=>exact .ow (s.hh _ _ h1) ((s.new _ (by rw[h1];exact fun z=>nomatch z)).trans h2) h3 (h4.mono s.gg)
 | od h1 h2 h3 h4 h5 h6=>exact .od (s.hh _ _ h1) ((s.new _ (by rw[h1];exact fun z=>nomatch z)).trans h2) h3 (h4.mono s.gg) h5 h6
theorem Good.step {K:PySem.W.Frag}{G0 H0 G H G' H':Hp}{σ:St}{ρ:List B}(g:Good K G0 H0 G H σ ρ)(s:Step G H G' H'):Good K G0 H0 G' H' σ ρ :=
 ⟨g.st.trans s,Paired.mapP g.vals fun _ _ r=>r.step s,g.apart⟩
theorem Good.sub {K:PySem.W.Frag}{G0 H0 G H:Hp}{σ:St}{ρ:List B}(g:Good K G0 H0 G H σ ρ):Same G H:=g.st.sub
abbrev Ef:=List B->Option D
def tF (K:PySem.W.Frag)(f:Ef):TE:=fun σ H Q=>∃G0 H0 G ρ d,Good K G0 H0 G H σ ρ/\f ρ=some d/\∀v H' G',Step G H G' H'->Rep K G' d v->Q v H'
def PF (X:Cx)(e:Expr)(f:Ef):Prop:=PE X e (tF X.K f)
theorem PE.to {X:Cx}{e:Expr}{t:TE}{f:Ef}(h:PE X e t)(imp:∀σ H Q,tF X.K f σ H Q->t σ H Q):PF X e f:=fun pins s σ H Q I q=>h pins s σ H Q I (imp σ H Q q)
abbrev Lf:=List B->Option (List D)
def tFr (K:PySem.W.Frag)(f:Lf):TE:=fun σ H Q=>∃G0 H0 G ρ ds,Good K G0 H0 G H σ ρ/\f ρ=some ds/\∀a vs H' G',Step G H G' H'->H a=none->H' a=some (.lst vs)->G' a=none->Reps K G' ds vs->Q (.ref a) H'
def PFr (X:Cx)(e:Expr)(f:Lf):Prop:=PE X e (tFr X.K f)
theorem PE.toR {X:Cx}{e:Expr}{t:TE}{f:Lf}(h:PE X e t)(imp:∀σ H Q,tFr X.K f σ H Q->t σ H Q):PFr X e f:=fun pins s σ H Q I q=>h pins s σ H Q I (imp σ H Q q)
def eL (f:Lf):Ef:=fun ρ=>(f ρ).map .lst
theorem vH {X:Cx}{e:Expr}{f:Lf}(h:PFr X e f):PF X e (eL f):=by
 refine PE.to h ?_
 rintro σ H Q ⟨G0,H0,G,ρ,d,good,hf,k⟩
 unfold eL at hf
 obtain⟨ds,h1,rfl⟩:=Qu.mp hf
 refine⟨G0,H0,G,ρ,ds,good,h1,fun a vs H' G' s hn ha ga rs=>?_⟩
 exact k _ _ (upd G' a (.lst vs)) (s.frz hn ha ga) (xG.mpr ⟨a,vs,rfl,.of zE,rs.mono (Same.new ga)⟩)
abbrev Tf:=List B->Option Bool
def tFT (K:PySem.W.Frag)(f:Tf):TT:=fun σ H Q=>∃G0 H0 G ρ b,Good K G0 H0 G H σ ρ/\f ρ=some b/\∀H' G',Step G H G' H'->Q b H'
def PFT (X:Cx)(e:Expr)(f:Tf):Prop:=PT X e (tFT X.K f)
theorem PT.to {X:Cx}{e:Expr}{t:TT}{f:Tf}(h:PT X e t)(imp:∀σ H Q,tFT X.K f σ H Q->t σ H Q):PFT X e f:=fun pins s σ H Q I q=>h pins s σ H Q I (imp σ H Q q)
def PFW (X:Cx)(e:Expr)(f:Tf):Prop:=PW X e (tFT X.K f)
def tFA (K:PySem.W.Frag)(f:Lf):TA:=fun σ H Q=>∃G0 H0 G ρ ds,Good K G0 H0 G H σ ρ/\f ρ=some ds/\∀vs H' G',Step G H G' H'->Reps K G' ds vs->Q vs H'
def PFA (X:Cx)(es:List Expr)(f:Lf):Prop:=PA X es (tFA X.K f)
theorem PA.to {X:Cx}{es:List Expr}{t:TA}{f:Lf}(h:PA X es t)(imp:∀σ H Q,tFA X.K f σ H Q->t σ H Q):PFA X es f:=fun pos pins s σ H Q I q=>h pos pins s σ H Q I (imp σ H Q q)
section
variable {X:Cx} {a b c e:Expr} {es:List Expr} {fa fb fc:Ef} {ga gb:Lf} {ta tb:Tf} {pos:Pos}
def rC (ρ:List B)(i:Nat):Option D:=match ρ[i]? with | some (.fz d)=>some d | _=>none
def eV (i:Nat):Ef:=fun ρ=>rC ρ i
theorem zSo {K:PySem.W.Frag}{G0 H0 G H:Hp}{σ:St}{ρ:List B}{i:Nat}{d:D}(g:Good K G0 H0 G H σ ρ)(h:rC ρ i=some d):∃v,σ[i]?=some (some v)/\Rep K G d v:=by
 unfold rC at h
 split at h
 · rename_i d' e
   cases h
   obtain⟨o,h1,r⟩:=Paired.get g.vals e
   cases r with
   | fz r=>exact⟨_,h1,r⟩
 · cases h
theorem zT (i:Nat){x:Str}(hN:X.N[i]?=some x:=by rfl)(hv:Vis X.env.scope x:=by first | exact Or.inl rfl | exact Or.inr (Or.inl rfl) | exact Or.inr (Or.inr rfl))(hd:(x==("__debug__":Str))=false:=by decide)(hcd:(x==("__classdict__":Str))=false:=by decide):PF X (.Name x pos) (eV i):=by
 refine PE.to (oY hN hv hd hcd) ?_
 rintro σ H Q ⟨G0,H0,G,ρ,d,good,hf,k⟩
 obtain⟨v,h1,r⟩:=zSo good hf
 exact⟨v,h1,k v H G (.refl good.sub) r⟩
def eC (d:D):Ef:=fun _=>some d
theorem cL {v:V}{d:D}(h:PE X e (tC v))(r:∀G,Rep X.K G d v):PF X e (eC d):=by
 refine PE.to h ?_
 rintro σ H Q ⟨G0,H0,G,ρ,d',good,hf,k⟩
 cases hf
 exact k v H G (.refl good.sub) (r G)
theorem zX {i:Int}{j:Nat}:PF X (.Constant (.int i) j pos) (eC (.int i)):=cL zM7 fun _=>zH.mpr rfl
theorem pG {i:Bool}{j:Nat}:PF X (.Constant (.bool i) j pos) (eC (.bl i)):=cL zKV fun _=>wM.mpr rfl
theorem vJ {j:Nat}:PF X (.Constant .none j pos) (eC .non):=cL zQ2 fun _=>uW.mpr rfl
theorem vO {x:Str}{j:Nat}:PF X (.Constant (.str x) j pos) (eC (.str x)):=cL zMH fun _=>yH.mpr rfl
theorem aD {x y:Str}{t:Tok}(hg:Gl X x)(hm:X.mg x=some (.str y t))(hd:(x==("__debug__":Str))=false:=by decide):PF X (.Name x pos) (eC (.str y)):=cL (zZV (v:=.str y) hg hm ⟨t,rfl⟩ hd) fun _=>yH.mpr rfl
theorem zNq {x:Str}{i:Int}{t:Tok}(hg:Gl X x)(hm:X.mg x=some (.int i t))(hd:(x==("__debug__":Str))=false:=by decide):PF X (.Name x pos) (eC (.int i)):=cL (zZV (v:=.int i) hg hm ⟨t,rfl⟩ hd) fun _=>zH.mpr rfl
def eI (C:Int->Int->Bool)(g:Int->Int->Int)(fa fb:Ef):Ef:=fun ρ=>(fa ρ).bind fun x=>(fb ρ).bind fun y=>match x,y with | .int i,.int j=>if C i j then some (.int (g i j)) else none | _,_=>none
theorem zQe {C:Int->Int->Bool}{g:Int->Int->Int}{ρ:List B}{d:D}(h:eI C g fa fb ρ=some d):∃i j,fa ρ=some (.int i)/\fb ρ=some (.int j)/\C i j=true/\d = .int (g i j):=by
 unfold eI at h
 obtain⟨x,h1,h⟩:=Qq.mp h
 obtain⟨y,h2,h⟩:=Qq.mp h
 cases x with
 | int i =>
   cases y with
   | int j =>
     dsimp only at h
     split at h
     · rename_i hc;cases h;exact⟨i,j,h1,h2,hc,rfl⟩
     · cases h
   | _=>cases h
 | _=>cases h
theorem zTW {op:Operator}{C:Int->Int->Bool}{P:Int->Int->Prop}{g:Int->Int->Int}(ho:OpR X (binaryOp op) (rI P fun i j=>.int (g i j)))(hP:∀i j,C i j=true->P i j)(ha:PF X a fa)(hb:PF X b fb):PF X (.BinOp a op b pos) (eI C g fa fb):=by
 refine PE.to (zYK ho ha hb) ?_
 rintro σ H Q ⟨G0,H0,G,ρ,d,good,hf,k⟩
 obtain⟨i,j,h1,h2,hc,rfl⟩:=zQe hf
 refine⟨G0,H0,G,ρ,_,good,h1,fun x H1 G1 s1 r1=>⟨G0,H0,G1,ρ,_,good.step s1,h2,fun y H2 G2 s2 r2=>?_⟩⟩
 exact⟨i,j,zH.mp r1,zH.mp r2,hP i j hc,k _ _ G2 (s1.trans s2) (zH.mpr rfl)⟩
theorem zOK {op:Operator}{g:Int->Int->Int}(ho:OpR X (binaryOp op) (rI0 fun i j=>.int (g i j)))(ha:PF X a fa)(hb:PF X b fb):PF X (.BinOp a op b pos) (eI (fun _ _=>true) g fa fb):=by
 refine PE.to (zYK ho ha hb) ?_
 rintro σ H Q ⟨G0,H0,G,ρ,d,good,hf,k⟩
 obtain⟨i,j,h1,h2,hc,rfl⟩:=zQe hf
 refine⟨G0,H0,G,ρ,_,good,h1,fun x H1 G1 s1 r1=>⟨G0,H0,G1,ρ,_,good.step s1,h2,fun y H2 G2 s2 r2=>?_⟩⟩
 exact⟨i,j,zH.mp r1,zH.mp r2,k _ _ G2 (s1.trans s2) (zH.mpr rfl)⟩
abbrev tG:=eI (fun _ _=>true) (fun i j=>i+j)
abbrev wO:=eI (fun _ _=>true) (fun i j=>i - j)
def zZg (i j:Int):Bool:=(decide (-(2^64) < i)&&decide (i < 2^64))||(decide (-(2^64) < j)&&decide (j < 2^64))
abbrev fR:=eI zZg (fun i j=>i*j)
def zYo (_ j:Int):Bool:=decide (0 < j)&&decide (j < 1073741824)
abbrev uO:=eI zYo (fun i j=>i / j)
abbrev xK:=eI (fun _ j=>decide (0 < j)) (fun i j=>i % j)
def zR9 (i j:Int):Bool:=decide (0<=j)&&decide (j<=1000000)&&decide (i.natAbs < 2^64)
abbrev aJ:=eI zR9 (fun i j=>i^j.toNat)
abbrev zU7:=eI (fun _ j=>decide (0<=j)) (fun i j=>i / 2^j.toNat)
abbrev zWX:=eI (fun _ _=>true) (fun i j=>Builtin.bitXor i j)
theorem uP (ha:PF X a fa)(hb:PF X b fb):PF X (.BinOp a .Add b pos) (tG fa fb):=zOK zPG ha hb
theorem uN (ha:PF X a fa)(hb:PF X b fb):PF X (.BinOp a .Sub b pos) (wO fa fb):=zOK zM5 ha hb
theorem lZ (ha:PF X a fa)(hb:PF X b fb):PF X (.BinOp a .Mult b pos) (fR fa fb):=zTW zMb (fun i j h=>by
 unfold zZg at h
 simp only[Tj,Qn,Wo] at h
 exact h) ha hb
theorem vV (ha:PF X a fa)(hb:PF X b fb):PF X (.BinOp a .FloorDiv b pos) (uO fa fb):=zTW zNv (fun i j h=>by
 unfold zYo at h
 simp only[Qn,Wo] at h
 exact h) ha hb
theorem xT (ha:PF X a fa)(hb:PF X b fb):PF X (.BinOp a .Mod b pos) (xK fa fb):=zTW zLP (fun i j h=>Te h) ha hb
theorem zOo {i j:Int}(h:zR9 i j=true):zKT i j:=by
 unfold zR9 at h
 simp only[Qn,Wo] at h
 exact⟨h.1.1,h.1.2,h.2⟩
theorem zZC (ha:PF X a fa)(hb:PF X b fb):PF X (.BinOp a .Pow b pos) (aJ fa fb):=zTW zMp (fun i j h=>zOo h) ha hb
theorem zWv (ha:PF X a fa)(hb:PF X b fb):PF X (.BinOp a .RShift b pos) (zU7 fa fb):=zTW zMi (fun i j h=>Te h) ha hb
theorem zVT (ha:PF X a fa)(hb:PF X b fb):PF X (.BinOp a .BitXor b pos) (zWX fa fb):=zOK zLt ha hb
def zPh (fa:Ef):Ef:=fun ρ=>(fa ρ).bind fun x=>match x with | .int i=>some (.int (-i)) | _=>none
theorem zUj (ha:PF X a fa):PF X (.UnaryOp .USub a pos) (zPh fa):=by
 refine PE.to (zK0 zLz ha) ?_
 rintro σ H Q ⟨G0,H0,G,ρ,d,good,hf,k⟩
 unfold zPh at hf
 obtain⟨x,h1,hf⟩:=Qq.mp hf
 split at hf
 · rename_i i
   cases hf
   exact⟨G0,H0,G,ρ,_,good,h1,fun x H1 G1 s1 r1=>⟨i,zH.mp r1,k _ _ G1 s1 (zH.mpr rfl)⟩⟩
 · cases hf
def eB2 (g:D->D->Option Bool)(fa fb:Ef):Tf:=fun ρ=>(fa ρ).bind fun x=>(fb ρ).bind fun y=>g x y
def sE (t:Tf):Ef:=fun ρ=>(t ρ).map .bl
def gLt:D->D->Option Bool | .int i,.int j=>some (decide (i < j)) | _,_=>none
def gLe:D->D->Option Bool | .int i,.int j=>some (decide (i<=j)) | _,_=>none
def gGt:D->D->Option Bool | .int i,.int j=>some (decide (j < i)) | _,_=>none
def gGe:D->D->Option Bool | .int i,.int j=>some (decide (j<=i)) | _,_=>none
def gEq:D->D->Option Bool
 | .int i,.int j=>some (decide (i=j))
 | .bl i,.bl j=>some (decide (i=j))
 | .str i,.str j=>some (decide (i=j))
 | _,_=>none
def gNe (x y:D):Option Bool:=(gEq x y).map (!·)
def CmR (X:Cx)(op:CmpOp)(g:D->D->Option Bool):Prop:=∃r:R2,OpR X (compareOp op) r/\∀(d d':D) (k:Bool) (G H:Hp) (x y:V) (Q:VK),g d d'=some k->Same G H->Rep X.K G d x->Rep X.K G d' y->(∀H' G',Step G H G' H'->Q (.bl k) H')->r x y H Q
theorem zVW {op:CmpOp}{p:Int->Int->Bool}{g:D->D->Option Bool}(ho:OpR X (compareOp op) (rI0 fun i j=>.bl (p i j)))(hg:∀d d' k,g d d'=some k->∃i j,d = .int i/\d' = .int j/\k=p i j):CmR X op g:=by
 refine⟨_,ho,fun d d' k G H x y Q h s rx ry q=>?_⟩
 obtain⟨i,j,rfl,rfl,rfl⟩:=hg d d' k h
 exact⟨i,j,zH.mp rx,zH.mp ry,q H G (.refl s)⟩
theorem zSS:CmR X .Lt gLt:=zVW zKM fun d d' k h=>by unfold gLt at h;split at h<;>cases h;exact⟨_,_,rfl,rfl,rfl⟩
theorem zSU:CmR X .LtE gLe:=zVW zLk fun d d' k h=>by unfold gLe at h;split at h<;>cases h;exact⟨_,_,rfl,rfl,rfl⟩
theorem zVG:CmR X .Gt gGt:=zVW zK1 fun d d' k h=>by unfold gGt at h;split at h<;>cases h;exact⟨_,_,rfl,rfl,rfl⟩
theorem zSz:CmR X .GtE gGe:=zVW zLl fun d d' k h=>by unfold gGe at h;split at h<;>cases h;exact⟨_,_,rfl,rfl,rfl⟩
theorem zPm {d d':D}{k:Bool}{K:PySem.W.Frag}{G:Hp}{x y:V}(h:gEq d d'=some k)(rx:Rep K G d x)(ry:Rep K G d' y):zLY x y=true/\decide (x=y)=k:=by
 unfold gEq at h
 split at h
 · cases h;rw[zH] at rx ry;subst rx;subst ry;exact⟨rfl,by simp⟩
 · cases h;rw[wM] at rx ry;subst rx;subst ry;exact⟨rfl,by simp⟩
 · cases h;rw[yH] at rx ry;subst rx;subst ry;exact⟨rfl,by simp⟩
 · cases h
theorem uT:CmR X .Eq gEq:=⟨_,zKS,fun d d' k G H x y Q h s rx ry q=>by
 obtain⟨h1,h2⟩:=zPm h rx ry
 exact⟨h1,by rw[h2];exact q H G (.refl s)⟩⟩
theorem zV2:CmR X .NotEq gNe:=⟨_,zKy,fun d d' k G H x y Q h s rx ry q=>by
 unfold gNe at h
 obtain⟨k',h',rfl⟩:=Qu.mp h
 obtain⟨h1,h2⟩:=zPm h' rx ry
 exact⟨h1,by rw[h2];exact q H G (.refl s)⟩⟩
theorem zSB {g:D->D->Option Bool}{ρ:List B}{k:Bool}(h:eB2 g fa fb ρ=some k):∃x y,fa ρ=some x/\fb ρ=some y/\g x y=some k:=by
 unfold eB2 at h
 obtain⟨x,h1,h⟩:=Qq.mp h
 obtain⟨y,h2,h⟩:=Qq.mp h
 exact⟨x,y,h1,h2,h⟩
theorem zZ6 {t:Tf}{ρ:List B}{d:D}(h:sE t ρ=some d):∃k,t ρ=some k/\d = .bl k:=by
 unfold sE at h
 obtain⟨k,h1,rfl⟩:=Qu.mp h
 exact⟨k,h1,rfl⟩
theorem mL {op:CmpOp}{g:D->D->Option Bool}(hc:CmR X op g)(ha:PF X a fa)(hb:PF X b fb)(hm:behindInMarks op b=false:=by first | exact zYW _ | (with_unfolding_all rfl)):PF X (.Compare a [op] [b] pos) (sE (eB2 g fa fb)):=by
 obtain⟨r,ho,hr⟩:=hc
 refine PE.to (zNb ho ha hb hm) ?_
 rintro σ H Q ⟨G0,H0,G,ρ,d,good,hf,k⟩
 obtain⟨c,hf2,rfl⟩:=zZ6 hf
 obtain⟨x,y,h1,h2,h3⟩:=zSB hf2
 refine⟨G0,H0,G,ρ,_,good,h1,fun u H1 G1 s1 r1=>⟨G0,H0,G1,ρ,_,good.step s1,h2,fun v H2 G2 s2 r2=>?_⟩⟩
 exact hr x y c G2 H2 u v Q h3 s2.sub (r1.mono s2.gg) r2 fun H' G' s3=>k _ _ G' ((s1.trans s2).trans s3) (wM.mpr rfl)
theorem yR {op:CmpOp}{g:D->D->Option Bool}(hc:CmR X op g)(ha:PF X a fa)(hb:PF X b fb)(hm:behindInMarks op b=false:=by first | exact zYW _ | (with_unfolding_all rfl)):PFT X (.Compare a [op] [b] pos) (eB2 g fa fb):=by
 obtain⟨r,ho,hr⟩:=hc
 refine PT.to (zZW ho ha hb hm) ?_
 rintro σ H Q ⟨G0,H0,G,ρ,c,good,hf,k⟩
 obtain⟨x,y,h1,h2,h3⟩:=zSB hf
 refine⟨G0,H0,G,ρ,_,good,h1,fun u H1 G1 s1 r1=>⟨G0,H0,G1,ρ,_,good.step s1,h2,fun v H2 G2 s2 r2=>?_⟩⟩
 exact hr x y c G2 H2 u v _ h3 s2.sub (r1.mono s2.gg) r2 fun H' G' s3=>⟨c,rfl,k _ G' ((s1.trans s2).trans s3)⟩
def kU:D->Bool | .non=>true | _=>false
theorem zXO {K:PySem.W.Frag}{G:Hp}{d:D}{v:V}(r:Rep K G d v):decide (v = .non)=kU d:=by
 cases d with
 | non=>rw[uW] at r;subst r;rfl
 | bl b=>rw[wM] at r;subst r;simp[kU]
 | int b=>rw[zH] at r;subst r;simp[kU]
 | str b=>rw[yH] at r;subst r;simp[kU]
 | tup ds=>obtain⟨p,_,rfl,_⟩:=xM.mp r;simp[kU]
 | lst ds=>obtain⟨p,_,rfl,_⟩:=xG.mp r;simp[kU]
 | obj C ns ds=>obtain⟨_,p,_,_,_,rfl,_⟩:=aC.mp r;simp[kU]
 | exc C ns ds=>obtain⟨_,p,_,_,_,rfl,_⟩:=iY.mp r;simp[kU]
def uR:D->D->Option Bool | d,.non=>some (!kU d) | _,_=>none
theorem kJ:CmR X .IsNot uR:=⟨_,zOj,fun d d' k G H x y Q h s rx ry q=>by
 unfold uR at h
 split at h
 · cases h
   refine⟨uW.mp ry,?_⟩
   rw[zXO rx];exact q H G (.refl s)
 · cases h⟩
def tB1 (f:Ef):Tf:=fun ρ=>(f ρ).bind fun x=>match x with | .bl k=>some k | _=>none
theorem zWo {f:Ef}{ρ:List B}{k:Bool}(h:tB1 f ρ=some k):f ρ=some (.bl k):=by
 unfold tB1 at h
 obtain⟨x,h1,h⟩:=Qq.mp h
 split at h
 · cases h;exact h1
 · cases h
theorem qP (ha:PF X a fa)(he:∀whole,isTrue a X.env whole=(do let v ←whole;standAt a.pos;holding [v] (truthy v)):=by intro _;rfl):PFT X a (tB1 fa):=by
 refine PT.to (zL4 ha he) ?_
 rintro σ H Q ⟨G0,H0,G,ρ,c,good,hf,k⟩
 exact⟨G0,H0,G,ρ,_,good,zWo hf,fun u H1 G1 s1 r1=>⟨c,wM.mp r1,k _ G1 s1⟩⟩
def rF (t:Tf):Tf:=fun ρ=>(t ρ).map (!·)
def zXS (t u:Tf):Tf:=fun ρ=>(t ρ).bind fun c=>if c=true then u ρ else some false
def aR (t u:Tf):Tf:=fun ρ=>(t ρ).bind fun c=>if c=true then some true else u ρ
theorem dZ (ha:PFT X a ta):PFT X (.UnaryOp .Not a pos) (rF ta):=by
 refine PT.to (zLL ha) ?_
 rintro σ H Q ⟨G0,H0,G,ρ,c,good,hf,k⟩
 unfold rF at hf
 obtain⟨c',h1,rfl⟩:=Qu.mp hf
 exact⟨G0,H0,G,ρ,_,good,h1,fun H1 G1 s1=>k _ G1 s1⟩
theorem PW.to {t:TT}{f:Tf}(h:PW X e t)(imp:∀σ H Q,tFT X.K f σ H Q->t σ H Q):PFW X e f:=fun whole pins s σ H Q I q=>h whole pins s σ H Q I (imp σ H Q q)
theorem zQR (ha:PFT X a ta):PFW X (.BoolOp .And [a] pos) ta:=zOr ha
theorem mH (ha:PFT X a ta):PFW X (.BoolOp .Or [a] pos) ta:=zLV ha
theorem zOw {rest:List Expr}(ha:PFT X a ta)(hb:PFW X (.BoolOp .And (b::rest) pos) tb):PFW X (.BoolOp .And (a::b::rest) pos) (zXS ta tb):=by
 refine PW.to (zLp ha hb) ?_
 rintro σ H Q ⟨G0,H0,G,ρ,c,good,hf,k⟩
 unfold zXS at hf
 obtain⟨c',h1,hf⟩:=Qq.mp hf
 refine⟨G0,H0,G,ρ,_,good,h1,fun H1 G1 s1=>?_⟩
 split at hf
 · rename_i h;rw[Qx h];exact⟨G0,H0,G1,ρ,c,good.step s1,hf,fun H2 G2 s2=>k _ G2 (s1.trans s2)⟩
 · rename_i h;rw[Wy h];cases hf;exact k _ G1 s1
theorem jZ {rest:List Expr}(ha:PFT X a ta)(hb:PFW X (.BoolOp .Or (b::rest) pos) tb):PFW X (.BoolOp .Or (a::b::rest) pos) (aR ta tb):=by
 refine PW.to (zKB ha hb) ?_
 rintro σ H Q ⟨G0,H0,G,ρ,c,good,hf,k⟩
 unfold aR at hf
 obtain⟨c',h1,hf⟩:=Qq.mp hf
 refine⟨G0,H0,G,ρ,_,good,h1,fun H1 G1 s1=>?_⟩
 split at hf
 · rename_i h;rw[Qx h];cases hf;exact k _ G1 s1
 · rename_i h;rw[Wy h];exact⟨G0,H0,G1,ρ,c,good.step s1,hf,fun H2 G2 s2=>k _ G2 (s1.trans s2)⟩
theorem zUS (h:PFW X e ta):PFT X e ta:=h.pt
theorem zLr {op:BoolOp}(h:PF X a fa):PF X (.BoolOp op [a] pos) fa:=zLC h
def zMU (fa fb:Ef):Ef:=fun ρ=>(tB1 fa ρ).bind fun c=>if c=true then fb ρ else some (.bl false)
theorem zMg {rest:List Expr}(ha:PF X a fa)(hb:PF X (.BoolOp .And (b::rest) pos) fb):PF X (.BoolOp .And (a::b::rest) pos) (zMU fa fb):=by
 refine PE.to (zM3 ha hb) ?_
 rintro σ H Q ⟨G0,H0,G,ρ,d,good,hf,k⟩
 obtain⟨c,h1,hf⟩:=Qq.mp hf
 refine⟨G0,H0,G,ρ,_,good,zWo h1,fun u H1 G1 s1 r1=>⟨c,wM.mp r1,?_⟩⟩
 split at hf
 · rename_i h;rw[Qx h];exact⟨G0,H0,G1,ρ,d,good.step s1,hf,fun v H2 G2 s2 r2=>k _ _ G2 (s1.trans s2) r2⟩
 · rename_i h;rw[Wy h];cases hf;exact k _ _ G1 s1 (wM.mpr rfl)
theorem zP1 (ha:PF X a fa):PF X (.UnaryOp .Not a pos) (sE (rF (tB1 fa))):=by
 refine PE.to (zMG ha) ?_
 rintro σ H Q ⟨G0,H0,G,ρ,d,good,hf,k⟩
 obtain⟨c,hf2,rfl⟩:=zZ6 hf
 unfold rF at hf2
 obtain⟨c',h1,rfl⟩:=Qu.mp hf2
 exact⟨G0,H0,G,ρ,_,good,zWo h1,fun u H1 G1 s1 r1=>⟨c',wM.mp r1,k _ _ G1 s1 (wM.mpr rfl)⟩⟩
def eIf (t:Tf)(fa fb:Ef):Ef:=fun ρ=>(t ρ).bind fun c=>if c=true then fa ρ else fb ρ
theorem zS3 (ht:PFT X c ta)(ha:PF X a fa)(hb:PF X b fb):PF X (.IfExp c a b pos) (eIf ta fa fb):=by
 refine PE.to (zQ3 ht ha hb) ?_
 rintro σ H Q ⟨G0,H0,G,ρ,d,good,hf,k⟩
 unfold eIf at hf
 obtain⟨c',h1,hf⟩:=Qq.mp hf
 refine⟨G0,H0,G,ρ,_,good,h1,fun H1 G1 s1=>?_⟩
 split at hf
 · rename_i h;rw[Qx h];exact⟨G0,H0,G1,ρ,d,good.step s1,hf,fun v H2 G2 s2 r2=>k _ _ G2 (s1.trans s2) r2⟩
 · rename_i h;rw[Wy h];exact⟨G0,H0,G1,ρ,d,good.step s1,hf,fun v H2 G2 s2 r2=>k _ _ G2 (s1.trans s2) r2⟩
def zR:Lf:=fun _=>some []
def zY (f:Ef)(r:Lf):Lf:=fun ρ=>(f ρ).bind fun d=>(r ρ).map fun ds=>d::ds
theorem zW:PFA X [] zR:=by
 refine PA.to yE ?_
 rintro σ H Q ⟨G0,H0,G,ρ,d,good,hf,k⟩
 cases hf
 exact k [] H G (.refl good.sub) (yQ.mpr rfl)
theorem dB {f:Ef}{r:Lf}{ρ:List B}{ds:List D}(h:zY f r ρ=some ds):∃d dr,f ρ=some d/\r ρ=some dr/\ds=d::dr:=by
 unfold zY at h
 obtain⟨d,h1,h⟩:=Qq.mp h
 obtain⟨dr,h2,rfl⟩:=Qu.mp h
 exact⟨d,dr,h1,h2,rfl⟩
theorem zZ (ha:PF X e fa)(hr:PFA X es ga)(hs:starEach (e::es) X.env=(false,eval e X.env)::starEach es X.env:=by rfl):PFA X (e::es) (zY fa ga):=by
 refine PA.to (yO ha hr hs) ?_
 rintro σ H Q ⟨G0,H0,G,ρ,ds,good,hf,k⟩
 obtain⟨d,dr,h1,h2,rfl⟩:=dB hf
 refine⟨G0,H0,G,ρ,_,good,h1,fun u H1 G1 s1 r1=>⟨G0,H0,G1,ρ,_,good.step s1,h2,fun v H2 G2 s2 r2=>?_⟩⟩
 exact k _ _ G2 (s1.trans s2) (yZ.mpr ⟨u,v,rfl,r1.mono s2.gg,r2⟩)
abbrev lim:Nat:=100000
theorem wK {n:Nat}(h:n<=lim):n < sizeLine:=Rj h (by decide)
def okL (ds:List D):Option (List D):=if ds.length<=lim then some ds else none
theorem dE {ds es:List D}(h:okL ds=some es):es=ds/\ds.length<=lim:=by
 unfold okL at h
 split at h
 · rename_i q;cases h;exact⟨rfl,q⟩
 · cases h
def yX (g:Lf):Ef:=fun ρ=>((g ρ).bind okL).map .tup
theorem zP {k:Nat}(h:PFA X es ga):PF X (.Tuple es k pos) (yX ga):=by
 refine PE.to (zMx h) ?_
 rintro σ H Q ⟨G0,H0,G,ρ,d,good,hf,k⟩
 unfold yX at hf
 obtain⟨ds,h1,rfl⟩:=Qu.mp hf
 obtain⟨es,h1,h2⟩:=Qq.mp h1
 obtain⟨rfl,h3⟩:=dE h2
 refine⟨G0,H0,G,ρ,_,good,h1,fun vs H1 G1 s1 r1=>⟨by rw[←r1.length];exact Wd (wK h3),fun p hp=>?_⟩⟩
 have s2:=Step.laid (o:=.tup vs) s1.sub hp
 exact k _ _ _ (s1.trans s2) (xM.mpr ⟨p,vs,rfl,.of zE,r1.mono s2.gg⟩)
def xP (g:Lf):Lf:=fun ρ=>(g ρ).bind okL
theorem yC (h:PFA X es ga):PFr X (.List es pos) (xP ga):=by
 refine PE.toR (zPS h) ?_
 rintro σ H Q ⟨G0,H0,G,ρ,d,good,hf,k⟩
 unfold xP at hf
 obtain⟨es,h1,h2⟩:=Qq.mp hf
 obtain⟨rfl,h3⟩:=dE h2
 refine⟨G0,H0,G,ρ,_,good,h1,fun vs H1 G1 s1 r1=>⟨by rw[←r1.length];exact Wd (wK h3),fun p hp=>?_⟩⟩
 exact k p vs _ G1 (s1.trans (Step.own s1.sub hp)) (s1.hh.free hp) zE (s1.sub.free hp) r1
def atD (x y:D):Option D:=match x,y with
 | .tup ds,.int i=>atI ds i
 | .lst ds,.int i=>atI ds i
 | .str z,.int i=>if z.length<=lim then(atI z.cps.toList i).map fun c=>.str ⟨#[c]⟩ else none
 | _,_=>none
def eIx (fa fb:Ef):Ef:=fun ρ=>(fa ρ).bind fun x=>(fb ρ).bind fun y=>atD x y
theorem zYZ {K:PySem.W.Frag}{G:Hp}{ds:List D}{vs:List V}{i:Int}{d:D}(r:Reps K G ds vs)(h:atI ds i=some d):∃v,atI vs i=some v/\Rep K G d v:=by
 unfold atI at h ⊢
 rw[r.length] at h
 obtain⟨j,h1,h2⟩:=Qq.mp h
 obtain⟨v,h3,h4⟩:=r.get h2
 exact⟨v,by rw[h1];exact h3,h4⟩
theorem xD (ha:PF X a fa)(hb:PF X b fb)(hs:aF b:=by exact fun _ _=>rfl):PF X (.Subscript a b pos) (eIx fa fb):=by
 refine PE.to (zQM zL0 ha hb hs) ?_
 rintro σ H Q ⟨G0,H0,G,ρ,d,good,hf,k⟩
 unfold eIx at hf
 obtain⟨x,h1,hf⟩:=Qq.mp hf
 obtain⟨y,h2,hf⟩:=Qq.mp hf
 refine⟨G0,H0,G,ρ,_,good,h1,fun u H1 G1 s1 r1=>⟨G0,H0,G1,ρ,_,good.step s1,h2,fun v H2 G2 s2 r2=>?_⟩⟩
 have r1:=r1.mono s2.gg
 have s3:=s1.trans s2
 unfold atD at hf
 split at hf
 · obtain⟨p,vs,rfl,q,rs⟩:=xM.mp r1
   obtain⟨w,e,rw'⟩:=zYZ rs hf
   exact .inr (.inl ⟨p,vs,_,w,rfl,zH.mp r2,s2.sub.tup q,e,k _ _ G2 s3 rw'⟩)
 · obtain⟨p,vs,rfl,q,rs⟩:=xG.mp r1
   obtain⟨w,e,rw'⟩:=zYZ rs hf
   exact .inl ⟨p,vs,_,w,rfl,zH.mp r2,s2.sub.seq q,e,k _ _ G2 s3 rw'⟩
 · split at hf
   · rename_i hz
     obtain⟨c,e,rfl⟩:=Qu.mp hf
     exact .inr (.inr ⟨_,_,c,yH.mp r1,zH.mp r2,Wd (wK hz),e,k _ _ G2 s3 (yH.mpr rfl)⟩)
   · cases hf
 · cases hf
end
inductive Out where
 | nx (ρ:List B) | rt (d:D) | rl (ds:List D) | bk (ρ:List B) | ct (ρ:List B)
 deriving Inhabited
abbrev Sf:=List B->Option Out
def Wants (K:PySem.W.Frag)(G0 H0 G:Hp)(D:Ends):Out->Prop
 | .nx ρ'=>∀σ' H' G',Same G G'->Good K G0 H0 G' H' σ' ρ'->D.nx σ' H'
 | .bk ρ'=>∀σ' H' G',Same G G'->Good K G0 H0 G' H' σ' ρ'->D.bk σ' H'
 | .ct ρ'=>∀σ' H' G',Same G G'->Good K G0 H0 G' H' σ' ρ'->D.ct σ' H'
 | .rt d=>∀v H' G',Step G0 H0 G' H'->Rep K G' d v->D.rt v H'
 | .rl ds=>∀a vs H' G',Step G0 H0 G' H'->H0 a=none->H' a=some (.lst vs)->G' a=none->Reps K G' ds vs->D.rt (.ref a) H'
def tFS (K:PySem.W.Frag)(f:Sf):TS:=fun D σ H=>∃G0 H0 G ρ o,Good K G0 H0 G H σ ρ/\f ρ=some o/\Wants K G0 H0 G D o
def PFS (X:Cx)(st:Stmt)(f:Sf):Prop:=PS X st (tFS X.K f)
def PFSs (X:Cx)(sts:List Stmt)(f:Sf):Prop:=PSs X sts (tFS X.K f)
theorem PS.to {X:Cx}{st:Stmt}{t:TS}{f:Sf}(h:PS X st t)(imp:∀D σ H,tFS X.K f D σ H->t D σ H):PFS X st f:=fun pins s σ H D I q=>h pins s σ H D I (imp D σ H q)
theorem PSs.to {X:Cx}{st:List Stmt}{t:TS}{f:Sf}(h:PSs X st t)(imp:∀D σ H,tFS X.K f D σ H->t D σ H):PFSs X st f:=fun pins s σ H D I q=>h pins s σ H D I (imp D σ H q)
theorem Wants.mono {K:PySem.W.Frag}{G0 H0 G G':Hp}{D:Ends}{o:Out}(h:Wants K G0 H0 G D o)(s:Same G G'):Wants K G0 H0 G' D o:=by
 cases o with
 | nx ρ=>exact fun σ' H' G2 s2 g=>h σ' H' G2 (s.trans s2) g
 | bk ρ=>exact fun σ' H' G2 s2 g=>h σ' H' G2 (s.trans s2) g
 | ct ρ=>exact fun σ' H' G2 s2 g=>h σ' H' G2 (s.trans s2) g
 | rt d=>exact h
 | rl ds=>exact h
theorem vR {ρ:List B}{i j:Nat}{d:D}{ds:List D}(h:(ρ.set i (.fz d))[j]?=some (.ow ds)):j≠i/\ρ[j]?=some (.ow ds):=by
 by_cases e:j=i
 · subst e
   rw[Us] at h
   split at h
   · split at h<;>cases h
   · rename_i z;exact absurd rfl z
 · rw[Wt (Ne.symm e)] at h
   exact⟨e,h⟩
theorem bS {ρ:List B}{i j:Nat}{d:D}{ds:List (D×D)}(h:(ρ.set i (.fz d))[j]?=some (.od ds)):j≠i/\ρ[j]?=some (.od ds):=by
 by_cases e:j=i
 · subst e
   rw[Us] at h
   split at h
   · split at h<;>cases h
   · rename_i z;exact absurd rfl z
 · rw[Wt (Ne.symm e)] at h
   exact⟨e,h⟩
theorem Good.setF {K:PySem.W.Frag}{G0 H0 G H:Hp}{σ:St}{ρ:List B}{v:V}{d:D}(g:Good K G0 H0 G H σ ρ)(i:Nat)(r:Rep K G d v):Good K G0 H0 G H (σ.set i (some v)) (ρ.set i (.fz d)):=by
 refine⟨g.st,Paired.set (.fz r) i g.vals,fun j k a ds es h1 h2 h3 h4=>?_⟩
 obtain⟨n1,e1⟩:=vR h1
 obtain⟨n2,e2⟩:=vR h2
 rw[Wt (Ne.symm n1)] at h3
 rw[Wt (Ne.symm n2)] at h4
 exact g.apart j k a ds es e1 e2 h3 h4
theorem Good.addr {K:PySem.W.Frag}{G0 H0 G H:Hp}{σ:St}{ρ:List B}{i:Nat}{ds:List D}(g:Good K G0 H0 G H σ ρ)(h:ρ[i]?=some (.ow ds)):∃a vs,σ[i]?=some (some (.ref a))/\H a=some (.lst vs)/\G a=none/\H0 a=none/\Reps K G ds vs:=by
 obtain⟨o,e,r⟩:=Paired.get g.vals h
 cases r with
 | ow h1 h2 h3 h4=>exact⟨_,_,e,h1,h2,h3,h4⟩
theorem Good.setO {K:PySem.W.Frag}{G0 H0 G H:Hp}{σ:St}{ρ:List B}{a:Addr}{vs:List V}{ds:List D}(g:Good K G0 H0 G H σ ρ)(i:Nat)(ha:H a=some (.lst vs))(ga:G a=none)(h0:H0 a=none)(rs:Reps K G ds vs)
   (fr:∀(j:Nat) (es:List D),ρ[j]?=some (B.ow es)->σ[j]?≠some (some (V.ref a))):Good K G0 H0 G H (σ.set i (some (.ref a))) (ρ.set i (.ow ds)):=by
 have hl:σ.length=ρ.length:=Paired.length g.vals
 refine⟨g.st,Paired.set (.ow ha ga h0 rs) i g.vals,fun j k b d1 d2 h1 h2 h3 h4=>?_⟩
 by_cases hj:j=i
 · by_cases hk:k=i
   · rw[hj,hk]
   · subst hj
     rw[Wt (Ne.symm hk)] at h2 h4
     have hlt:j < σ.length:=by
       have:=(Ql.mp h3).1
       rwa[Tg] at this
     rw[Eg hlt] at h3
     cases h3
     exact absurd h4 (fr k d2 h2)
 · rw[Wt (Ne.symm hj)] at h1 h3
   by_cases hk:k=i
   · subst hk
     have hlt:k < σ.length:=by
       have:=(Ql.mp h4).1
       rwa[Tg] at this
     rw[Eg hlt] at h4
     cases h4
     exact absurd h3 (fr j d1 h1)
   · rw[Wt (Ne.symm hk)] at h2 h4
     exact g.apart j k b d1 d2 h1 h2 h3 h4
theorem Good.wr {K:PySem.W.Frag}{G0 H0 G H:Hp}{σ:St}{ρ:List B}{a:Addr}{us:List V}{ds es:List D}{i:Nat}(g:Good K G0 H0 G H σ ρ)(hi:ρ[i]?=some (.ow ds))(hs:σ[i]?=some (some (.ref a)))(rs:Reps K G es us) :
   Good K G0 H0 G (upd H a (.lst us)) σ (ρ.set i (.ow es)):=by
 obtain⟨a',vs,h1,h2,h3,h4,_⟩:=g.addr hi
 rw[hs] at h1;cases h1
 have st:Step G0 H0 G (upd H a (.lst us)):=by
   refine⟨fun b o e=>?_,g.st.gg,fun b o e=>?_,g.st.new⟩
   · rw[yP (yJ e h4)];exact g.st.hh b o e
   · rw[yP (yJ e h3)];exact g.st.sub b o e
 have hl:σ.length=ρ.length:=Paired.length g.vals
 have hil:i < ρ.length:=(Ql.mp hi).1
 have key:∀(l:List (Option V)) (r:List B) (n:Nat),Paired (RB K H0 G H) l r->(∀j es,n+j≠i->r[j]?=some (.ow es)->l[j]?≠some (some (.ref a)))->(∀j,n+j=i->l[j]?=some (some (.ref a))) ->
     Paired (RB K H0 G (upd H a (.lst us))) l (if i < n then r else r.set (i - n) (.ow es)):=by
   intro l r n p
   induction p generalizing n with
   | nil=>intro _ _;split<;>exact .nil
   | @cons o b l' r' q t ih =>
     intro hne hat
     have tl:=ih (n+1) (fun j es z e=>by have:=hne (j+1) es (by omega) (by simpa using e);simpa using this) (fun j z=>by have:=hat (j+1) (by omega);simpa using this)
     have keepq:(∀es,b = .ow es->o≠some (.ref a))->RB K H0 G (upd H a (.lst us)) o b:=fun hb=>by
       cases q with
       | no=>exact .no
       | fz r=>exact .fz r
       | @ow c vs ds' c1 c2 c3 c4 =>
         have:c≠a:=fun z=>hb _ rfl (by rw[z])
         exact .ow (by rw[yP this];exact c1) c2 c3 c4
       | @od c _ _ _ _ c1 c2 c3 c4 c5 c6 =>
         have:c≠a:=fun z=>by rw[z,h2] at c1;cases c1
         exact .od (by rw[yP this];exact c1) c2 c3 c4 c5 c6
     by_cases h1:i < n
     · rw[Qx h1]
       rw[Qx (by omega)] at tl
       refine .cons (keepq fun es e z=>?_) tl
       exact hne 0 es (by omega) (by simp[e]) (by simp[z])
     · rw[Wy h1]
       by_cases h2:i=n
       · subst h2
         rw[Qx (by omega)] at tl
         have:=hat 0 (by omega)
         simp at this
         subst this
         rw[Nat.sub_self]
         exact .cons (.ow zE h3 h4 rs) tl
       · rw[Wy (by omega)] at tl
         have e:i - n=(i - (n+1))+1:=by omega
         rw[e]
         refine .cons (keepq fun es e z=>?_) tl
         exact hne 0 es (by omega) (by simp[e]) (by simp[z])
 have vals:=key σ ρ 0 g.vals (fun j es' z e w=>by
   have:=g.apart j i a es' ds e hi w hs
   omega) (fun j z=>by rw[show j=i by omega];exact hs)
 rw[Wy (Ov _),Nat.sub_zero] at vals
 refine⟨st,vals,fun j k b d1 d2 e1 e2 e3 e4=>?_⟩
 have un:∀(j:Nat) (d1:List D),(ρ.set i (B.ow es))[j]?=some (B.ow d1)->∃d,ρ[j]?=some (B.ow d):=fun j d1 e=>by
   by_cases hj:j=i
   · subst hj;exact⟨ds,hi⟩
   · rw[Wt (Ne.symm hj)] at e;exact⟨d1,e⟩
 obtain⟨c1,f1⟩:=un j d1 e1
 obtain⟨c2,f2⟩:=un k d2 e2
 exact g.apart j k b c1 c2 f1 f2 e3 e4
section
variable {X:Cx} {a b c e tg:Expr} {es:List Expr} {fa fb:Ef} {ga:Lf} {ta:Tf} {pos:Pos} {st:Stmt} {sts rest:List Stmt} {f g:Sf}
def zO (f g:Sf):Sf:=fun ρ=>(f ρ).bind fun o=>match o with | .nx ρ'=>g ρ' | o=>some o
def xH:Sf:=fun ρ=>some (.nx ρ)
theorem yW:PFSs X [] xH:=by
 refine PSs.to zW6 ?_
 rintro D σ H ⟨G0,H0,G,ρ,o,good,hf,k⟩
 cases hf
 exact k σ H G (Same.refl _) good
theorem zS (h:PFS X st f):PFSs X [st] f:=zNl h
theorem xN (h1:PFS X st f)(h2:PFSs X rest g):PFSs X (st::rest) (zO f g):=by
 refine PSs.to (kB h1 h2) ?_
 rintro D σ H ⟨G0,H0,G,ρ,o,good,hf,k⟩
 unfold zO at hf
 obtain⟨o1,h1,hf⟩:=Qq.mp hf
 refine⟨G0,H0,G,ρ,o1,good,h1,?_⟩
 cases o1 with
 | nx ρ'=>exact fun σ' H' G' s g'=>⟨G0,H0,G',ρ',o,g',hf,k.mono s⟩
 | rt d=>cases hf;exact k
 | rl d=>cases hf;exact k
 | bk d=>cases hf;exact k
 | ct d=>cases hf;exact k
def xU (f:Ef):Sf:=fun ρ=>(f ρ).map .rt
theorem yV (h:PF X e fa):PFS X (.Return (some e) pos) (xU fa):=by
 refine PS.to (zXc h) ?_
 rintro D σ H ⟨G0,H0,G,ρ,o,good,hf,k⟩
 unfold xU at hf
 obtain⟨d,h1,rfl⟩:=Qu.mp hf
 exact⟨G0,H0,G,ρ,d,good,h1,fun v H' G' s r=>k v H' G' (good.st.trans s) r⟩
def sJ (f:Lf):Sf:=fun ρ=>(f ρ).map .rl
theorem lG (h:PFr X e ga):PFS X (.Return (some e) pos) (sJ ga):=by
 refine PS.to (zXc h) ?_
 rintro D σ H ⟨G0,H0,G,ρ,o,good,hf,k⟩
 unfold sJ at hf
 obtain⟨d,h1,rfl⟩:=Qu.mp hf
 exact⟨G0,H0,G,ρ,d,good,h1,fun p vs H' G' s hn hp gp rs=>k p vs H' G' (good.st.trans s) (good.st.hh.free hn) hp gp rs⟩
def bL (i:Nat):Sf:=fun ρ=>match ρ[i]? with | some (.ow ds)=>some (.rl ds) | _=>none
theorem iK (i:Nat){x:Str}{pos':Pos}(hN:X.N[i]?=some x:=by rfl)(hv:Vis X.env.scope x:=by first | exact Or.inl rfl | exact Or.inr (Or.inl rfl) | exact Or.inr (Or.inr rfl))(hd:(x==("__debug__":Str))=false:=by decide)(hcd:(x==("__classdict__":Str))=false:=by decide) :
   PFS X (.Return (some (.Name x pos')) pos) (bL i):=by
 refine PS.to (zXc (oY hN hv hd hcd)) ?_
 rintro D σ H ⟨G0,H0,G,ρ,o,good,hf,k⟩
 unfold bL at hf
 split at hf
 · rename_i ds e
   cases hf
   obtain⟨p,vs,h1,h2,h3,h4,h5⟩:=good.addr e
   exact⟨.ref p,h1,k p vs H G good.st h4 h2 h3 h5⟩
 · cases hf
def sIf (t:Tf)(f g:Sf):Sf:=fun ρ=>(t ρ).bind fun c=>if c=true then f ρ else g ρ
theorem yK {sa sb:List Stmt}(ht:PFT X c ta)(ha:PFSs X sa f)(hb:PFSs X sb g):PFS X (.If c sa sb pos) (sIf ta f g):=by
 refine PS.to (zMQ ht ha hb) ?_
 rintro D σ H ⟨G0,H0,G,ρ,o,good,hf,k⟩
 unfold sIf at hf
 obtain⟨c',h1,hf⟩:=Qq.mp hf
 refine⟨G0,H0,G,ρ,_,good,h1,fun H1 G1 s1=>?_⟩
 split at hf
 · rename_i h;rw[Qx h];exact⟨G0,H0,G1,ρ,o,good.step s1,hf,k.mono s1.gg⟩
 · rename_i h;rw[Wy h];exact⟨G0,H0,G1,ρ,o,good.step s1,hf,k.mono s1.gg⟩
abbrev Gf:=D->List B->Option (List B)
def tFG (K:PySem.W.Frag)(g:Gf):TG:=fun v σ H Q=>∃G0 H0 G ρ d ρ',Good K G0 H0 G H σ ρ/\Rep K G d v/\g d ρ=some ρ'/\∀σ' H' G',Step G H G' H'->Good K G0 H0 G' H' σ' ρ'->Q σ' H'
def PFG (X:Cx)(tg:Expr)(g:Gf):Prop:=PG X tg (tFG X.K g)
abbrev Gfs:=List D->List B->Option (List B)
def zJV (K:PySem.W.Frag)(g:Gfs):TGs:=fun vs σ H Q=>∃G0 H0 G ρ ds ρ',Good K G0 H0 G H σ ρ/\Reps K G ds vs/\g ds ρ=some ρ'/\∀σ' H' G',Step G H G' H'->Good K G0 H0 G' H' σ' ρ'->Q σ' H'
def zNm (X:Cx)(tgs:List Expr)(g:Gfs):Prop:=PGs X tgs (zJV X.K g)
def gN (i:Nat):Gf:=fun d ρ=>some (ρ.set i (.fz d))
theorem xV (i:Nat){x:Str}(hN:X.N.Nodup)(hi:X.N[i]?=some x:=by rfl)(hx:Loc X.env.scope x:=by first | exact .inl rfl | exact .inr rfl)(hf:X.fn x=true∨X.env.scope.names.lookup x=some .local:=by first | exact .inl rfl | exact .inr rfl):PFG X (.Name x pos) (gN i):=by
 have h:=zO8 (pos:=pos) hN hi hx hf
 intro pins s σ H v u Q I r q
 refine h pins s σ H v u Q I r ?_
 obtain⟨G0,H0,G,ρ,d,ρ',good,rd,hf,k⟩:=q
 cases hf
 exact k _ H G (.refl good.sub) (good.setF i rd)
def xS:Gfs:=fun ds ρ=>match ds with | []=>some ρ | _=>none
def zN (g:Gf)(r:Gfs):Gfs:=fun ds ρ=>match ds with | d::dr=>(g d ρ).bind fun ρ'=>r dr ρ' | _=>none
theorem xW:zNm X [] xS:=by
 intro pins s σ H vs us Q I r q
 refine zN9 pins s σ H vs us Q I r ?_
 obtain⟨G0,H0,G,ρ,ds,ρ',good,rd,hf,k⟩:=q
 unfold xS at hf
 split at hf
 · cases hf
   rw[yQ] at rd
   exact⟨rd,k _ H G (.refl good.sub) good⟩
 · cases hf
theorem zK {g:Gf}{r:Gfs}(h1:PFG X e g)(h2:zNm X es r)(hs:(assignEach (e::es) X.env).map (·.2)=assign e X.env::(assignEach es X.env).map (·.2):=by rfl):zNm X (e::es) (zN g r):=by
 intro pins s σ H vs us Q I rv q
 refine zOD h1 h2 hs pins s σ H vs us Q I rv ?_
 obtain⟨G0,H0,G,ρ,ds,ρ',good,rd,hf,k⟩:=q
 unfold zN at hf
 split at hf
 · rename_i d dr
   obtain⟨ρ1,e1,e2⟩:=Qq.mp hf
   obtain⟨v,vr,rfl,r1,r2⟩:=yZ.mp rd
   exact⟨v,vr,rfl,G0,H0,G,ρ,d,ρ1,good,r1,e1,fun σ' H' G' s' g'=>⟨G0,H0,G',ρ1,dr,ρ',g',r2.mono s'.gg,e2,fun σ2 H2 G2 s2 g2=>k σ2 H2 G2 (s'.trans s2) g2⟩⟩
 · cases hf
def gT (r:Gfs):Gf:=fun d ρ=>match d with | .tup ds=>r ds ρ | _=>none
theorem oS {r:Gfs}{k:Nat}(n:Nat)(hc:X.calm=true)(h:zNm X es r)(hr:∀ds ρ ρ',r ds ρ=some ρ'->ds.length=n)(hn:(assignEach es X.env).length=n:=by rfl)(hst:(assignEach es X.env).findIdx? (·.1)=none:=by rfl):PFG X (.Tuple es k pos) (gT r):=by
 have h:=zMw (pos:=pos) (k:=k) hc h hn hst
 intro pins s σ H v u Q I rv q
 refine h pins s σ H v u Q I rv ?_
 obtain⟨G0,H0,G,ρ,d,ρ',good,rd,hf,k⟩:=q
 unfold gT at hf
 split at hf
 · obtain⟨p,vs,rfl,h1,h2⟩:=xM.mp rd
   exact⟨p,vs,rfl,good.sub.tup h1,by rw[←h2.length];exact hr _ _ _ hf,G0,H0,G,ρ,_,ρ',good,h2,hf,k⟩
 · cases hf
theorem yU {g:Gf}{r:Gfs}{n:Nat}(h:∀ds ρ ρ',r ds ρ=some ρ'->ds.length=n):∀ds ρ ρ',zN g r ds ρ=some ρ'->ds.length=n+1:=by
 intro ds ρ ρ' q
 unfold zN at q
 split at q
 · obtain⟨ρ1,e1,e2⟩:=Qq.mp q
   rw[Qi,h _ _ _ e2]
 · cases q
theorem xF:∀ds ρ ρ',xS ds ρ=some ρ'->ds.length=0:=by
 intro ds ρ ρ' q
 unfold xS at q
 split at q
 · rfl
 · cases q
def zZJ (ρ:List B):Prop:=(∀(j:Nat) (es:List D),ρ[j]?≠some (B.ow es))/\∀(j:Nat) (ks:List (D×D)),ρ[j]?≠some (B.od ks)
def zRp (g:Gf):Prop:=∀d ρ ρ',g d ρ=some ρ'->zZJ ρ->zZJ ρ'
def zTa (g:Gfs):Prop:=∀d ρ ρ',g d ρ=some ρ'->zZJ ρ->zZJ ρ'
theorem tD (i:Nat):zRp (gN i):=fun d ρ ρ' h n=>by
 cases h
 exact⟨fun j es e=>n.1 j es (vR e).2,fun j ks e=>n.2 j ks (bS e).2⟩
theorem qG:zTa xS:=fun d ρ ρ' h n=>by
 unfold xS at h
 split at h
 · cases h;exact n
 · cases h
theorem xE {g:Gf}{r:Gfs}(h1:zRp g)(h2:zTa r):zTa (zN g r):=fun d ρ ρ' h n=>by
 unfold zN at h
 split at h
 · obtain⟨ρ1,e1,e2⟩:=Qq.mp h
   exact h2 _ _ _ e2 (h1 _ _ _ e1 n)
 · cases h
theorem zWF {r:Gfs}(h:zTa r):zRp (gT r):=fun d ρ ρ' q n=>by
 unfold gT at q
 split at q
 · exact h _ _ _ q n
 · cases q
def pK (f:Ef)(g:Gf):Sf:=fun ρ=>(f ρ).bind fun d=>(g d ρ).map .nx
theorem zQm {K:PySem.W.Frag}{t:TE}{f:Ef}{g:Gf}(imp:∀σ H Q,tF K f σ H Q->t σ H Q){D:Ends}{σ:St}{H:Hp}(h:tFS K (pK f g) D σ H):zRi t (tFG K g) D σ H:=by
 obtain⟨G0,H0,G,ρ,o,good,hf,k⟩:=h
 unfold pK at hf
 obtain⟨d,h1,hf⟩:=Qq.mp hf
 obtain⟨ρ',h2,rfl⟩:=Qu.mp hf
 exact imp _ _ _ ⟨G0,H0,G,ρ,d,good,h1,fun v H' G' s r=>⟨G0,H0,G',ρ,d,ρ',good.step s,r,h2,fun σ2 H2 G2 s2 g2=>k σ2 H2 G2 (s.gg.trans s2.gg) g2⟩⟩
theorem rW {g:Gf}(he:PF X e fa)(hg:PFG X tg g)(hs:swapsWithSole [tg] e pos.line X.env=pure false:=by rfl)(hw:swappedStores [tg] e X.env=pure none:=by rfl)(h1:(assignEach [tg] X.env).map (·.2)=[assign tg X.env]:=by rfl) :
   PFS X (.Assign [tg] e pos) (pK fa g):=PS.to (zTG he hg hs hw h1) fun D σ H h=>zQm (fun _ _ _ q=>q) h
def yY (i:Nat)(f:Ef):Sf:=fun ρ=>(f ρ).map fun d=>.nx (ρ.set i (.fz d))
theorem zPD {K:PySem.W.Frag}{t:TE}{f:Ef}{i:Nat}(imp:∀σ H Q,tF K f σ H Q->t σ H Q){D:Ends}{σ:St}{H:Hp}(h:tFS K (yY i f) D σ H):zRi t (zVP i) D σ H:=by
 obtain⟨G0,H0,G,ρ,o,good,hf,k⟩:=h
 unfold yY at hf
 obtain⟨d,h1,rfl⟩:=Qu.mp hf
 exact imp _ _ _ ⟨G0,H0,G,ρ,d,good,h1,fun v H' G' s r=>k _ H' G' s.gg ((good.step s).setF i r)⟩
theorem zQ (i:Nat){x:Str}{pos':Pos}(hN:X.N.Nodup)(he:PF X e fa)(hi:X.N[i]?=some x:=by rfl)(hx:Loc X.env.scope x:=by first | exact .inl rfl | exact .inr rfl)(hs:swapsWith e (some (.Name x pos')) pos.line X.env=pure false:=by rfl)
   (hf:X.fn x=true∨X.env.scope.names.lookup x=some .local:=by first | exact .inl rfl | exact .inr rfl):PFS X (.Assign [.Name x pos'] e pos) (yY i fa) :=
 PS.to (zW4 hN hi hx he hs hf) fun D σ H h=>zPD (fun _ _ _ q=>q) h
def sK (i:Nat)(f:Lf):Sf:=fun ρ=>(f ρ).map fun ds=>.nx (ρ.set i (.ow ds))
theorem zVg {K:PySem.W.Frag}{t:TE}{f:Lf}{i:Nat}(imp:∀σ H Q,tFr K f σ H Q->t σ H Q){D:Ends}{σ:St}{H:Hp}(h:tFS K (sK i f) D σ H):zRi t (zVP i) D σ H:=by
 obtain⟨G0,H0,G,ρ,o,good,hf,k⟩:=h
 unfold sK at hf
 obtain⟨ds,h1,rfl⟩:=Qu.mp hf
 refine imp _ _ _ ⟨G0,H0,G,ρ,ds,good,h1,fun p vs H' G' s hn hp gp rs=>?_⟩
 refine k _ H' G' s.gg ((good.step s).setO i hp gp (good.st.hh.free hn) rs fun j es e z=>?_)
 obtain⟨q,us,e1,e2,_⟩:=good.addr e
 rw[e1] at z;cases z
 rw[hn] at e2;cases e2
theorem tY (i:Nat){x:Str}{pos':Pos}(hN:X.N.Nodup)(he:PFr X e ga)(hi:X.N[i]?=some x:=by rfl)(hx:Loc X.env.scope x:=by first | exact .inl rfl | exact .inr rfl)(hs:swapsWith e (some (.Name x pos')) pos.line X.env=pure false:=by rfl)
   (hf:X.fn x=true∨X.env.scope.names.lookup x=some .local:=by first | exact .inl rfl | exact .inr rfl):PFS X (.Assign [.Name x pos'] e pos) (sK i ga) :=
 PS.to (zW4 hN hi hx he hs hf) fun D σ H h=>zVg (fun _ _ _ q=>q) h
def zMe (i:Nat)(ρ:List B):List B:=match ρ[i]? with | some (.ow ds)=>ρ.set i (.fz (.lst ds)) | _=>ρ
def bQ (i:Nat)(f:Sf):Sf:=fun ρ=>f (zMe i ρ)
theorem Good.frz {K:PySem.W.Frag}{G0 H0 G H:Hp}{σ:St}{ρ:List B}(g:Good K G0 H0 G H σ ρ)(i:Nat):∃G',Same G G'/\Good K G0 H0 G' H σ (zMe i ρ):=by
 unfold zMe
 split
 · rename_i ds e
   obtain⟨p,vs,h1,h2,h3,h4,h5⟩:=g.addr e
   have sG:Same G (upd G p (.lst vs)):=Same.new h3
   have st:Step G0 H0 (upd G p (.lst vs)) H:=by
     refine⟨g.st.hh,g.st.gg.trans sG,fun b o q=>?_,fun b hb=>?_⟩
     · by_cases z:b=p
       · subst z;rw[zE] at q;rw[h2];exact q
       · rw[yP z] at q;exact g.st.sub b o q
     · rw[yP (fun z:b=p=>hb (by rw[z];exact h4))];exact g.st.new b hb
   have vals:Paired (RB K H0 (upd G p (.lst vs)) H) σ (ρ.set i (.fz (.lst ds))):=by
     have key:∀(l:List (Option V)) (r:List B) (n:Nat),Paired (RB K H0 G H) l r->(∀j es,n+j≠i->r[j]?=some (.ow es)->l[j]?≠some (some (.ref p)))->(∀j,n+j=i->l[j]?=some (some (.ref p))) ->
         Paired (RB K H0 (upd G p (.lst vs)) H) l (if i < n then r else r.set (i - n) (.fz (.lst ds))):=by
       intro l r n q
       induction q generalizing n with
       | nil=>intro _ _;split<;>exact .nil
       | @cons o b l' r' q t ih =>
         intro hne hat
         have tl:=ih (n+1) (fun j es z e=>by have:=hne (j+1) es (by omega) (by simpa using e);simpa using this) (fun j z=>by have:=hat (j+1) (by omega);simpa using this)
         have keepq:(∀es,b = .ow es->o≠some (.ref p))->RB K H0 (upd G p (.lst vs)) H o b:=fun hb=>by
           cases q with
           | no=>exact .no
           | fz r=>exact .fz (r.mono sG)
           | @ow c vs' ds' c1 c2 c3 c4 =>
             have:c≠p:=fun z=>hb _ rfl (by rw[z])
             exact .ow c1 (by rw[yP this];exact c2) c3 (c4.mono sG)
           | @od c _ _ _ _ c1 c2 c3 c4 c5 c6 =>
             have:c≠p:=fun z=>by rw[z,h2] at c1;cases c1
             exact .od c1 (by rw[yP this];exact c2) c3 (c4.mono sG) c5 c6
         by_cases h1:i < n
         · rw[Qx h1]
           rw[Qx (by omega)] at tl
           exact .cons (keepq fun es e z=>hne 0 es (by omega) (by simp[e]) (by simp[z])) tl
         · rw[Wy h1]
           by_cases h2:i=n
           · subst h2
             rw[Qx (by omega)] at tl
             have:=hat 0 (by omega)
             simp at this
             subst this
             rw[Nat.sub_self]
             exact .cons (.fz (xG.mpr ⟨p,vs,rfl,.of zE,h5.mono sG⟩)) tl
           · rw[Wy (by omega)] at tl
             have e:i - n=(i - (n+1))+1:=by omega
             rw[e]
             exact .cons (keepq fun es e z=>hne 0 es (by omega) (by simp[e]) (by simp[z])) tl
     have v:=key σ ρ 0 g.vals (fun j es' z e' w=>by have:=g.apart j i p es' ds e' e w h1;omega) (fun j z=>by rw[show j=i by omega];exact h1)
     rw[Wy (Ov _),Nat.sub_zero] at v
     exact v
   refine⟨_,sG,st,vals,fun j k b d1 d2 e1 e2 e3 e4=>?_⟩
   obtain⟨_,f1⟩:=vR e1
   obtain⟨_,f2⟩:=vR e2
   exact g.apart j k b d1 d2 f1 f2 e3 e4
 · exact⟨G,Same.refl _,g⟩
theorem qT (i:Nat)(h:PFS X st f):PFS X st (bQ i f):=by
 refine PS.to h ?_
 rintro D σ H ⟨G0,H0,G,ρ,o,good,hf,k⟩
 obtain⟨G',s,g'⟩:=good.frz i
 exact⟨G0,H0,G',_,o,g',hf,k.mono s⟩
end
def cY (K:PySem.W.Frag)(J:It)(G:Hp)(ds:List D):Prop:=∀(i:Nat) (G2 H2:Hp),Same G G2->Same G2 H2 ->
 (∀d,ds[i]?=some d->J.go i H2/\∀x H3,J.yld i H2 x H3->∃G3,Step G2 H2 G3 H3/\Rep K G3 d x)/\(ds.length<=i->J.stop i H2)
def tFI (K:PySem.W.Frag)(f:Lf):TI:=fun σ H R=>∃G0 H0 G ρ ds,Good K G0 H0 G H σ ρ/\f ρ=some ds/\∀J H' G',Step G H G' H'->cY K J G' ds->R J H'
def PFI (X:Cx)(tg iter:Expr)(f:Lf):Prop:=PI X tg iter (tFI X.K f)
theorem PI.to {X:Cx}{tg e:Expr}{t:TI}{f:Lf}(h:PI X tg e t)(imp:∀σ H R,tFI X.K f σ H R->t σ H R):PFI X tg e f:=fun pins s σ H R I q=>h pins s σ H R I (imp σ H R q)
theorem fF {K:PySem.W.Frag}{G:Hp}{a:Addr}{vs:List V}{ds:List D}(h:SqL K G a vs)(r:Reps K G ds vs):cY K (Itl K a) G ds:=by
 intro i G2 H2 s1 s2
 have q:SqL K H2 a vs:=(s1.trans s2).seq h
 refine⟨fun d hd=>?_,fun hi=>⟨vs,q,by rw[←r.length];exact hi⟩⟩
 obtain⟨v,e,rv⟩:=r.get hd
 refine⟨⟨vs,v,q,e⟩,fun x H3 y=>?_⟩
 obtain⟨rfl,y⟩:=y
 have:=y vs q
 rw[e] at this;cases this
 exact⟨G2,.refl s2,rv.mono s1⟩
theorem zUn {K:PySem.W.Frag}{G:Hp}{a:Addr}{vs:List V}{ds:List D}(h:SqT K G a vs)(r:Reps K G ds vs):cY K (Itt K a) G ds:=by
 intro i G2 H2 s1 s2
 have q:SqT K H2 a vs:=(s1.trans s2).tup h
 refine⟨fun d hd=>?_,fun hi=>⟨vs,q,by rw[←r.length];exact hi⟩⟩
 obtain⟨v,e,rv⟩:=r.get hd
 refine⟨⟨vs,v,q,e⟩,fun x H3 y=>?_⟩
 obtain⟨rfl,y⟩:=y
 have:=y vs q
 rw[e] at this;cases this
 exact⟨G2,.refl s2,rv.mono s1⟩
def tX (lo:Int)(n:Nat):List D:=(List.range n).map fun i=>D.int (lo+(i:Nat))
theorem dX {K:PySem.W.Frag}{G:Hp}{lo:Int}{n:Nat}:cY K (Itr lo n) G (tX lo n):=by
 intro i G2 H2 s1 s2
 have hl:(tX lo n).length=n:=by simp[tX]
 refine⟨fun d hd=>?_,fun hi=>by rw[hl] at hi;exact hi⟩
 have hi:i < n:=by rw[←hl];exact(Ql.mp hd).1
 refine⟨hi,fun x H3 y=>?_⟩
 obtain⟨rfl,rfl⟩:=y
 have e:d = .int (lo+i):=by
   unfold tX at hd
   rw[Wu,List.getElem?_range hi] at hd
   exact(Wp hd).symm
 subst e
 exact⟨G2,.refl s2,zH.mpr rfl⟩
section
variable {X:Cx} {a b c e tg elt iter:Expr} {es ifs:List Expr} {fa fb:Ef} {ga gi:Lf} {ta tc:Tf} {pos:Pos} {st:Stmt} {sts rest:List Stmt} {f g:Sf}
def iL (f:Ef):Lf:=fun ρ=>(f ρ).bind fun d=>match d with | .lst ds=>some ds | _=>none
def iT (f:Ef):Lf:=fun ρ=>(f ρ).bind fun d=>match d with | .tup ds=>some ds | _=>none
theorem zSd (h:PF X e fa):PFI X tg e (iL fa):=by
 refine PI.to (zTc h) ?_
 rintro σ H R ⟨G0,H0,G,ρ,ds,good,hf,k⟩
 unfold iL at hf
 obtain⟨d,h1,hf⟩:=Qq.mp hf
 cases d with
 | lst es =>
   cases hf
   refine⟨G0,H0,G,ρ,_,good,h1,fun x H1 G1 s1 r1=>?_⟩
   obtain⟨p,vs,rfl,q,rs⟩:=xG.mp r1
   exact⟨p,rfl,⟨vs,s1.sub.seq q⟩,k _ H1 G1 s1 (fF q rs)⟩
 | _=>cases hf
theorem zMO (h:PFr X e ga):PFI X tg e ga:=by
 refine PI.to (zTc h) ?_
 rintro σ H R ⟨G0,H0,G,ρ,ds,good,hf,k⟩
 refine⟨G0,H0,G,ρ,_,good,hf,fun p vs H1 G1 s1 hn hp gp rs=>?_⟩
 exact⟨p,rfl,⟨vs,.of hp⟩,k _ H1 (upd G1 p (.lst vs)) (s1.frz hn hp gp) (fF (.of zE) (rs.mono (Same.new gp)))⟩
theorem zSa (h:PF X e fa):PFI X tg e (iT fa):=by
 refine PI.to (zM9 h) ?_
 rintro σ H R ⟨G0,H0,G,ρ,ds,good,hf,k⟩
 unfold iT at hf
 obtain⟨d,h1,hf⟩:=Qq.mp hf
 cases d with
 | tup es =>
   cases hf
   refine⟨G0,H0,G,ρ,_,good,h1,fun x H1 G1 s1 r1=>?_⟩
   obtain⟨p,vs,rfl,q,rs⟩:=xM.mp r1
   exact⟨p,rfl,⟨vs,s1.sub.tup q⟩,k _ H1 G1 s1 (zUn q rs)⟩
 | _=>cases hf
def iR (f:Ef):Lf:=fun ρ=>(f ρ).bind fun d=>match d with | .int n=>if decide (-1000000<=n)&&decide (n<=1000000) then some (tX 0 n.toNat) else none | _=>none
theorem zYR {p:Pos}(hg:Gl X "range")(hm:X.mg "range"=none)(h:PF X a fa)(hs:starEach [a] X.env=[(false,eval a X.env)]:=by rfl):PFI X tg (.Call (.Name "range" p) [a] [] pos) (iR fa):=by
 refine PI.to (zRQ hg hm (yO h yE (by rw[hs];rfl)) hs) ?_
 rintro σ H R ⟨G0,H0,G,ρ,ds,good,hf,k⟩
 unfold iR at hf
 obtain⟨d,h1,hf⟩:=Qq.mp hf
 cases d with
 | int n =>
   dsimp only at hf
   split at hf
   · rename_i hc
     cases hf
     simp only[Qn,Wo] at hc
     refine⟨G0,H0,G,ρ,_,good,h1,fun x H1 G1 s1 r1=>⟨n,by rw[zH.mp r1],by omega,by omega,k _ H1 G1 s1 dX⟩⟩
   · cases hf
 | _=>cases hf
def iR2 (f g:Ef):Lf:=fun ρ=>(f ρ).bind fun x=>(g ρ).bind fun y=>match x,y with | .int m,.int n=>if decide (-1000000<=m)&&decide (m<=1000000)&&decide (-1000000<=n)&&decide (n<=1000000) then some (tX m (n - m).toNat) else none | _,_=>none
theorem zKI {p:Pos}(hg:Gl X "range")(hm:X.mg "range"=none)(h:PF X a fa)(h':PF X b fb)(hs:starEach [a,b] X.env=[(false,eval a X.env),(false,eval b X.env)]:=by rfl)(hs2:starEach [b] X.env=[(false,eval b X.env)]:=by rfl):PFI X tg (.Call (.Name "range" p) [a,b] [] pos) (iR2 fa fb):=by
 refine PI.to (zRj hg hm (yO h (yO h' yE (by rw[hs2];rfl)) (by rw[hs,hs2])) hs hs2) ?_
 rintro σ H R ⟨G0,H0,G,ρ,ds,good,hf,k⟩
 unfold iR2 at hf
 obtain⟨d,h1,hf⟩:=Qq.mp hf
 obtain⟨d',h2,hf⟩:=Qq.mp hf
 cases d with
 | int m =>
   cases d' with
   | int n =>
     dsimp only at hf
     split at hf
     · rename_i hc
       cases hf
       simp only[Qn,Wo] at hc
       refine⟨G0,H0,G,ρ,_,good,h1,fun x H1 G1 s1 r1=>⟨G0,H0,G1,ρ,_,good.step s1,h2,fun y H2 G2 s2 r2=>⟨m,n,by rw[zH.mp r1,zH.mp r2],⟨by omega,by omega,by omega,by omega⟩,k _ H2 G2 (s1.trans s2) dX⟩⟩⟩
     · cases hf
   | _=>cases hf
 | _=>cases hf
def sD (g:Gf)(body:Sf):List D->Sf
 | [],ρ=>some (.nx ρ)
 | d::r,ρ=>(g d ρ).bind fun ρ1=>(body ρ1).bind fun o=>match o with
   | .nx ρ2=>sD g body r ρ2
   | .ct ρ2=>sD g body r ρ2
   | .bk ρ2=>some (.nx ρ2)
   | o=>some o
def tU (src:Lf)(g:Gf)(body:Sf):Sf:=fun ρ=>(src ρ).bind fun ds=>sD g body ds ρ
theorem uB {gt:Gf}{body:List Stmt}{fb:Sf}(hp:PassesOwn (model X.prog X.w) X.A X.env X.xe)(hc:X.calm=true)(hi:PFI X tg iter gi)(hg:PFG X tg gt)(hb:PFSs X body fb)(hs:∀x,foldedSetIterable iter X.env x=pure x:=by intro _;rfl) :
   PFS X (.For tg iter body [] pos) (tU gi gt fb):=by
 refine PS.to (zLv hp hc hi hg hb hs) ?_
 rintro D σ H ⟨G0,H0,G,ρ,o,good,hf,k⟩
 unfold tU at hf
 obtain⟨ds,h1,hf⟩:=Qq.mp hf
 refine⟨G0,H0,G,ρ,ds,good,h1,fun J H1 G1 s1 y=>?_⟩
 refine⟨fun i m σ H=>m=ds.length - i/\i<=ds.length/\∃G2 ρ2,Same G1 G2/\Good X.K G0 H0 G2 H σ ρ2/\sD gt fb (ds.drop i) ρ2=some o,⟨ds.length,by simp,Ye _,G1,ρ,Same.refl _,good.step s1,by simpa using hf⟩,?_⟩
 rintro i m σ2 H2 ⟨rfl,hi',G2,ρ2,sg,good2,hf2⟩
 obtain⟨y1,y2⟩:=y i G2 H2 sg good2.sub
 by_cases hlt:i < ds.length
 · obtain⟨go,yl⟩:=y1 ds[i] (Qp hlt)
   rw[Pe hlt] at hf2
   unfold sD at hf2
   obtain⟨ρ3,e1,hf2⟩:=Qq.mp hf2
   obtain⟨o1,e2,hf2⟩:=Qq.mp hf2
   refine .inr ⟨go,fun σ' H'=>∃G' ρ',Same G1 G'/\Good X.K G0 H0 G' H' σ' ρ'/\sD gt fb (ds.drop (i+1)) ρ'=some o,fun σ' H' ⟨G',ρ',a1,a2,a3⟩=>⟨ds.length - (i+1),by omega,rfl,hlt,G',ρ',a1,a2,a3⟩,fun x H3 yx=>?_⟩
   obtain⟨G3,s3,r3⟩:=yl x H3 yx
   refine⟨G0,H0,G3,ρ2,_,ρ3,good2.step s3,r3,e1,fun σ4 H4 G4 s4 good4=>?_⟩
   have sg4:Same G1 G4:=(sg.trans s3.gg).trans s4.gg
   refine⟨G0,H0,G4,ρ3,o1,good4,e2,?_⟩
   cases o1 with
   | nx ρ5=>exact fun σ5 H5 G5 s5 good5=>⟨G5,ρ5,sg4.trans s5,good5,hf2⟩
   | ct ρ5=>exact fun σ5 H5 G5 s5 good5=>⟨G5,ρ5,sg4.trans s5,good5,hf2⟩
   | bk ρ5=>cases hf2;exact fun σ5 H5 G5 s5 good5=>k σ5 H5 G5 ((s1.gg.trans sg4).trans s5) good5
   | rt d=>cases hf2;exact k
   | rl d=>cases hf2;exact k
 · have e:i=ds.length:=by omega
   subst e
   rw[List.drop_length] at hf2
   cases hf2
   exact .inl ⟨y2 (Qk _),k σ2 H2 G2 (s1.gg.trans sg) good2⟩
def mT (g:Gf)(t:Tf)(elt:Ef):List D->List B->List D->Option (List D)
 | [],_,acc=>some acc
 | d::r,ρ,acc=>(g d ρ).bind fun ρ1=>(t ρ1).bind fun c=>if c=true then(elt ρ1).bind fun y=>mT g t elt r ρ1 (acc++[y]) else mT g t elt r ρ1 acc
def upB (m:Nat)(js:List Nat)(ρ:List B):List B:=List.replicate m .no++js.map fun j=>match ρ[j]? with | some (.fz d)=>.fz d | _=>.no
def yA (src:Lf)(m:Nat)(js:List Nat)(g:Gf)(t:Tf)(elt:Ef):Lf:=fun ρ=>((src ρ).bind okL).bind fun ds=>mT g t elt ds (upB m js ρ) []
theorem Good.up {K:PySem.W.Frag}{G0 H0 G H:Hp}{σ:St}{ρ:List B}(g:Good K G0 H0 G H σ ρ)(m:Nat)(js:List Nat):Good K G H G H (upC m js σ) (upB m js ρ):=by
 refine⟨.refl g.sub,?_,fun i j a ds es h1=>?_⟩
 · unfold upC upB
   have rep:∀m:Nat,Paired (RB K H G H) (List.replicate m (none:Option V)) (List.replicate m B.no):=fun m=>by
     induction m with
     | zero=>exact .nil
     | succ n ih=>rw[Wj,Wj];exact .cons .no ih
   have app:∀ {l1 l2:List (Option V)} {r1 r2:List B},Paired (RB K H G H) l1 r1->Paired (RB K H G H) l2 r2->Paired (RB K H G H) (l1++l2) (r1++r2):=fun h1 h2=>by
     induction h1 with
     | nil=>exact h2
     | cons q t ih=>exact .cons q ih
   refine app (rep m) ?_
   induction js with
   | nil=>exact .nil
   | cons j r ih =>
     rw[Qj,Qj]
     refine .cons ?_ ih
     cases e:ρ[j]? with
     | none=>exact .no
     | some b =>
       obtain⟨o,e1,r1⟩:=Paired.get g.vals e
       cases r1 with
       | no=>exact .no
       | fz q=>rw[e1];exact .fz q
       | ow q1 q2 q3 q4=>exact .no
       | od q1 q2 q3 q4 q5 q6=>exact .no
 · unfold upB at h1
   by_cases hi:i < m
   · rw[Rw (by simpa using hi),Ry] at h1
     split at h1<;>cases h1
   · rw[Es (by simpa using hi),Wu] at h1
     obtain⟨k,_,h1⟩:=Qu.mp h1
     split at h1<;>cases h1
theorem zOB (m:Nat)(js:List Nat)(ρ:List B):zZJ (upB m js ρ):=by
 constructor
 all_goals
   intro i es h1
   unfold upB at h1
   by_cases hi:i < m
   · rw[Rw (by simpa using hi),Ry] at h1
     split at h1<;>cases h1
   · rw[Es (by simpa using hi),Wu] at h1
     obtain⟨k,_,h1⟩:=Qu.mp h1
     split at h1<;>cases h1
theorem Good.wrX {K:PySem.W.Frag}{G0 H0 G H:Hp}{σ:St}{ρ:List B}{p:Addr}{o:HO}(g:Good K G0 H0 G H σ ρ)(n:zZJ ρ)(gp:G p=none)(h0:H0 p=none):Good K G0 H0 G (upd H p o) σ ρ:=by
 refine⟨⟨fun b u e=>?_,g.st.gg,fun b u e=>?_,g.st.new⟩,?_,g.apart⟩
 · rw[yP (yJ e h0)];exact g.st.hh b u e
 · rw[yP (yJ e gp)];exact g.st.sub b u e
 · have key:∀(l:List (Option V)) (r:List B),Paired (RB K H0 G H) l r->zZJ r->Paired (RB K H0 G (upd H p o)) l r:=by
     intro l r q
     induction q with
     | nil=>intro _;exact .nil
     | @cons x b l' r' q t ih =>
       intro n
       refine .cons ?_ (ih ⟨fun j es e=>n.1 (j+1) es (by simpa using e),fun j es e=>n.2 (j+1) es (by simpa using e)⟩)
       cases q with
       | no=>exact .no
       | fz r=>exact .fz r
       | ow _ _ _ _=>exact absurd rfl (n.1 0 _)
       | od _ _ _ _ _ _=>exact absurd rfl (n.2 0 _)
   exact key σ ρ g.vals n
theorem zVt {K:PySem.W.Frag}{m:Nat}{js:List Nat}{gt:Gf}{t:Tf}{el:Ef}(hgo:zRp gt){σ:St}{H:Hp}{Q:VK}(h:tFr K (yA gi m js gt t el) σ H Q):zPe (tFI K gi) m js (tFG K gt) (tFT K t) (tF K el) σ H Q:=by
 obtain⟨G0,H0,G,ρ,out,good,hf,k⟩:=h
 unfold yA at hf
 obtain⟨ds,h1,hf⟩:=Qq.mp hf
 obtain⟨ds',h1,h1'⟩:=Qq.mp h1
 obtain⟨rfl,hlen⟩:=dE h1'
 refine⟨G0,H0,G,ρ,_,good,h1,fun J H1 G1 s1 y D hD=>?_⟩
 have good1:=(good.step s1).up m js
 have hGD:G1 D=none:=s1.sub.free hD
 refine⟨fun i n σ2 H2=>n=ds.length - i/\i<=ds.length/\∃G2 ρ2 acc us,Same G1 G2/\G2 D=none/\H2 D=some (.lst us)/\Reps K G2 acc us/\acc.length<=i/\zZJ ρ2/\Good K G1 H1 G2 H2 σ2 ρ2/\mT gt t el (ds.drop i) ρ2 acc=some out,
   ⟨ds.length,by simp,Ye _,G1,upB m js ρ,[],[],Same.refl _,hGD,zE,yQ.mpr rfl,Qk _,zOB _ _ _,good1.step (Step.own s1.sub hD),by simpa using hf⟩,?_⟩
 rintro i n σ2 H2 ⟨rfl,hi,G2,ρ2,acc,us,sg,gD,hD2,rs,hal,now,good2,hf2⟩
 obtain⟨y1,y2⟩:=y i G2 H2 sg good2.sub
 by_cases hlt:i < ds.length
 · obtain⟨go,yl⟩:=y1 ds[i] (Qp hlt)
   rw[Pe hlt] at hf2
   unfold mT at hf2
   obtain⟨ρ3,e1,hf2⟩:=Qq.mp hf2
   obtain⟨c,e2,hf2⟩:=Qq.mp hf2
   have now3:=hgo _ _ _ e1 now
   refine .inr ⟨go,fun x H3 yx=>?_⟩
   obtain⟨G3,s3,r3⟩:=yl x H3 yx
   refine⟨G1,H1,G3,ρ2,_,ρ3,good2.step s3,r3,e1,fun σ4 H4 G4 s4 good4=>?_⟩
   refine⟨G1,H1,G4,ρ3,c,good4,e2,fun H5 G5 s5=>?_⟩
   have s35:=(s3.trans s4).trans s5
   have hne:H2 D≠none:=by rw[hD2];exact fun z=>nomatch z
   split at hf2
   · rename_i hc
     show if c=true then _ else _
     rw[Qx hc]
     obtain⟨yd,e3,hf2⟩:=Qq.mp hf2
     refine⟨G1,H1,G5,ρ3,yd,good4.step s5,e3,fun v H6 G6 s6 r6=>?_⟩
     have s36:=s35.trans s6
     have hD6:H6 D=some (.lst us):=s36.hh _ _ hD2
     have gD6:G6 D=none:=(s36.new D hne).trans gD
     refine⟨us,ds.length - (i+1),hD6,?_,by omega,rfl,hlt,G6,ρ3,acc++[yd],us++[v],sg.trans s36.gg,gD6,zE,(rs.mono s36.gg).snoc r6,by rw[Qb,Th];omega,now3,((good4.step s5).step s6).wrX now3 gD6 hD,hf2⟩
     rw[←rs.length]
     exact wK (Wi hal (Wi hi hlen))
   · rename_i hc
     show if c=true then _ else _
     rw[Wy hc]
     exact⟨ds.length - (i+1),by omega,rfl,hlt,G5,ρ3,acc,us,sg.trans s35.gg,(s35.new D hne).trans gD,s35.hh _ _ hD2,rs.mono s35.gg,by omega,now3,good4.step s5,hf2⟩
 · have e:i=ds.length:=by omega
   subst e
   rw[List.drop_length] at hf2
   cases hf2
   exact .inl ⟨y2 (Qk _),k D us H2 G2 (s1.trans good2.st) (s1.hh.free hD) hD2 gD rs⟩
def tOK:Tf:=fun _=>some true
def zSv (X:Cx)(ifs:List Expr)(t:Tf):Prop:=zTL X ifs (tFT X.K t)
theorem xX {X:Cx}:zSv X [] tOK:=fun pins s σ H Q I h=>zP3 pins s σ H Q I (by
 obtain⟨G0,H0,G,ρ,b,good,hf,k⟩:=h
 cases hf
 exact k H G (.refl good.sub))
theorem zRk {X:Cx}{c:Expr}{t:Tf}(h:PFT X c t):zSv X [c] t:=zQk h
theorem wF (sc:Scope)(N tgs frees:List Str)(js:List Nat){scope:Scope}{gt:Gf}{t:Tf}{el:Ef}(hgo:zRp gt)(hp:PFI X tg iter gi)(hc:X.calm=true)(hsc:X.env.scope=sc)(hNN:X.N=N)(hok:lJ sc scope N tgs frees js=true)
   (hg:∀C s₀ H₀ fp,PFG (vN X (tgs++frees) scope C s₀ H₀ fp) tg gt) (hi:∀C s₀ H₀ fp,zSv (vN X (tgs++frees) scope C s₀ H₀ fp) ifs t) (he:∀C s₀ H₀ fp,PF (vN X (tgs++frees) scope C s₀ H₀ fp) elt el)
   (hs:∀x,foldedSetIterable iter X.env x=pure x:=by intro _;rfl) :
   PFr X (.ListComp elt [⟨tg,iter,ifs,0⟩] scope pos) (yA gi tgs.length js gt t el) :=
 PE.toR (zNH (g:=tFG X.K gt) (tc:=tFT X.K t) (te:=tF X.K el) sc tgs frees js hp hc hsc (by rw[hNN];exact hok) hg hi he hs) fun σ H Q h=>zVt hgo h
theorem lT (sc:Scope)(N tgs frees:List Str)(js:List Nat){scope:Scope}{gt:Gf}{t:Tf}{el:Ef}(hgo:zRp gt)(i:Nat){x:Str}{pos' spos:Pos}(hN:X.N.Nodup)(hx:X.N[i]?=some x)(hl:X.env.scope.names.lookup x=some .local)(hp:PFI X tg iter gi)(hc:X.calm=true)(hsc:X.env.scope=sc)(hNN:X.N=N)(hok:lJ sc scope N tgs frees js=true)
   (hg:∀C s₀ H₀ fp,PFG (vN X (tgs++frees) scope C s₀ H₀ fp) tg gt) (hi:∀C s₀ H₀ fp,zSv (vN X (tgs++frees) scope C s₀ H₀ fp) ifs t) (he:∀C s₀ H₀ fp,PF (vN X (tgs++frees) scope C s₀ H₀ fp) elt el)
   (hsw:swapsWith (.ListComp elt [⟨tg,iter,ifs,0⟩] scope pos) (some (.Name x pos')) spos.line X.env=pure true:=by with_unfolding_all rfl) (hs:∀x,foldedSetIterable iter X.env x=pure x:=by intro _;rfl) :
   PFS X (.Assign [.Name x pos'] (.ListComp elt [⟨tg,iter,ifs,0⟩] scope pos) spos) (sK i (yA gi tgs.length js gt t el)) :=
 PS.to (zTo (g:=tFG X.K gt) (tc:=tFT X.K t) (te:=tF X.K el) sc tgs frees js hN hx hl hp hc hsc (by rw[hNN];exact hok) hg hi he hsw hs) fun D σ H h=>zVg (fun _ _ _ q=>zVt hgo q) h
end
section
variable {X:Cx} {a b c e tg elt iter:Expr} {es ifs:List Expr} {fa fb fc:Ef} {ga gi:Lf} {ta tc:Tf} {pos:Pos} {st:Stmt} {sts rest:List Stmt} {f g:Sf}
def bV (i:Nat)(f:Ef):Sf:=fun ρ=>(f ρ).bind fun d=>match ρ[i]? with | some (.ow ds)=>if ds.length < lim then some (.nx (ρ.set i (.ow (ds++[d])))) else none | _=>none
theorem bT (i:Nat)(ht:PE X c (tBM X.K "list" zSs (zNA i) (zZd (tF X.K fa) zTw)))(hs:swapsWith c none pos.line X.env=pure false:=by rfl):PFS X (.Expr c pos) (bV i fa):=by
 refine PS.to (zNF ht hs) ?_
 rintro D σ H ⟨G0,H0,G,ρ,o,good,hf,k⟩
 unfold bV at hf
 obtain⟨d,h1,hf⟩:=Qq.mp hf
 split at hf
 · rename_i ds hi
   split at hf
   · rename_i hl
     cases hf
     obtain⟨p,vs,e1,e2,e3,e4,e5⟩:=good.addr hi
     refine⟨.ref p,e1,.inl ⟨rfl,vs,.of e2⟩,G0,H0,G,ρ,d,good,h1,fun v H1 G1 s1 r1=>?_⟩
     have good1:=good.step s1
     obtain⟨p',vs',f1,f2,f3,f4,f5⟩:=good1.addr hi
     rw[e1] at f1;cases f1
     exact⟨p,vs',v,rfl,rfl,f2,by rw[←f5.length];exact wK (Wd hl),k σ _ G1 s1.gg (good1.wr hi e1 (f5.snoc r1))⟩
   · cases hf
 · cases hf
def zRH (j i:Nat)(f:Ef):Sf:=fun ρ=>(f ρ).bind fun d=>match d,ρ[i]? with
 | .int n,some (.ow ds)=>if ds.length<=lim then(ixN ds.length n).bind fun q=>(ds[q]?).map fun x=>.nx ((ρ.set i (.ow (ds.eraseIdx q))).set j (.fz x)) else none
 | _,_=>none
theorem zNn (j i:Nat){y:Str}{p4:Pos}(hNd:X.N.Nodup)(ht:PE X c (tBM X.K "list" zPH (zNA i) (zZd (tF X.K fa) zTw)))(hj:X.N[j]?=some y:=by rfl)(hjx:Loc X.env.scope y:=by first | exact .inl rfl | exact .inr rfl)
   (hs:swapsWith c (some (.Name y p4)) pos.line X.env=pure false:=by rfl) (hfn:X.fn y=true∨X.env.scope.names.lookup y=some .local:=by first | exact .inl rfl | exact .inr rfl) :
   PFS X (.Assign [.Name y p4] c pos) (zRH j i fa):=by
 refine PS.to (zW4 hNd hj hjx ht hs hfn) ?_
 rintro D σ H ⟨G0,H0,G,ρ,o,good,hf,k⟩
 unfold zRH at hf
 obtain⟨d,h1,hf⟩:=Qq.mp hf
 split at hf
 · rename_i n ds hi
   split at hf
   · rename_i hl
     obtain⟨q,hq,hf⟩:=Qq.mp hf
     obtain⟨x',hx,rfl⟩:=Qu.mp hf
     obtain⟨p,vs,e1,e2,e3,e4,e5⟩:=good.addr hi
     refine⟨.ref p,e1,.inl ⟨rfl,vs,.of e2⟩,G0,H0,G,ρ,_,good,h1,fun v H1 G1 s1 r1=>?_⟩
     have good1:=good.step s1
     obtain⟨p',vs',f1,f2,f3,f4,f5⟩:=good1.addr hi
     rw[e1] at f1;cases f1
     obtain⟨w,hw,rw'⟩:=f5.get hx
     have hlen:=f5.length
     rw[hlen] at hq
     obtain⟨q1,q2,q3,q4⟩:=zXb hq
     have hb:vs'.length < 2^40:=by rw[←hlen];exact Rj hl (by decide)
     refine⟨p,vs',n,q,w,rfl,by rw[zH.mp r1],f2,by omega,by omega,q1,hw,?_⟩
     exact k _ _ G1 s1.gg ((good1.wr hi e1 (f5.erase q)).setF j rw')
   · cases hf
 · cases hf
def zY8 (i:Nat)(fi fv:Ef):Sf:=fun ρ=>(fv ρ).bind fun d=>(fi ρ).bind fun n=>match n,ρ[i]? with
 | .int n,some (.ow ds)=>if ds.length<=lim then(ixN ds.length n).map fun q=>.nx (ρ.set i (.ow (ds.set q d))) else none
 | _,_=>none
theorem zWK (i:Nat){x:Str}{p1 p2:Pos}(he:PF X e fa)(hb:PF X b fb)(hN:X.N[i]?=some x:=by rfl)(hv:Vis X.env.scope x:=by first | exact Or.inl rfl | exact Or.inr (Or.inl rfl) | exact Or.inr (Or.inr rfl))(hd:(x==("__debug__":Str))=false:=by decide)(hcd:(x==("__classdict__":Str))=false:=by decide)
   (ha:∀v,assign (.Subscript (.Name x p1) b p2) X.env v=(do
     let ov ←holding [v] (eval (.Name x p1) X.env)
     let iv ←holding [v,ov] (eval b X.env)
     standAt p2
     holding [v,ov,iv] (setItem ov iv v)
     release [v,ov,iv] []):=by intro _;rfl)
   (hs:swapsWithSole [.Subscript (.Name x p1) b p2] e pos.line X.env=pure false:=by rfl) (hw:swappedStores [.Subscript (.Name x p1) b p2] e X.env=pure none:=by rfl)
   (h1:(assignEach [.Subscript (.Name x p1) b p2] X.env).map (·.2)=[assign (.Subscript (.Name x p1) b p2) X.env]:=by rfl):PFS X (.Assign [.Subscript (.Name x p1) b p2] e pos) (zY8 i fb fa):=by
 refine PS.to (zTG he (zPU (oY hN hv hd hcd) hb zQC ha) hs hw h1) ?_
 rintro D σ H ⟨G0,H0,G,ρ,o,good,hf,k⟩
 unfold zY8 at hf
 obtain⟨d,h1,hf⟩:=Qq.mp hf
 obtain⟨n,h2,hf⟩:=Qq.mp hf
 split at hf
 · rename_i n ds hi
   split at hf
   · rename_i hl
     obtain⟨q,hq,rfl⟩:=Qu.mp hf
     refine⟨G0,H0,G,ρ,d,good,h1,fun v H1 G1 s1 r1=>?_⟩
     have good1:=good.step s1
     obtain⟨p,vs,e1,e2,e3,e4,e5⟩:=good1.addr hi
     refine⟨.ref p,e1,G0,H0,G1,ρ,_,good1,h2,fun u H2 G2 s2 r2=>?_⟩
     have good2:=good1.step s2
     obtain⟨p',vs',f1,f2,f3,f4,f5⟩:=good2.addr hi
     rw[e1] at f1;cases f1
     refine⟨p,vs',n,q,rfl,zH.mp r2,f2,by rw[←f5.length];exact hq,?_⟩
     exact k _ _ G2 (s1.gg.trans s2.gg) (good2.wr hi e1 (f5.set q (r1.mono s2.gg)))
   · cases hf
 · cases hf
def zLf:D->Option D
 | .tup ds=>some (.int ds.length)
 | .lst ds=>some (.int ds.length)
 | .str z=>if z.length<=lim then some (.int z.length) else none
 | _=>none
def wA (f:Ef):Ef:=fun ρ=>(f ρ).bind zLf
theorem vT {p:Pos}(hg:Gl X "len")(hm:X.mg "len"=none)(h:PF X a fa)(hs:starEach [a] X.env=[(false,eval a X.env)]:=by rfl):PF X (.Call (.Name "len" p) [a] [] pos) (wA fa):=by
 refine PE.to (rJ (dU.or zWw) hg hm PySem.boot_len (yO h yE (by rw[hs];rfl)) (by decide) (by decide) (by rw[hs];rfl) (by rfl)) ?_
 rintro σ H Q ⟨G0,H0,G,ρ,d,good,hf,k⟩
 unfold wA at hf
 obtain⟨x,h1,hf⟩:=Qq.mp hf
 refine⟨G0,H0,G,ρ,_,good,h1,fun v H1 G1 s1 r1=>?_⟩
 unfold zLf at hf
 split at hf
 · cases hf
   obtain⟨p,vs,rfl,q,rs⟩:=xM.mp r1
   exact .inl ⟨p,vs,rfl,.inr (s1.sub.tup q),k _ _ G1 s1 (zH.mpr (by rw[rs.length]))⟩
 · cases hf
   obtain⟨p,vs,rfl,q,rs⟩:=xG.mp r1
   exact .inl ⟨p,vs,rfl,.inl (s1.sub.seq q),k _ _ G1 s1 (zH.mpr (by rw[rs.length]))⟩
 · split at hf
   · rename_i hz
     cases hf
     exact .inr ⟨_,by rw[yH.mp r1],Wd (wK hz),k _ _ G1 s1 (zH.mpr rfl)⟩
   · cases hf
 · cases hf
def mP (i:Nat):Ef:=fun ρ=>match ρ[i]? with | some (.ow ds)=>some (.int ds.length) | _=>none
theorem zZM (i:Nat){x:Str}{p p1:Pos}(hg:Gl X "len")(hm:X.mg "len"=none)(hN:X.N[i]?=some x:=by rfl)(hv:Vis X.env.scope x:=by first | exact Or.inl rfl | exact Or.inr (Or.inl rfl) | exact Or.inr (Or.inr rfl))(hd:(x==("__debug__":Str))=false:=by decide)(hcd:(x==("__classdict__":Str))=false:=by decide):PF X (.Call (.Name "len" p) [.Name x p1] [] pos) (mP i):=by
 refine PE.to (rJ dU hg hm PySem.boot_len (yO (oY hN hv hd hcd) yE)) ?_
 rintro σ H Q ⟨G0,H0,G,ρ,d,good,hf,k⟩
 unfold mP at hf
 split at hf
 · rename_i ds hi
   cases hf
   obtain⟨q,vs,e1,e2,e3,e4,e5⟩:=good.addr hi
   exact⟨.ref q,e1,q,vs,rfl,.inl (.of e2),k _ _ G (.refl good.sub) (zH.mpr (by rw[e5.length]))⟩
 · cases hf
def zUi:D->Option D | .lst ds=>some (.tup ds) | .tup ds=>some (.tup ds) | _=>none
def vL (f:Ef):Ef:=fun ρ=>(f ρ).bind zUi
theorem uG {p:Pos}(hg:Gl X "tuple")(hm:X.mg "tuple"=none)(h:PF X a fa)(hs:starEach [a] X.env=[(false,eval a X.env)]:=by rfl):PF X (.Call (.Name "tuple" p) [a] [] pos) (vL fa):=by
 refine PE.to (qC zYe hg hm (by rfl) (yO h yE (by rw[hs];rfl)) (by decide) (by decide) (by rw[hs];rfl) (by rfl)) ?_
 rintro σ H Q ⟨G0,H0,G,ρ,d,good,hf,k⟩
 unfold vL at hf
 obtain⟨x,h1,hf⟩:=Qq.mp hf
 refine⟨G0,H0,G,ρ,_,good,h1,fun v H1 G1 s1 r1=>?_⟩
 unfold zUi at hf
 split at hf
 · cases hf
   obtain⟨p,vs,rfl,q,rs⟩:=xG.mp r1
   refine⟨p,vs,rfl,.inl ⟨s1.sub.seq q,fun l hl=>?_⟩⟩
   have s2:=Step.laid (o:=.tup vs) s1.sub hl
   exact k _ _ _ (s1.trans s2) (xM.mpr ⟨l,vs,rfl,.of zE,rs.mono s2.gg⟩)
 · cases hf
   obtain⟨p,vs,rfl,q,rs⟩:=xM.mp r1
   exact⟨p,vs,rfl,.inr ⟨s1.sub.tup q,k _ _ G1 s1 r1⟩⟩
 · cases hf
def zP7:D->Option (List D) | .lst ds=>some ds | .tup ds=>some ds | _=>none
def zWg (f:Ef):Lf:=fun ρ=>(f ρ).bind zP7
theorem zRu {p:Pos}(hg:Gl X "list")(hm:X.mg "list"=none)(h:PF X a fa)(hs:starEach [a] X.env=[(false,eval a X.env)]:=by rfl):PFr X (.Call (.Name "list" p) [a] [] pos) (zWg fa):=by
 refine PE.toR (qC zWs hg hm (by rfl) (yO h yE (by rw[hs];rfl)) (by decide) (by decide) (by rw[hs];rfl) (by rfl)) ?_
 rintro σ H Q ⟨G0,H0,G,ρ,d,good,hf,k⟩
 unfold zWg at hf
 obtain⟨x,h1,hf⟩:=Qq.mp hf
 refine⟨G0,H0,G,ρ,_,good,h1,fun v H1 G1 s1 r1=>?_⟩
 unfold zP7 at hf
 split at hf
 · cases hf
   obtain⟨p,vs,rfl,q,rs⟩:=xG.mp r1
   exact⟨p,vs,rfl,.inl (s1.sub.seq q),fun l hl=>k l vs _ G1 (s1.trans (Step.own s1.sub hl)) (s1.hh.free hl) zE (s1.sub.free hl) rs⟩
 · cases hf
   obtain⟨p,vs,rfl,q,rs⟩:=xM.mp r1
   exact⟨p,vs,rfl,.inr (s1.sub.tup q),fun l hl=>k l vs _ G1 (s1.trans (Step.own s1.sub hl)) (s1.hh.free hl) zE (s1.sub.free hl) rs⟩
 · cases hf
theorem zVa:CallR X (.type "range") (fun xs H Q=>∃j,xs=[.int j]/\∀p,H p=none->Q (.ref p) (upd H p (.rng 0 j))):=by
 intro pins s σ H xs us Q I r h
 obtain⟨j,rfl,q⟩:=h
 obtain⟨u,rfl,ru⟩:=oV r
 obtain⟨t,rfl⟩:=ru
 refine call_range_1 ⟨.ref s.heap.objs.size,_,I.laid (o:=.rng 0 j) (fun b o e=>Qe _ e) (Qk _) ?_,rfl,q _ I.fresh⟩
 exact⟨_,_,_,Qa _ rfl⟩
theorem zYO (hc:X.calm=true):CallR X (.type "list") (fun xs H Q=>∃p j,xs=[.ref p]/\H p=some (.rng 0 j) /\ -1000000<=j/\j<=100000/\∀l,H l=none->Q (.ref l) (upd H l (.lst ((List.range j.toNat).map fun(i:Nat)=>V.int (0+(i:Nat)))))):=by
 intro pins s σ H xs us Q I r h
 obtain⟨p,j,rfl,hp,h1,h2,q⟩:=h
 obtain⟨u,rfl,ru⟩:=oV r
 cases ru
 obtain⟨t,u',v,e⟩:=(show ObjOk X.prog X.w H s.heap p (.rng 0 j) from I.hok p _ hp)
 have hsz:Builtin.Range.rangeSize 0 j 1=(j.toNat:Nat):=by rw[rangeSize_one];split<;>omega
 refine call_list_range (n:=j.toNat) (I.ok.hd hc) (show IsRange s.heap p 0 j 1 t u' v from e) (small_one (by omega) (by omega) (by omega) (by omega)) hsz (by omega) fun h' tk acc' c' hk hS hit=>?_
 have hvals:Vals ((List.range j.toNat).map fun(i:Nat)=>V.int (0+(i:Nat))) acc'.toList:=by
   have hl:acc'.toList.length=j.toNat:=by simpa using hit.1
   have gen:∀(l:List Value) (k:Nat),(∀i v,l[i]?=some v->∃t,v=Value.int (0+((k+i:Nat):Int)) t)->Vals ((List.range' k l.length).map fun(i:Nat)=>V.int (0+(i:Nat))) l:=by
     intro l
     induction l with
     | nil=>intro k _;exact .nil
     | cons y r ih =>
       intro k hh
       rw[Qi,List.range'_succ,Qj]
       refine .cons ?_ (ih (k+1) fun i v e=>?_)
       · obtain⟨t,e⟩:=hh 0 y rfl
         exact⟨t,by simpa using e⟩
       · obtain⟨t,e'⟩:=hh (i+1) v (by simpa using e)
         exact⟨t,by rw[e',show k+(i+1)=k+1+i by omega]⟩
   have:=gen acc'.toList 0 fun i v e=>by
     obtain⟨t,e'⟩:=hit.2 i v (by simpa using e)
     exact⟨t,by rw[e'];simp⟩
   rw[hl,←List.range_eq_range'] at this
   exact this
 refine⟨.ref s.heap.objs.size,_,I.laid (t':=tk) (o:=.lst _) hk (Qk _) ?_,rfl,q _ I.fresh⟩
 exact⟨by rw[Qg,List.length_range];exact Wd (wK (by show j.toNat<=100000;omega)),acc'.toList,c',hvals,by simpa using hS⟩
def zTp (f:Ef):Lf:=fun ρ=>(f ρ).bind fun d=>match d with | .int n=>if decide (-1000000<=n)&&decide (n<=100000) then some (tX 0 n.toNat) else none | _=>none
theorem zRn {K:PySem.W.Frag}{G:Hp}(n:Nat):Reps K G (tX 0 n) ((List.range n).map fun(i:Nat)=>V.int (0+(i:Nat))):=by
 unfold tX
 induction (List.range n) with
 | nil=>exact yQ.mpr rfl
 | cons x r ih=>exact yZ.mpr ⟨_,_,rfl,zH.mpr rfl,ih⟩
theorem zPx {p p1 p2:Pos}(hc:X.calm=true)(hg:Gl X "list")(hm:X.mg "list"=none)(hg':Gl X "range")(hm':X.mg "range"=none)(h:PF X a fa)(hs:starEach [a] X.env=[(false,eval a X.env)]:=by rfl)
   (hs2:starEach [.Call (.Name "range" p1) [a] [] p2] X.env=[(false,eval (.Call (.Name "range" p1) [a] [] p2) X.env)]:=by rfl) :
   PFr X (.Call (.Name "list" p) [.Call (.Name "range" p1) [a] [] p2] [] pos) (zTp fa):=by
 refine PE.toR (qC (zYO hc) hg hm (by rfl) (yO (qC zVa hg' hm' (by rfl) (yO h yE (by rw[hs];rfl)) (by decide) (by decide) (by rw[hs];rfl) (by rfl)) yE (by rw[hs2];rfl)) (by decide) (by decide) (by rw[hs2];rfl) (by rfl)) ?_
 rintro σ H Q ⟨G0,H0,G,ρ,ds,good,hf,k⟩
 unfold zTp at hf
 obtain⟨d,h1,hf⟩:=Qq.mp hf
 cases d with
 | int n =>
   dsimp only at hf
   split at hf
   · rename_i hc
     cases hf
     simp only[Qn,Wo] at hc
     refine⟨G0,H0,G,ρ,_,good,h1,fun x H1 G1 s1 r1=>⟨n,by rw[zH.mp r1],fun p hp=>⟨p,n,rfl,zE,hc.1,hc.2,fun l hl=>?_⟩⟩⟩
     have s2:Step G1 H1 G1 (upd H1 p (.rng 0 n)):=Step.own s1.sub hp
     have s3:=Step.own (o:=.lst ((List.range n.toNat).map fun(i:Nat)=>V.int (0+(i:Nat)))) s2.sub hl
     exact k l _ _ G1 ((s1.trans s2).trans s3) ((s1.trans s2).hh.free hl) zE (s2.sub.free hl) (zRn _)
   · cases hf
 | _=>cases hf
end
def spF (K:PySem.W.Frag)(n:Nat)(f:List D->Option D):Sp:=fun vs H Q _=>∃G ds d,Same G H/\Reps K G ds vs/\ds.length=n/\f ds=some d/\∀v H' G',Step G H G' H'->Rep K G' d v->Q v H'
def spL (K:PySem.W.Frag)(n:Nat)(f:List D->Option (List D)):Sp:=fun vs H Q _=>∃G ds es,Same G H/\Reps K G ds vs/\ds.length=n/\f ds=some es/\∀a us H' G',Step G H G' H'->H a=none->H' a=some (.lst us)->G' a=none->Reps K G' es us->Q (.ref a) H'
def sN (N:Nat)(ds:List D):List B:=ds.map .fz++List.replicate (N - ds.length) .no
def w8:Out->Option D
 | .nx _=>some .non
 | .rt d=>some d
 | .rl ds=>some (.lst ds)
 | _=>none
def zZ5:Out->Option (List D)
 | .rl ds=>some ds
 | _=>none
def fnF (N:Nat)(body:Sf)(ds:List D):Option D:=(body (sN N ds)).bind w8
def fnL (N:Nat)(body:Sf)(ds:List D):Option (List D):=(body (sN N ds)).bind zZ5
theorem lR {K:PySem.W.Frag}{G H:Hp}{N:List Str}{ds:List D}{vs:List V}(s:Same G H)(r:Reps K G ds vs):Good K G H G H (oG N vs) (sN N.length ds):=by
 refine⟨.refl s,?_,fun i j a es es' h1=>?_⟩
 · unfold oG sN
   rw[r.length]
   have rep:∀m:Nat,Paired (RB K H G H) (List.replicate m (none:Option V)) (List.replicate m B.no):=fun m=>by
     induction m with
     | zero=>exact .nil
     | succ n ih=>rw[Wj,Wj];exact .cons .no ih
   have key:∀(ds:List D) (vs:List V) (l:List (Option V)) (q:List B),Reps K G ds vs->Paired (RB K H G H) l q->Paired (RB K H G H) (vs.map some++l) (ds.map .fz++q):=by
     intro ds
     induction ds with
     | nil=>intro vs l q h p;rw[yQ] at h;subst h;exact p
     | cons d r ih =>
       intro vs l q h p
       obtain⟨v,vr,rfl,h1,h2⟩:=yZ.mp h
       exact .cons (.fz h1) (ih vr l q h2 p)
   exact key ds vs _ _ r (rep _)
 · unfold sN at h1
   by_cases hi:i < ds.length
   · rw[Rw (by simpa using hi),Wu] at h1
     obtain⟨k,_,h1⟩:=Qu.mp h1
     cases h1
   · rw[Es (by simpa using hi),Ry] at h1
     split at h1<;>cases h1
section
variable {P:Program} {w:World} {K:PySem.W.Frag} {mg:Str->Option Value} {base:Heap} {x qual:Str} {st:Stmt} {f:Addr} {fd:FuncData} {N ps:List Str} {k:Nat}
theorem wU {body:Sf}(F:Fun K x qual st f fd)(S:FnScope N ps (zU st))
   (hb:∀(cdv:Value) (A:Around) (outer:List Env) (s:Shared) (H:Hp) (E:XK),Room k (A.deeper (envOfC qual (zU st) s.heap.objs.size f cdv))->PFSs (kX CX0 P w K mg base N qual (zU st) f cdv A outer s H E).nox (zI st) body) :
   FnOk P w K mg base CX0 (k+1) f fd ps (spF K ps.length (fnF N.length body)):=by
 refine F.ok S (fun vs H Q E h=>?_) (fun cdv A outer s H vs Q E hr h=>⟨_,hb cdv A outer s H E hr,?_⟩)
 · obtain⟨G,ds,d,sub,rs,hl,_⟩:=h
   rw[←rs.length];exact hl
 · obtain⟨G,ds,d,sub,rs,hl,hf,k⟩:=h
   unfold fnF at hf
   obtain⟨o,h1,h2⟩:=Qq.mp hf
   refine⟨G,H,G,_,o,lR sub rs,h1,?_⟩
   cases o with
   | nx ρ=>cases h2;exact fun σ' H' G' s' g'=>k .non H' G' g'.st (uW.mpr rfl)
   | rt e=>cases h2;exact fun v H' G' s' r=>k v H' G' s' r
   | rl es=>cases h2;exact fun p us H' G' s' hn hp gp r=>k _ H' (upd G' p (.lst us)) (s'.frz hn hp gp) (xG.mpr ⟨p,us,rfl,.of zE,r.mono (Same.new gp)⟩)
   | bk ρ=>cases h2
   | ct ρ=>cases h2
theorem lS {body:Sf}(F:Fun K x qual st f fd)(S:FnScope N ps (zU st))
   (hb:∀(cdv:Value) (A:Around) (outer:List Env) (s:Shared) (H:Hp) (E:XK),Room k (A.deeper (envOfC qual (zU st) s.heap.objs.size f cdv))->PFSs (kX CX0 P w K mg base N qual (zU st) f cdv A outer s H E).nox (zI st) body) :
   FnOk P w K mg base CX0 (k+1) f fd ps (spL K ps.length (fnL N.length body)):=by
 refine F.ok S (fun vs H Q E h=>?_) (fun cdv A outer s H vs Q E hr h=>⟨_,hb cdv A outer s H E hr,?_⟩)
 · obtain⟨G,ds,d,sub,rs,hl,_⟩:=h
   rw[←rs.length];exact hl
 · obtain⟨G,ds,d,sub,rs,hl,hf,k⟩:=h
   unfold fnL at hf
   obtain⟨o,h1,h2⟩:=Qq.mp hf
   refine⟨G,H,G,_,o,lR sub rs,h1,?_⟩
   cases o with
   | rl es=>cases h2;exact fun p us H' G' s' hn hp gp r=>k p us H' G' s' hn hp gp r
   | _=>cases h2
end
section
variable {X:Cx} {a b c e tg elt iter:Expr} {es ifs:List Expr} {fa fb fc:Ef} {ga gi:Lf} {ta tc:Tf} {pos p:Pos} {st:Stmt} {sts rest:List Stmt} {f g:Sf}
def zL (n:Nat)(f:List D->Option D)(g:Lf):Ef:=fun ρ=>(g ρ).bind fun ds=>if ds.length=n then f ds else none
theorem zN0 {k n:Nat}{fad:Addr}{fd:FuncData}{ps:List Str}{x:Str}{fD:List D->Option D}(F:FnOk X.prog X.w X.K X.mg X.base CX0 k fad fd ps (spF X.K n fD))(hr:Room k X.A)(hm:X.mg x=some (.ref fad))(hk:PySem.W.keepIn X.K (.ref fad)=true)(hb:Binds X.K fd ps [])(hg:Gl X x)
   (ha:PFA X (e::es) ga) (hdb:(x==("__debug__":Str))=false:=by decide) (he:starEach (e::es) X.env=(false,eval e X.env)::starEach es X.env:=by rfl) (hpl:(backTo pos (starEach es X.env)).any (·.1)=false:=by rfl) :
   PF X (.Call (.Name x p) (e::es) [] pos) (zL n fD ga):=by
 refine PE.to (zZN (E:=E0) F hr hg hm hk hb .nil zSP ha hdb he hpl) ?_
 rintro σ H Q ⟨G0,H0,G,ρ,d,good,hf,k⟩
 unfold zL at hf
 obtain⟨ds,h1,hf⟩:=Qq.mp hf
 split at hf
 · rename_i hl
   refine⟨G0,H0,G,ρ,_,good,h1,fun vs H1 G1 s1 r1=>?_⟩
   show spF X.K n fD (vs++[]) H1 Q E0
   rw[Wa]
   exact⟨G1,ds,d,s1.sub,r1,hl,hf,fun v H' G' s r=>k v H' G' (s1.trans s) r⟩
 · cases hf
def wD (n:Nat)(f:List D->Option (List D))(g:Lf):Lf:=fun ρ=>(g ρ).bind fun ds=>if ds.length=n then f ds else none
theorem zNC {k n:Nat}{fad:Addr}{fd:FuncData}{ps:List Str}{x:Str}{fD:List D->Option (List D)}(F:FnOk X.prog X.w X.K X.mg X.base CX0 k fad fd ps (spL X.K n fD))(hr:Room k X.A)(hm:X.mg x=some (.ref fad))(hk:PySem.W.keepIn X.K (.ref fad)=true)(hb:Binds X.K fd ps [])(hg:Gl X x)
   (ha:PFA X (e::es) ga) (hdb:(x==("__debug__":Str))=false:=by decide) (he:starEach (e::es) X.env=(false,eval e X.env)::starEach es X.env:=by rfl) (hpl:(backTo pos (starEach es X.env)).any (·.1)=false:=by rfl) :
   PFr X (.Call (.Name x p) (e::es) [] pos) (wD n fD ga):=by
 refine PE.toR (zZN (E:=E0) F hr hg hm hk hb .nil zSP ha hdb he hpl) ?_
 rintro σ H Q ⟨G0,H0,G,ρ,d,good,hf,k⟩
 unfold wD at hf
 obtain⟨ds,h1,hf⟩:=Qq.mp hf
 split at hf
 · rename_i hl
   refine⟨G0,H0,G,ρ,_,good,h1,fun vs H1 G1 s1 r1=>?_⟩
   show spL X.K n fD (vs++[]) H1 Q E0
   rw[Wa]
   exact⟨G1,ds,d,s1.sub,r1,hl,hf,fun p us H' G' s hn hp gp r=>k p us H' G' (s1.trans s) (s1.hh.free hn) hp gp r⟩
 · cases hf
def uM (t:Tf)(body:Sf):Nat->Sf
 | 0,_=>none
 | n+1,ρ=>(t ρ).bind fun c=>if c=true then(body ρ).bind fun o=>match o with
     | .nx ρ2=>uM t body n ρ2
     | .ct ρ2=>uM t body n ρ2
     | .bk ρ2=>some (.nx ρ2)
     | o=>some o
   else some (.nx ρ)
theorem zXQ (n:Nat){body:List Stmt}{fb:Sf}(hp:PassesOwn (model X.prog X.w) X.A X.env X.xe)(hc:PFT X c tc)(hb:PFSs X body fb):PFS X (.While c body [] pos) (uM tc fb n):=by
 refine PS.to (zP5 hp hc hb) ?_
 rintro D σ H ⟨G0,H0,G,ρ,o,good,hf,k⟩
 refine⟨fun m σ H=>∃G2 ρ2,Same G G2/\Good X.K G0 H0 G2 H σ ρ2/\uM tc fb m ρ2=some o,⟨n,G,ρ,Same.refl _,good,hf⟩,?_⟩
 rintro m σ2 H2 ⟨G2,ρ2,sg,good2,hf2⟩
 cases m with
 | zero=>cases hf2
 | succ m =>
   unfold uM at hf2
   obtain⟨c',h1,hf2⟩:=Qq.mp hf2
   refine⟨G0,H0,G2,ρ2,c',good2,h1,fun H3 G3 s3=>?_⟩
   cases c' with
   | true =>
     rw[Qx rfl] at hf2
     obtain⟨o1,e2,hf2⟩:=Qq.mp hf2
     refine⟨fun σ' H'=>∃G2 ρ2,Same G G2/\Good X.K G0 H0 G2 H' σ' ρ2/\uM tc fb m ρ2=some o,fun σ' H' h=>⟨m,Ol _,h⟩,?_⟩
     refine⟨G0,H0,G3,ρ2,o1,good2.step s3,e2,?_⟩
     have sg3:Same G G3:=sg.trans s3.gg
     cases o1 with
     | nx ρ5=>exact fun σ5 H5 G5 s5 good5=>⟨G5,ρ5,sg3.trans s5,good5,hf2⟩
     | ct ρ5=>exact fun σ5 H5 G5 s5 good5=>⟨G5,ρ5,sg3.trans s5,good5,hf2⟩
     | bk ρ5=>cases hf2;exact fun σ5 H5 G5 s5 good5=>k σ5 H5 G5 (sg3.trans s5) good5
     | rt d=>cases hf2;exact k
     | rl d=>cases hf2;exact k
   | false =>
     rw[Wy (by decide)] at hf2
     cases hf2
     exact k σ2 H3 G3 (sg.trans s3.gg) (good2.step s3)
def isInt:D->Bool | .int _=>true | .bl _=>true | _=>false
def isStr:D->Bool | .str _=>true | _=>false
def zNd:List D->Option (List Bool)
 | []=>some []
 | .bl k::r=>(zNd r).map fun ks=>k::ks
 | _=>none
def zMm (f:Ef):Ef:=fun ρ=>(f ρ).bind fun d=>match d with | .lst ds=>(zNd ds).map fun ks=>.bl (ks.all id) | _=>none
theorem zRs (hc:X.calm=true):CallR X (.builtin "all") (fun xs H Q=>∃(p:Addr) (ks:List Bool),xs=[V.ref p]/\SqL X.K H p (ks.map V.bl)/\Q (.bl (ks.all id)) H):=by
 intro pins s σ H xs us Q I r h
 obtain⟨p,ks,rfl,hq,q⟩:=h
 obtain⟨u,rfl,ru⟩:=oV r
 cases ru
 obtain⟨its,rv,pl,hz⟩:=I.list hq
 have hks:∀(i:Nat) (v:Value),its[i]?=some v->∃k,ks[i]?=some k/\v=Value.bool k:=fun i v e=>by
   have hi:i < ks.length:=by have:=rv.length;rw[Qg] at this;rw[this];exact(Ql.mp e).1
   obtain⟨u,e1,r1⟩:=rv.get (i:=i) (x:=.bl ks[i]) (by rw[Wu,Qp hi];rfl)
   rw[e] at e1;cases e1
   exact⟨ks[i],Qp hi,r1⟩
 have hlen:its.length=ks.length:=by have:=rv.length;rw[Qg] at this;exact this.symm
 refine call_all_walk (Ua pl.isList ?_)
 have hne:p≠s.heap.objs.size:=by obtain⟨o,_,e,_⟩:=pl;exact We (Qy e)
 refine⟨s.heap.objs.size,_,_,_,_,_,fun i=>(ks[i]?).getD true,rfl,Walks.list (A:=X.A.in1) (I.ok.hd hc) s.heap.objs.size p hne its.toArray,⟨⟨_,Qa _ rfl,rfl,rfl⟩,pl.isList.push _⟩,?_,fun h' tk hk=>?_⟩
 · intro i v s' Q' E' hv hQ'
   obtain⟨k,e1,rfl⟩:=hks i v (by simpa using hv)
   have hQ2:Q' ((ks[i]?).getD true) s':=hQ'
   rw[e1] at hQ2
   exact Eb hQ2
 · have hI:Inv X pins σ H { s with heap:=h',toks:=tk }:=I.kept fun b o e=>hk b o (by simp;exact We (Qy e)) (Qe _ e)
   have e:((List.range its.toArray.size).all fun i=>(ks[i]?).getD true)=ks.all id:=by
     rw[Qs,hlen]
     rw[Yo]
     simp only[Qv,To,id]
     constructor
     · intro h x hx
       obtain⟨i,hi,rfl⟩:=List.getElem_of_mem hx
       have:=h i hi
       rw[Qp hi] at this
       exact this
     · intro h i hi
       rw[Qp hi]
       exact h _ (Yk hi)
   rw[e]
   exact⟨.bl (ks.all id),H,hI,rfl,q⟩
theorem zUB {K:PySem.W.Frag}{G:Hp}:∀ {ds:List D} {vs:List V} {ks:List Bool},zNd ds=some ks->Reps K G ds vs->vs=ks.map V.bl
 | [],_,_,h,r=>by cases h;rw[yQ] at r;rw[r];rfl
 | d::t,_,_,h,r=>by
   unfold zNd at h
   split at h
   · rename_i h';cases h'
   · rename_i k t' h'
     cases h'
     obtain⟨v,vr,rfl,r1,r2⟩:=yZ.mp r
     obtain⟨ks,h1,rfl⟩:=Qu.mp h
     rw[zUB h1 r2,wM.mp r1];rfl
   · cases h
theorem zMo (hc:X.calm=true)(hg:Gl X "all")(hm:X.mg "all"=none)(h:PF X a fa)(hs:starEach [a] X.env=[(false,eval a X.env)]:=by rfl):PF X (.Call (.Name "all" p) [a] [] pos) (zMm fa):=by
 refine PE.to (rJ (zRs hc) hg hm (by rfl) (yO h yE (by rw[hs];rfl)) (by decide) (by decide) (by rw[hs];rfl) (by rfl)) ?_
 rintro σ H Q ⟨G0,H0,G,ρ,d,good,hf,k⟩
 unfold zMm at hf
 obtain⟨x,h1,hf⟩:=Qq.mp hf
 cases x with
 | lst ds =>
   dsimp only at hf
   obtain⟨ks,h2,rfl⟩:=Qu.mp hf
   refine⟨G0,H0,G,ρ,_,good,h1,fun v H1 G1 s1 r1=>?_⟩
   obtain⟨p,vs,rfl,q,rs⟩:=xG.mp r1
   have e:=zUB h2 rs
   subst e
   exact⟨p,ks,rfl,s1.sub.seq q,k _ _ G1 s1 (wM.mpr rfl)⟩
 | _=>cases hf
end
theorem Inv.turnedNew {X:Cx}{pins:List (Addr×Obj)}{σ:St}{H:Hp}{s:Shared}{h':Heap}{t':Nat}{fp:List Addr}{T:Addr}{o:HO}(I:Inv X pins σ H s)(k:∀b u,b∉fp->s.heap.get? b=some u->h'.get? b=some u)
   (hf:∀b∈fp,mN X pins H b) (hT:s.heap.objs.size<=T) (new:ObjOk X.prog X.w (upd H T o) h' T o):Inv X pins σ (upd H T o) { s with heap:=h',toks:=t' }:=by
 have fr:H T=none:=I.hok.fresh hT
 have neT:∀b u,s.heap.get? b=some u->b≠T:=fun b u e=>We (Qm (Qy e) hT)
 have nfp:∀b u,H b=some u->b∉fp:=fun b u e z=>by have:=(hf b z).1;rw[e] at this;cases this
 refine I.step (g':=s.gens) (d':=s.drawn) (ch:=fp) (fun b hb=>⟨(hf b hb).2.2.2.1,(hf b hb).2.1,(hf b hb).2.2.2.2.1,(hf b hb).2.2.2.2.2⟩) (fun b u _ _ hc e _=>k b u hc e)
   (fun b u _ _ hc e _=>⟨u.slots,k b u hc e⟩) (fun b u _ e n=>by rw[yP (neT b u e)];exact n) (fun b u hc e=>⟨u,k b u hc e⟩)
   (fun b xs e=>by rw[yP (yJ e fr)];exact e) (fun b u x e=>by rw[yP (yJ e fr)];exact e) (fun b ps e=>⟨#[],by rw[yP (yJ e fr),e];simp⟩) (fun m hm=>?_) (fun b u e=>?_) I.bare
 · obtain⟨ob,es,ep,ho,r⟩:=hm
   exact⟨ob,es,ep,k _ ob (fun z=>(hf _ z).2.1 rfl) ho,r⟩
 · by_cases hb:b=T
   · subst hb;rw[zE] at e;cases e;exact new
   · rw[yP hb] at e
     refine(I.hok b u e).stay (fun c v hc q=>k c v ?_ q) (fun c q=>by rw[yP (yJ q fr)];exact q) fun c xs q=>by rw[yP (yJ q fr)];exact q
     rcases hc with z | z
     · rw[z];exact nfp b u e
     · exact nfp c _ z
theorem Inv.turnedL {X:Cx}{pins:List (Addr×Obj)}{σ:St}{H:Hp}{s:Shared}{h':Heap}{t':Nat}{fp:List Addr}(I:Inv X pins σ H s)(k:∀b u,b∉fp->s.heap.get? b=some u->h'.get? b=some u)
   (hf:∀b∈fp,mN X pins H b):Inv X pins σ H { s with heap:=h',toks:=t' }:=by
 have nfp:∀b u,H b=some u->b∉fp:=fun b u e z=>by have:=(hf b z).1;rw[e] at this;cases this
 refine I.step (g':=s.gens) (d':=s.drawn) (ch:=fp) (fun b hb=>⟨(hf b hb).2.2.2.1,(hf b hb).2.1,(hf b hb).2.2.2.2.1,(hf b hb).2.2.2.2.2⟩) (fun b u _ _ hc e _=>k b u hc e)
   (fun b u _ _ hc e _=>⟨u.slots,k b u hc e⟩) (fun b u _ e n=>n) (fun b u hc e=>⟨u,k b u hc e⟩) (fun b xs e=>e) (fun b u x e=>e) (fun b ps e=>⟨#[],by rw[e];simp⟩) (fun m hm=>?_) (fun b u e=>?_) I.bare
 · obtain⟨ob,es,ep,ho,r⟩:=hm
   exact⟨ob,es,ep,k _ ob (fun z=>(hf _ z).2.1 rfl) ho,r⟩
 · refine(I.hok b u e).stay (fun c v hc q=>k c v ?_ q) (fun c q=>q) fun c xs q=>q
   rcases hc with z | z
   · rw[z];exact nfp b u e
   · exact nfp c _ z
section
variable {X:Cx} {a b c e tg elt iter:Expr} {es ifs:List Expr} {fa fb fc:Ef} {ga gb gi:Lf} {ta tc:Tf} {pos p:Pos} {st:Stmt}
def numbered (ds:List D):List D:=ds.zipIdx.map fun q=>D.tup [.int (q.2:Nat),q.1]
def zO2 (K:PySem.W.Frag)(f:Lf):TE:=fun σ H Q=>∃G0 H0 G ρ ds,Good K G0 H0 G H σ ρ/\f ρ=some ds/\∀a vs H' G',Step G H G' H'->SqL K G' a vs->Reps K G' ds vs->Q (.ref a) H'
def zW9 (X:Cx)(e:Expr)(f:Lf):Prop:=PE X e (zO2 X.K f)
theorem dP (h:PFr X e ga):zW9 X e ga:=fun pins s σ H Q I q=>h pins s σ H Q I (by
 obtain⟨G0,H0,G,ρ,ds,good,hf,k⟩:=q
 exact⟨G0,H0,G,ρ,ds,good,hf,fun p vs H' G' s hn hp gp rs=>k p vs H' (upd G' p (.lst vs)) (s.frz hn hp gp) (.of zE) (rs.mono (Same.new gp))⟩)
theorem gX (h:PF X e fa):zW9 X e (iL fa):=fun pins s σ H Q I q=>h pins s σ H Q I (by
 obtain⟨G0,H0,G,ρ,ds,good,hf,k⟩:=q
 unfold iL at hf
 obtain⟨d,h1,hf⟩:=Qq.mp hf
 cases d with
 | lst es =>
   cases hf
   refine⟨G0,H0,G,ρ,_,good,h1,fun x H1 G1 s1 r1=>?_⟩
   obtain⟨p,vs,rfl,q,rs⟩:=xG.mp r1
   exact k p vs H1 G1 s1 q rs
 | _=>cases hf)
def aG (f g:Lf):Lf:=fun ρ=>(f ρ).bind fun xs=>(g ρ).bind fun ys=>okL (xs++ys)
theorem zQT (ha:PFr X a ga)(hb:PFr X b gb):PFr X (.BinOp a .Add b pos) (aG ga gb):=by
 refine PE.toR (zYK zLW ha hb) ?_
 rintro σ H Q ⟨G0,H0,G,ρ,d,good,hf,k⟩
 unfold aG at hf
 obtain⟨xs,h1,hf⟩:=Qq.mp hf
 obtain⟨ys,h2,hf⟩:=Qq.mp hf
 obtain⟨rfl,h3⟩:=dE hf
 refine⟨G0,H0,G,ρ,_,good,h1,fun p vs H1 G1 s1 hn hp gp rs=>⟨G0,H0,G1,ρ,_,good.step s1,h2,fun q us H2 G2 s2 hn2 hq gq rs2=>?_⟩⟩
 refine⟨p,q,vs,us,rfl,rfl,s2.hh _ _ hp,hq,?_,fun l hl=>?_⟩
 · rw[←rs.length,←rs2.length,←Qb];exact Wd (wK h3)
 · have s3:=Step.own (o:=.lst (vs++us)) s2.sub hl
   exact k l _ _ G2 ((s1.trans s2).trans s3) ((s1.trans s2).hh.free hl) zE (s2.sub.free hl) ((rs.mono s2.gg).append rs2)
abbrev Of:=List B->Option (Option Int)
def tFO (K:PySem.W.Frag)(f:Of):TO:=fun σ H Q=>∃G0 H0 G ρ o,Good K G0 H0 G H σ ρ/\f ρ=some o/\∀H' G',Step G H G' H'->Q o H'
def PFO (X:Cx)(e:Option Expr)(f:Of):Prop:=PO X e (tFO X.K f)
def oNo:Of:=fun _=>some none
def mQ (f:Ef):Of:=fun ρ=>(f ρ).bind fun d=>match d with | .int i=>some (some i) | _=>none
theorem zKH:PFO X none oNo:=fun pins s σ H Q I h=>zNX pins s σ H Q I (by
 obtain⟨G0,H0,G,ρ,o,good,hf,k⟩:=h
 cases hf
 exact k H G (.refl good.sub))
theorem zXF (h:PF X e fa):PFO X (some e) (mQ fa):=fun pins s σ H Q I q=>zO9 h pins s σ H Q I (by
 obtain⟨G0,H0,G,ρ,o,good,hf,k⟩:=q
 unfold mQ at hf
 obtain⟨d,h1,hf⟩:=Qq.mp hf
 cases d with
 | int i=>cases hf;exact⟨G0,H0,G,ρ,_,good,h1,fun v H' G' s r=>⟨i,zH.mp r,k H' G' s⟩⟩
 | _=>cases hf)
def zNK (xs:List D)(lo hi:Option Int):List D:=(xs.drop (HT.sIx xs.length 0 lo)).take (HT.sIx xs.length xs.length hi - HT.sIx xs.length 0 lo)
def fV (f:Ef)(lo hi:Of):Lf:=fun ρ=>(f ρ).bind fun d=>(lo ρ).bind fun l=>(hi ρ).bind fun u=>match d with | .lst ds=>some (zNK ds l u) | _=>none
theorem zVi {lo hi:Option Expr}{fl fh:Of}{p2:Pos}(ha:PF X a fa)(hl:PFO X lo fl)(hh:PFO X hi fh):PFr X (.Subscript a (.Slice lo hi none p2) pos) (fV fa fl fh):=by
 refine PE.toR (zP9 zOe ha hl hh) ?_
 rintro σ H Q ⟨G0,H0,G,ρ,d,good,hf,k⟩
 unfold fV at hf
 obtain⟨x,h1,hf⟩:=Qq.mp hf
 obtain⟨l,h2,hf⟩:=Qq.mp hf
 obtain⟨u,h3,hf⟩:=Qq.mp hf
 cases x with
 | lst ds =>
   cases hf
   refine⟨G0,H0,G,ρ,_,good,h1,fun v H1 G1 s1 r1=>⟨G0,H0,G1,ρ,_,good.step s1,h2,fun H2 G2 s2=>⟨G0,H0,G2,ρ,_,(good.step s1).step s2,h3,fun H3 G3 s3=>?_⟩⟩⟩
   obtain⟨q,vs,rfl,hq,rs⟩:=xG.mp r1
   have s23:=s2.trans s3
   refine⟨q,vs,rfl,s23.hh |> fun z=>(s1.sub.trans z).seq hq,fun p hp=>?_⟩
   have s4:=Step.own (o:=.lst (zR4 vs l u)) s23.sub hp
   refine k p _ _ G3 ((s1.trans s23).trans s4) ((s1.trans s23).hh.free hp) zE (s23.sub.free hp) ?_
   unfold zR4 zNK
   rw[←rs.length]
   exact((rs.mono s23.gg).drop _).take _
 | _=>cases hf
end
section
variable {prog:Program} {w:World} {A:Around} {E:Value->Shared->Prop} {s:Shared}
theorem fX {it t:Addr}{i:Nat}{items:Array Value}{x:Value}{Q:Value->Shared->Prop}(hit:s.heap.IsTupleIter it t i)(ht:s.heap.IsTuple t items)(hx:items[i]?=some x)
   (hQ:∀h',h'.IsTupleIter it t (i+1)->Heap.SameBut it s.heap h'->Q x { s with heap:=h' }):wpAny (model prog w) A (Builtin.SmallTypes.nextOf (.ref it)) Q E s:=by
 obtain⟨o,h1,h2,h3⟩:=id hit
 obtain⟨ot,t1,_,n,t2⟩:=ht
 unfold Builtin.SmallTypes.nextOf
 refine Qw (Ru (name:=Str.ofString "__next__") hit.typeIs F.slot_tuple_iterator_next (Yq F.slot_tuple_iterator_next hit.typeIs F.entry_tuple_iterator_next ?_ (F.args_tuple_iterator_next_1 _)))
 change wpAny _ _ (field (.ref it) 0 >>= _) _ _ s
 refine Qw (Wb h1 h3 (x:=.ref t) rfl ?_)
 change wpAny _ _ (if (Value.ref t==Value.none)=true then _ else _) _ _ s
 rw[Wy (by exact Qc)]
 change wpAny _ _ (field (.ref it) 1 >>= _) _ _ s
 refine Qw (Wb h1 h3 (x:=.int i 0) rfl ?_)
 change wpAny _ _ (seqItems? (.ref t) >>= _) _ _ s
 refine Qw (Ee t1 t2 ?_)
 simp only[Rs,hx]
 refine Qw (Pr h1 h3 (by simp) (Qo ⟨x,rfl,Qo (hQ _ ⟨_,Wf _ h1 (Obj.isFreed_of_fields (Obj.data_mapFields h3 _)),(Obj.cls_mapFields ..).trans h2,?_⟩ (Yb ..))⟩))
 rw[Obj.data_mapFields h3]
 simp[rawInt]
theorem zXH {it t:Addr}{i:Nat}{items:Array Value}{Q:Value->Shared->Prop}(hh:A.handled=none)(hit:s.heap.IsTupleIter it t i)(ht:s.heap.IsTuple t items)(hx:items[i]?=none)
   (hE:∀h' e,Heap.ExtBut it s.heap h'->(∃o,h'.get? e=some o/\o.cls = .type "StopIteration")->E (.ref e) { s with heap:=h' }):wpAny (model prog w) A (Builtin.SmallTypes.nextOf (.ref it)) Q E s:=by
 obtain⟨o,h1,h2,h3⟩:=id hit
 obtain⟨ot,t1,_,n,t2⟩:=ht
 unfold Builtin.SmallTypes.nextOf
 refine Qw (Ru (name:=Str.ofString "__next__") hit.typeIs F.slot_tuple_iterator_next (Yq F.slot_tuple_iterator_next hit.typeIs F.entry_tuple_iterator_next ?_ (F.args_tuple_iterator_next_1 _)))
 change wpAny _ _ (field (.ref it) 0 >>= _) _ _ s
 refine Qw (Wb h1 h3 (x:=.ref t) rfl ?_)
 change wpAny _ _ (if (Value.ref t==Value.none)=true then _ else _) _ _ s
 rw[Wy (by exact Qc)]
 change wpAny _ _ (field (.ref it) 1 >>= _) _ _ s
 refine Qw (Wb h1 h3 (x:=.int i 0) rfl ?_)
 change wpAny _ _ (seqItems? (.ref t) >>= _) _ _ s
 refine Qw (Ee t1 t2 ?_)
 simp only[Rs,hx]
 refine Qw (Od (Qw (Pr h1 h3 (by simp) ?_)))
 change wpAny _ _ (newExc (.type "StopIteration") [] >>= _) _ _ _
 refine Qw ?_
 simp only[newExc,newTuple]
 refine Qw (Em ?_ (by size_fits))
 refine Qw (m:=firstArgMember _ _) (Ob (a:=Value.none) (by first | rfl | (simp only[firstArgMember];rfl)) ?_)
 refine Em ?_ (by size_fits)
 simp only[raiseNew]
 refine Qw (wpAny_handled ?_)
 first | rw[show A.in1.handled=none from hh] | rw[hh]
 refine Qw (Qo (wpAny_throw ?_))
 exact hE _ _ (((Yb ..).extBut.push _).push _) ⟨_,Qa _ rfl,rfl⟩
structure ZApart (z TI TO i1 i2 l1 l2:Addr):Prop where
 a1:TI≠z
 a2:TO≠z
 a3:i1≠z
 a4:i2≠z
 a5:TI≠TO
 a6:TI≠i1
 a7:TI≠i2
 a8:TO≠i1
 a9:TO≠i2
 b1:i1≠i2
 b2:l1≠z
 b3:l1≠TO
 b4:l1≠i1
 b5:l1≠i2
 b6:l2≠z
 b7:l2≠TO
 b8:l2≠i1
 b9:l2≠i2
theorem zRA {z TI TO i1 i2 l1 l2:Addr}{k:Nat}{xs ys:Array Value}{x y a b:Value}{Q:Value->Shared->Prop}(D:ZApart z TI TO i1 i2 l1 l2)(hz:IsZip s.heap z TI TO .none)(hTI:IsPair s.heap TI (.ref i1) (.ref i2))(hTO:IsPair s.heap TO a b)
   (h1:s.heap.IsTupleIter i1 l1 k) (h2:s.heap.IsTupleIter i2 l2 k) (hl1:s.heap.IsTuple l1 xs) (hl2:s.heap.IsTuple l2 ys) (hx:xs[k]?=some x) (hy:ys[k]?=some y)
   (hQ:∀h',IsZip h' z TI TO (rawInt s.heap.objs.size)->IsPair h' TO x y->h'.IsTupleIter i1 l1 (k+1)->h'.IsTupleIter i2 l2 (k+1)->IsPair h' s.heap.objs.size x y ->
     (∀c o,c≠z->c≠TO->c≠i1->c≠i2->s.heap.get? c=some o->h'.get? c=some o)->Q (.ref s.heap.objs.size) { s with heap:=h' }) :
   wpAny (model prog w) A (Builtin.«zip.__next__» ⟨[.ref z],[]⟩) (fun fin s'=>∃v,fin = .done (.ret v)/\Q v s') E s:=by
 change wpAny _ _ (field (.ref z) 2 >>= _) _ _ _
 refine Qw (Wb hz rfl (x:=.bool false) rfl ?_)
 change wpAny _ _ (field (.ref z) 3 >>= _) _ _ _
 refine Qw (Wb hz rfl (x:=.ref TI) rfl (Qw (Ee hTI rfl ?_)))
 change wpAny _ _ (Builtin.SmallTypes.ownedTupleIsFree (.ref z) >>= _) _ _ _
 refine Qw ?_
 unfold Builtin.SmallTypes.ownedTupleIsFree
 refine Qw (Wb hz rfl (x:=.none) rfl (Qo ?_))
 simp only[Tp]
 refine Qw (Od (Qw (Wb hz rfl (x:=.ref TO) rfl (Qw (Rk hz (by simp) fun g1 z1 t1=>?_)))))
 have z1:IsZip g1 z TI TO .ellipsis:=z1
 refine Qw ?_
 simp only[List.zipIdx_cons,List.zipIdx_nil,Yv,Ic]
 refine Qw (Qw (Uh ?_))
 change wpAny _ _ (Builtin.SmallTypes.nextOf (.ref i1) >>= _) _ _ _
 refine Qw (fX (h1.extBut t1.extBut D.a3) (hl1.extBut t1.extBut D.b2) hx fun g2 u1 t2=>Qo ?_)
 have o2:IsPair g2 TO a b:=t2.extBut _ _ D.a8 (t1.extBut _ _ D.a2 hTO)
 refine Qw (Ee o2 rfl (Qw (Il o2 fun g3 o3 t3=>?_)))
 have o3:IsPair g3 TO x b:=o3
 refine Qw (Yg (Qo (Qw (Qw (Uh ?_)))))
 change wpAny _ _ (Builtin.SmallTypes.nextOf (.ref i2) >>= _) _ _ _
 refine Qw (fX (((h2.extBut t1.extBut D.a4).extBut t2.extBut D.b1.symm).extBut t3.extBut D.a9.symm) (((hl2.extBut t1.extBut D.b6).extBut t2.extBut D.b8).extBut t3.extBut D.b7) hy fun g4 u2 t4=>Qo ?_)
 have o4:IsPair g4 TO x b:=t4.extBut _ _ D.a9 o3
 refine Qw (Ee o4 rfl (Qw (Il o4 fun g5 o5 t5=>?_)))
 have o5:IsPair g5 TO x y:=o5
 refine Qw (Yg (Qo (Qo (Qw (Ee o5 rfl (Qw (wpAny_newTuple ?_)))))))
 have esz:g5.objs.size=s.heap.objs.size:=by rw[t5.1,t4.1,t3.1,t2.1,t1.1]
 have z5:IsZip g5 z TI TO .ellipsis:=t5.extBut _ _ D.a2.symm (t4.extBut _ _ D.a4.symm (t3.extBut _ _ D.a2.symm (t2.extBut _ _ D.a3.symm z1)))
 have k5:∀c o,c≠z->c≠TO->c≠i1->c≠i2->s.heap.get? c=some o->g5.get? c=some o:=fun c o c1 c2 c3 c4 e=>t5.extBut _ _ c2 (t4.extBut _ _ c4 (t3.extBut _ _ c2 (t2.extBut _ _ c3 (t1.extBut _ _ c1 e))))
 have p1:g5.IsTupleIter i1 l1 (k+1):=((u1.extBut t3.extBut D.a8.symm).extBut t4.extBut D.b1).extBut t5.extBut D.a8.symm
 have p2:g5.IsTupleIter i2 l2 (k+1):=u2.extBut t5.extBut D.a9.symm
 have lz:z < g5.objs.size:=Qy z5
 change wpAny _ _ (Builtin.SmallTypes.ownedTupleHandOut (.ref z) (.ref g5.objs.size) >>= _) _ _ _
 refine Qw ?_
 unfold Builtin.SmallTypes.ownedTupleHandOut
 have z6:IsZip (g5.push { cls:=.type "tuple",data:=.seq #[x,y] }) z TI TO .ellipsis:=Qe _ z5
 refine Qw (Rk z6 (by simp) fun g7 z7 t7=>?_)
 have z7:IsZip g7 z TI TO (rawInt g5.objs.size):=z7
 refine Rk z7 (by simp) fun g8 z8 t8=>?_
 have z8:IsZip g8 z TI TO (rawInt g5.objs.size):=z8
 have up:∀c o,c≠z->g5.get? c=some o->g8.get? c=some o:=fun c o c1 e=>t8.extBut _ _ c1 (t7.extBut _ _ c1 (Qe _ e))
 have n8:IsPair g8 g5.objs.size x y:=t8.extBut _ _ (Nat.ne_of_gt lz) (t7.extBut _ _ (Nat.ne_of_gt lz) (Qa _ rfl))
 rw[esz] at z8 n8
 refine Qo ⟨_,rfl,?_⟩
 change Q (.ref g5.objs.size) _
 rw[esz]
 obtain⟨q1,r1,w1⟩:=p1
 obtain⟨q2,r2,w2⟩:=p2
 exact hQ g8 z8 (up _ _ D.a2 o5) ⟨q1,up _ _ D.a3 r1,w1⟩ ⟨q2,up _ _ D.a4 r2,w2⟩ n8 fun c o c1 c2 c3 c4 e=>up c o c1 (k5 c o c1 c2 c3 c4 e)
theorem zQv {z TI TO i1 i2 l1 l2:Addr}{k:Nat}{xs ys:Array Value}{a b:Value}{Q:Fin->Shared->Prop}(hh:A.handled=none)(D:ZApart z TI TO i1 i2 l1 l2)(hz:IsZip s.heap z TI TO .none)(hTI:IsPair s.heap TI (.ref i1) (.ref i2))(hTO:IsPair s.heap TO a b)
   (h1:s.heap.IsTupleIter i1 l1 k) (h2:s.heap.IsTupleIter i2 l2 k) (hl1:s.heap.IsTuple l1 xs) (hl2:s.heap.IsTuple l2 ys) (hend:xs[k]?=none∨ys[k]?=none)
   (hE:∀h' e,(∀c o,c≠z->c≠TO->c≠i1->c≠i2->s.heap.get? c=some o->h'.get? c=some o)->(∃o,h'.get? e=some o/\o.cls = .type "StopIteration")->E (.ref e) { s with heap:=h' }) :
   wpAny (model prog w) A (Builtin.«zip.__next__» ⟨[.ref z],[]⟩) Q E s:=by
 change wpAny _ _ (field (.ref z) 2 >>= _) _ _ _
 refine Qw (Wb hz rfl (x:=.bool false) rfl ?_)
 change wpAny _ _ (field (.ref z) 3 >>= _) _ _ _
 refine Qw (Wb hz rfl (x:=.ref TI) rfl (Qw (Ee hTI rfl ?_)))
 change wpAny _ _ (Builtin.SmallTypes.ownedTupleIsFree (.ref z) >>= _) _ _ _
 refine Qw ?_
 unfold Builtin.SmallTypes.ownedTupleIsFree
 refine Qw (Wb hz rfl (x:=.none) rfl (Qo ?_))
 simp only[Tp]
 refine Qw (Od (Qw (Wb hz rfl (x:=.ref TO) rfl (Qw (Rk hz (by simp) fun g1 z1 t1=>?_)))))
 have z1:IsZip g1 z TI TO .ellipsis:=z1
 refine Qw ?_
 simp only[List.zipIdx_cons,List.zipIdx_nil,Yv,Ic]
 refine Qw (Qw (Uh ?_))
 change wpAny _ _ (Builtin.SmallTypes.nextOf (.ref i1) >>= _) _ _ _
 cases hx:xs[k]? with
 | none =>
   refine Qw (zXH hh (h1.extBut t1.extBut D.a3) (hl1.extBut t1.extBut D.b2) hx fun g2 e t2 he=>?_)
   obtain⟨oe,he1,he2⟩:=he
   have z2:IsZip g2 z TI TO .ellipsis:=t2 _ _ D.a3.symm z1
   have ne:e≠z:=fun q=>by subst q;rw[z2] at he1;cases he1;simp at he2
   exact Rk z2 (by simp) fun g3 _ t3=>hE g3 e (fun c o c1 _ c3 _ q=>t3.extBut _ _ c1 (t2 _ _ c3 (t1.extBut _ _ c1 q))) ⟨oe,t3.extBut _ _ ne he1,he2⟩
 | some x =>
   have hy:ys[k]?=none:=by
     rcases hend with q | q
     · rw[hx] at q;cases q
     · exact q
   refine Qw (fX (h1.extBut t1.extBut D.a3) (hl1.extBut t1.extBut D.b2) hx fun g2 u1 t2=>Qo ?_)
   have o2:IsPair g2 TO a b:=t2.extBut _ _ D.a8 (t1.extBut _ _ D.a2 hTO)
   refine Qw (Ee o2 rfl (Qw (Il o2 fun g3 o3 t3=>?_)))
   refine Qw (Yg (Qo (Qw (Qw (Uh ?_)))))
   change wpAny _ _ (Builtin.SmallTypes.nextOf (.ref i2) >>= _) _ _ _
   refine Qw (zXH hh (((h2.extBut t1.extBut D.a4).extBut t2.extBut D.b1.symm).extBut t3.extBut D.a9.symm) (((hl2.extBut t1.extBut D.b6).extBut t2.extBut D.b8).extBut t3.extBut D.b7) hy fun g4 e t4 he=>?_)
   obtain⟨oe,he1,he2⟩:=he
   have z4:IsZip g4 z TI TO .ellipsis:=t4 _ _ D.a4.symm (t3.extBut _ _ D.a2.symm (t2.extBut _ _ D.a3.symm z1))
   have ne:e≠z:=fun q=>by subst q;rw[z4] at he1;cases he1;simp at he2
   exact Rk z4 (by simp) fun g5 _ t5=>hE g5 e (fun c o c1 c2 c3 c4 q=>t5.extBut _ _ c1 (t4 _ _ c4 (t3.extBut _ _ c2 (t2.extBut _ _ c3 (t1.extBut _ _ c1 q))))) ⟨oe,t5.extBut _ _ ne he1,he2⟩
end
abbrev zT1 (h:Heap)(l1:Addr):Heap:=h.push { cls:=.type "tuple_iterator",data:=.fields #[.ref l1,.int 0 0] }
abbrev zT2 (h:Heap)(l1 l2:Addr):Heap:=(zT1 h l1).push { cls:=.type "tuple_iterator",data:=.fields #[.ref l2,.int 0 0] }
abbrev zT3 (h:Heap)(l1 l2:Addr):Heap:=(zT2 h l1 l2).push { cls:=.type "tuple",data:=.seq #[.ref h.objs.size,.ref (zT1 h l1).objs.size] }
abbrev zT4 (h:Heap)(l1 l2:Addr):Heap:=(zT3 h l1 l2).push { cls:=.type "tuple",data:=.seq #[.none,.none] }
abbrev zT5 (h:Heap)(l1 l2:Addr):Heap:=(zT4 h l1 l2).push { cls:=.type "zip",data:=.fields #[.none,.bool false,.bool false,.ref (zT2 h l1 l2).objs.size,.ref (zT3 h l1 l2).objs.size] }
theorem zPK (l1 l2:Addr)(xs ys:Array Value) :
   Meets (Builtin.«zip.__new__» ⟨[.type "zip",.ref l1,.ref l2],[]⟩) (fun _ R s=>s.heap.IsTuple l1 xs/\s.heap.IsTuple l2 ys/\R (.ok (.ret (.ref (zT4 s.heap l1 l2).objs.size))) { s with heap:=zT5 s.heap l1 l2 }) :=
 .of_wp fun prog w A R s h=>by
   obtain⟨hp,g,d,tk,os⟩:=s;obtain⟨q1,q2,h⟩:=h
   have hsub:=sub_zip
   have L1:Heap.IsTuple (Shared.heap ⟨hp,g,d,tk,os⟩) l1 xs:=q1
   have L2:Heap.IsTuple (Shared.heap ⟨hp.push { cls:=.type "tuple_iterator",data:=.fields #[.ref l1,.int 0 0] },g,d,tk,os⟩) l2 ys:=Heap.IsTuple.push q2 _
   wp_walk using Oq L1,Oq L2
   exact⟨_,rfl,h⟩
section
variable {prog:Program} {w:World} {A:Around} {E:Value->Shared->Prop} {s:Shared}
theorem zRZ {l1 l2:Addr}{xs ys:Array Value}{Q:Value->Shared->Prop}(q1:s.heap.IsTuple l1 xs)(q2:s.heap.IsTuple l2 ys)
   (h:∀h',IsZip h' (s.heap.objs.size+4) (s.heap.objs.size+2) (s.heap.objs.size+3) .none->IsPair h' (s.heap.objs.size+2) (.ref s.heap.objs.size) (.ref (s.heap.objs.size+1))->IsPair h' (s.heap.objs.size+3) .none .none ->
     h'.IsTupleIter s.heap.objs.size l1 0->h'.IsTupleIter (s.heap.objs.size+1) l2 0->(∀c o,s.heap.get? c=some o->h'.get? c=some o)->Q (.ref (s.heap.objs.size+4)) { s with heap:=h' }):wpAny (model prog w) A (call (.type "zip") [.ref l1,.ref l2]) Q E s:=by
 refine callType_new F.called_zip (by decide) (F.typeCall_zip_2 _ _) (F.newCall_zip_2 _ _) (fun obj=>F.args_object_init_3 obj _ _) F.entry_zip_new (zPK l1 l2 xs ys) ⟨q1,q2,?_⟩
 have y1:(zT1 s.heap l1).objs.size=s.heap.objs.size+1:=Ek ..
 have y2:(zT2 s.heap l1 l2).objs.size=s.heap.objs.size+2:=by rw[Ek,y1]
 have y3:(zT3 s.heap l1 l2).objs.size=s.heap.objs.size+3:=by rw[Ek,y2]
 have y4:(zT4 s.heap l1 l2).objs.size=s.heap.objs.size+4:=by rw[Ek,y3]
 have f5:(zT5 s.heap l1 l2).get? (zT4 s.heap l1 l2).objs.size=some _:=Qa _ rfl
 have f4:(zT5 s.heap l1 l2).get? (zT3 s.heap l1 l2).objs.size=some _:=Qe _ (Qa _ rfl)
 have f3:(zT5 s.heap l1 l2).get? (zT2 s.heap l1 l2).objs.size=some _:=Qe _ (Qe _ (Qa _ rfl))
 have f2:(zT5 s.heap l1 l2).get? (zT1 s.heap l1).objs.size=some _:=Qe _ (Qe _ (Qe _ (Qa _ rfl)))
 have f1:(zT5 s.heap l1 l2).get? s.heap.objs.size=some _:=Qe _ (Qe _ (Qe _ (Qe _ (Qa _ rfl))))
 change _/\_
 rw[y2,y3,y4] at f5
 rw[y1,y2] at f3
 rw[y3] at f4
 rw[y1] at f2
 rw[y4]
 exact⟨⟨_,f5,rfl⟩,h _ f5 f3 f4 ⟨_,f1,rfl,rfl⟩ ⟨_,f2,rfl,rfl⟩ fun c o x=>Qe _ (Qe _ (Qe _ (Qe _ (Qe _ x))))⟩
end
def Itz (K:PySem.W.Frag)(a b:Addr):It :=
 ⟨fun i H=>∃xs ys x y,SqT K H a xs/\SqT K H b ys/\xs[i]?=some x/\ys[i]?=some y,fun i H x H'=>∃p v u,H p=none/\x = .ref p/\H'=upd H p (.tup [v,u])/\(∀xs,SqT K H a xs->xs[i]?=some v)/\∀ys,SqT K H b ys->ys[i]?=some u,
   fun i H=>∃xs ys,SqT K H a xs/\SqT K H b ys/\(xs.length<=i∨ys.length<=i)⟩
theorem zY5 {prog:Program}{w:World}{A:Around}{E:Value->Shared->Prop}{s:Shared}{z TI TO i1 i2 l1 l2:Addr}{k:Nat}{xs ys:Array Value}{x y a b:Value}{Q:Option Value->Shared->Prop}(D:ZApart z TI TO i1 i2 l1 l2)(hz:IsZip s.heap z TI TO .none)(hTI:IsPair s.heap TI (.ref i1) (.ref i2))(hTO:IsPair s.heap TO a b)
   (h1:s.heap.IsTupleIter i1 l1 k) (h2:s.heap.IsTupleIter i2 l2 k) (hl1:s.heap.IsTuple l1 xs) (hl2:s.heap.IsTuple l2 ys) (hx:xs[k]?=some x) (hy:ys[k]?=some y)
   (hQ:∀h',IsZip h' z TI TO (rawInt s.heap.objs.size)->IsPair h' TO x y->h'.IsTupleIter i1 l1 (k+1)->h'.IsTupleIter i2 l2 (k+1)->IsPair h' s.heap.objs.size x y ->
     (∀c o,c≠z->c≠TO->c≠i1->c≠i2->s.heap.get? c=some o->h'.get? c=some o)->Q (some (.ref s.heap.objs.size)) { s with heap:=h' }):wpAny (model prog w) A (pyNext (.ref z)) Q E s:=by
 have hT:s.TypeIs (.ref z) "zip":=⟨_,hz,rfl⟩
 unfold pyNext
 exact Qw (Ou (Ru (name:=Str.ofString "__next__") hT F.slot_zip_next (Yq F.slot_zip_next hT F.entry_zip_next (zRA D hz hTI hTO h1 h2 hl1 hl2 hx hy fun h' a1 a2 a3 a4 a5 a6=>Qo (hQ h' a1 a2 a3 a4 a5 a6)) (F.args_zip_next_1 _))))
theorem zXZ {prog:Program}{w:World}{A:Around}{E:Value->Shared->Prop}{s:Shared}{z TI TO i1 i2 l1 l2:Addr}{k:Nat}{xs ys:Array Value}{a b:Value}{Q:Option Value->Shared->Prop}(hh:A.handled=none)(D:ZApart z TI TO i1 i2 l1 l2)(hz:IsZip s.heap z TI TO .none)(hTI:IsPair s.heap TI (.ref i1) (.ref i2))(hTO:IsPair s.heap TO a b)
   (h1:s.heap.IsTupleIter i1 l1 k) (h2:s.heap.IsTupleIter i2 l2 k) (hl1:s.heap.IsTuple l1 xs) (hl2:s.heap.IsTuple l2 ys) (hend:xs[k]?=none∨ys[k]?=none)
   (hQ:∀h',(∀c o,c≠z->c≠TO->c≠i1->c≠i2->s.heap.get? c=some o->h'.get? c=some o)->Q none { s with heap:=h' }):wpAny (model prog w) A (pyNext (.ref z)) Q E s:=by
 have hT:s.TypeIs (.ref z) "zip":=⟨_,hz,rfl⟩
 unfold pyNext
 refine Qw (Ou (Ru (name:=Str.ofString "__next__") hT F.slot_zip_next (Yq F.slot_zip_next hT F.entry_zip_next (zQv hh D hz hTI hTO h1 h2 hl1 hl2 hend fun h' e hk he=>?_) (F.args_zip_next_1 _))))
 obtain⟨o,q1,q2⟩:=he
 exact Qw (Uz (T:="StopIteration") (b:=true) ⟨o,q1,q2⟩ isSubtype_stop (Qo (hQ _ hk)))
theorem zne {n:Nat}(i j:Nat)(h:i≠j):n+i≠n+j:=fun z=>h (Nat.add_left_cancel z)
theorem zQp {P:Program}{w:World}{K:PySem.W.Frag}{elts:List Expr}{k:Nat}{pos:Pos}(a b n:Addr):Turn P w K (.Tuple elts k pos) (Itz K a b) [n+4,n+2,n+3,n,n+1] (n+4)
   (fun i h=>IsZip h (n+4) (n+2) (n+3) .none/\IsPair h (n+2) (.ref n) (.ref (n+1))/\(∃p q,IsPair h (n+3) p q)/\h.IsTupleIter n a i/\h.IsTupleIter (n+1) b i) where
 mem:=by simp
 obj:=fun i h st c hc=>by
   obtain⟨h1,h2,⟨p,q,h3⟩,⟨o1,e1,_,d1⟩,⟨o2,e2,_,d2⟩⟩:=st
   simp only[Qz,Et,Yp] at hc
   rcases hc with z | z | z | z | z
   · subst z;exact⟨_,h1,fun v q=>nomatch q⟩
   · subst z;exact⟨_,h2,fun v q=>nomatch q⟩
   · subst z;exact⟨_,h3,fun v q=>nomatch q⟩
   · subst z;exact⟨o1,e1,fun v q=>by rw[d1] at q;cases q⟩
   · subst z;exact⟨o2,e2,fun v q=>by rw[d2] at q;cases q⟩
 keep:=fun i h h' st kk=>by
   obtain⟨h1,h2,⟨p,q,h3⟩,⟨o1,e1,r1⟩,⟨o2,e2,r2⟩⟩:=st
   exact⟨kk _ (by simp) _ h1,kk _ (by simp) _ h2,⟨p,q,kk _ (by simp) _ h3⟩,⟨o1,kk _ (by simp) _ e1,r1⟩,⟨o2,kk _ (by simp) _ e2,r2⟩⟩
 item:=by
   intro X hP hw hK hc i pins s σ H E I hf st hg
   subst hP hw hK
   obtain⟨xs,ys,x,y,hq,hq',hx,hy⟩:=hg
   obtain⟨its,rv,p1,hz⟩:=I.tuple hq
   obtain⟨jts,rv',p2,hz'⟩:=I.tuple hq'
   obtain⟨u,hu,ru⟩:=rv.get hx
   obtain⟨u',hu',ru'⟩:=rv'.get hy
   obtain⟨h1,h2,⟨p,q,h3⟩,h4,h5⟩:=st
   have apart:∀c∈[n+4,n+2,n+3,n,n+1],∀v:List V,∀d:Addr,SqT X.K H d v->d≠c:=fun c hc v d hd z=>by
     have e:=(hf c hc).1
     obtain⟨its,_,⟨o,e1,e2,_⟩,_⟩:=I.tuple hd
     rcases hd with(hd | ⟨ob,hd⟩) | hd
     · rw[z,e] at hd;cases hd
     · rw[z,e] at hd;cases hd
     · obtain⟨ob,_,_,hk,_⟩:=hd
       have e3:=I.ok.mod.kin d ob hk
       obtain⟨_,q1,_,q3,_⟩:=hf c hc
       rcases q3 with q3 | q3
       · exact I.ok.noex d ob e3 (z ▸ q3)
       · exact absurd (Qm (Qy (I.ok.bs d ob e3).1) (z ▸ q3)) (Ww _)
   have D:ZApart (n+4) (n+2) (n+3) n (n+1) a b:=⟨zne 2 4 (by decide),zne 3 4 (by decide),zne 0 4 (by decide),zne 1 4 (by decide),zne 2 3 (by decide),zne 2 0 (by decide),zne 2 1 (by decide),zne 3 0 (by decide),zne 3 1 (by decide),zne 0 1 (by decide),apart _ (by simp) xs a hq,apart _ (by simp) xs a hq,apart _ (by simp) xs a hq,apart _ (by simp) xs a hq,apart _ (by simp) ys b hq',apart _ (by simp) ys b hq',apart _ (by simp) ys b hq',apart _ (by simp) ys b hq'⟩
   refine zY5 D h1 h2 h3 h4 h5 (show s.heap.IsTuple a its.toArray from p1) (show s.heap.IsTuple b jts.toArray from p2) (x:=u) (y:=u') (by simpa using hu) (by simpa using hu') fun g g1 g2 g3 g4 g5 hk=>?_
   have hk':∀c o,c∉[n+4,n+2,n+3,n,n+1]->s.heap.get? c=some o->g.get? c=some o:=fun c o hc e=>hk c o (fun z=>hc (by simp[z])) (fun z=>hc (by simp[z])) (fun z=>hc (by simp[z])) (fun z=>hc (by simp[z])) e
   have I1:Inv X pins σ (upd H s.heap.objs.size (.tup [x,y])) { s with heap:=g }:=I.turnedNew (t':=s.toks) hk' hf (Qk _) ⟨by show 2<=sizeLine;exact Wd (wK (by decide)),[u,u'],.cons ru (.cons ru' .nil),⟨_,g5,rfl,_,rfl⟩⟩
   refine⟨_,rfl,wpAny_letOwnedTupleGo_zip g1 fun g' z' t'=>?_⟩
   have t':Heap.SameBut (n+4) g g':=t'
   have neT:∀c∈[n+4,n+2,n+3,n,n+1],c≠s.heap.objs.size:=fun c hc z=>by
     have lt:c < s.heap.objs.size:=by
       obtain⟨o1,e1,_⟩:=h4
       obtain⟨o2,e2,_⟩:=h5
       simp only[Qz,Et,Yp] at hc
       rcases hc with q | q | q | q | q
       · rw[q];exact Qy h1
       · rw[q];exact Qy h2
       · rw[q];exact Qy h3
       · rw[q];exact Qy e1
       · rw[q];exact Qy e2
     rw[z] at lt
     exact Ww _ lt
   have hf1:∀c∈[n+4,n+2,n+3,n,n+1],mN X pins (upd H s.heap.objs.size (.tup [x,y])) c:=fun c hc=>⟨by rw[yP (neT c hc)];exact(hf c hc).1,(hf c hc).2⟩
   have I2:=I1.turnedL (h':=g') (t':=s.toks) (fp:=[n+4,n+2,n+3,n,n+1]) (fun c o hc e=>(t'.2 c (fun z=>hc (by simp[z]))).trans e) hf1
   have g2':IsPair g (n+2) (.ref n) (.ref (n+1)):=hk _ _ D.a1 D.a5 D.a6 D.a7 h2
   obtain⟨o3,e3,r3⟩:=g3
   obtain⟨o4,e4,r4⟩:=g4
   exact⟨.ref s.heap.objs.size,_,I2,rfl,⟨s.heap.objs.size,x,y,I.fresh,rfl,rfl,fun zs hs=>by rw[I.tuple_inj hs hq];exact hx,fun zs hs=>by rw[I.tuple_inj hs hq'];exact hy⟩,
     ⟨z',(t'.2 _ D.a1).trans g2',⟨_,_,(t'.2 _ D.a2).trans g2⟩,⟨o3,(t'.2 _ D.a3).trans e3,r3⟩,⟨o4,(t'.2 _ D.a4).trans e4,r4⟩⟩,fun c hc=>(hf1 c hc).1⟩
 done:=by
   intro X hP hw hK hc i pins s σ H E I hf st hg
   subst hP hw hK
   obtain⟨xs,ys,hq,hq',hx⟩:=hg
   obtain⟨its,rv,p1,hz⟩:=I.tuple hq
   obtain⟨jts,rv',p2,hz'⟩:=I.tuple hq'
   obtain⟨h1,h2,⟨p,q,h3⟩,h4,h5⟩:=st
   have apart:∀c∈[n+4,n+2,n+3,n,n+1],∀v:List V,∀d:Addr,SqT X.K H d v->d≠c:=fun c hc v d hd z=>by
     have e:=(hf c hc).1
     rcases hd with(hd | ⟨ob,hd⟩) | hd
     · rw[z,e] at hd;cases hd
     · rw[z,e] at hd;cases hd
     · obtain⟨ob,_,_,hk,_⟩:=hd
       have e3:=I.ok.mod.kin d ob hk
       obtain⟨_,q1,_,q3,_⟩:=hf c hc
       rcases q3 with q3 | q3
       · exact I.ok.noex d ob e3 (z ▸ q3)
       · exact absurd (Qm (Qy (I.ok.bs d ob e3).1) (z ▸ q3)) (Ww _)
   have D:ZApart (n+4) (n+2) (n+3) n (n+1) a b:=⟨zne 2 4 (by decide),zne 3 4 (by decide),zne 0 4 (by decide),zne 1 4 (by decide),zne 2 3 (by decide),zne 2 0 (by decide),zne 2 1 (by decide),zne 3 0 (by decide),zne 3 1 (by decide),zne 0 1 (by decide),apart _ (by simp) xs a hq,apart _ (by simp) xs a hq,apart _ (by simp) xs a hq,apart _ (by simp) xs a hq,apart _ (by simp) ys b hq',apart _ (by simp) ys b hq',apart _ (by simp) ys b hq',apart _ (by simp) ys b hq'⟩
   have l1:=rv.length
   have l2:=rv'.length
   refine zXZ (I.ok.hd hc) D h1 h2 h3 h4 h5 (show s.heap.IsTuple a its.toArray from p1) (show s.heap.IsTuple b jts.toArray from p2) ?_ fun g hk=>⟨rfl,I.turnedL (t':=s.toks) (fp:=[n+4,n+2,n+3,n,n+1]) (fun c o hc e=>hk c o (fun z=>hc (by simp[z])) (fun z=>hc (by simp[z])) (fun z=>hc (by simp[z])) (fun z=>hc (by simp[z])) e) hf⟩
   rcases hx with q | q
   · exact .inl (by simp;omega)
   · exact .inr (by simp;omega)
 self:=fun _ _ _ _ _ st h=>Oz st.1 h
def sL:List D->List D->List D
 | x::xs,y::ys=>.tup [x,y]::sL xs ys
 | _,_=>[]
theorem zZ9:∀ {xs ys:List D} {i:Nat} {d:D},(sL xs ys)[i]?=some d->∃x y,xs[i]?=some x/\ys[i]?=some y/\d = .tup [x,y]
 | [],_,_,_,h=>by simp[sL] at h
 | _::_,[],_,_,h=>by simp[sL] at h
 | x::xs,y::ys,0,d,h=>by simp[sL] at h;exact⟨x,y,rfl,rfl,h.symm⟩
 | x::xs,y::ys,i+1,d,h=>by
   simp only[sL,Wr] at h
   obtain⟨a,b,h1,h2,h3⟩:=zZ9 h
   exact⟨a,b,by simpa using h1,by simpa using h2,h3⟩
theorem zY9:∀(xs ys:List D),(sL xs ys).length=min xs.length ys.length
 | [],_=>by simp[sL]
 | _::_,[]=>by simp[sL]
 | x::xs,y::ys=>by rw[sL,Qi,zY9 xs ys,Qi,Qi];omega
theorem zUz {K:PySem.W.Frag}{G:Hp}{a b:Addr}{vs us:List V}{ds es:List D}(h:SqT K G a vs)(r:Reps K G ds vs)(h':SqT K G b us)(r':Reps K G es us):cY K (Itz K a b) G (sL ds es):=by
 intro i G2 H2 s1 s2
 have q:SqT K H2 a vs:=(s1.trans s2).tup h
 have q':SqT K H2 b us:=(s1.trans s2).tup h'
 refine⟨fun d hd=>?_,fun hi=>⟨vs,us,q,q',?_⟩⟩
 · obtain⟨x,y,h1,h2,rfl⟩:=zZ9 hd
   obtain⟨v,e1,rv⟩:=r.get h1
   obtain⟨u,e2,ru⟩:=r'.get h2
   refine⟨⟨vs,us,v,u,q,q',e1,e2⟩,fun x' H3 yy=>?_⟩
   obtain⟨p,v',u',hp,rfl,rfl,y1,y2⟩:=yy
   have f1:=y1 vs q
   rw[e1] at f1;cases f1
   have f2:=y2 us q'
   rw[e2] at f2;cases f2
   have s3:=Step.laid (o:=.tup [v,u]) s2 hp
   exact⟨_,s3,xM.mpr ⟨p,_,rfl,.of zE,yZ.mpr ⟨_,_,rfl,(rv.mono s1).mono s3.gg,yZ.mpr ⟨_,_,rfl,(ru.mono s1).mono s3.gg,yQ.mpr rfl⟩⟩⟩⟩
 · rw[zY9] at hi
   rw[←r.length,←r'.length]
   omega
section
variable {X:Cx} {a b c e tg elt iter:Expr} {fa fb:Ef} {pos p:Pos}
def zNk (f g:Ef):Lf:=fun ρ=>(f ρ).bind fun x=>(g ρ).bind fun y=>match x,y with | .tup xs,.tup ys=>some (sL xs ys) | _,_=>none
theorem zPO {elts:List Expr}{k:Nat}{pos':Pos}(hg:Gl X "zip")(hm:X.mg "zip"=none)(ha:PF X a fa)(hb:PF X b fb)(hs:starEach [a,b] X.env=[(false,eval a X.env),(false,eval b X.env)]:=by rfl)(hs2:starEach [b] X.env=[(false,eval b X.env)]:=by rfl) :
   PFI X (.Tuple elts k pos') (.Call (.Name "zip" p) [a,b] [] pos) (zNk fa fb):=by
 intro pins s σ H R I q
 obtain⟨G0,H0,G,ρ,ds,good,hf,kk⟩:=q
 unfold zNk at hf
 obtain⟨x,h1,hf⟩:=Qq.mp hf
 obtain⟨y,h2,hf⟩:=Qq.mp hf
 cases x with
 | tup xs =>
   cases y with
   | tup ys =>
     cases hf
     have hA:=yO ha (yO hb yE (by rw[hs2];rfl)) (by rw[hs,hs2]) pos pins s σ H (fun vs H'=>∃a b us ws G',vs=[.ref a,.ref b]/\Step G H G' H'/\SqT X.K G' a us/\Reps X.K G' xs us/\SqT X.K G' b ws/\Reps X.K G' ys ws) I
       ⟨G0,H0,G,ρ,_,good,h1,fun v H1 G1 s1 r1=>⟨G0,H0,G1,ρ,_,good.step s1,h2,fun u H2 G2 s2 r2=>by
         obtain⟨a,us,rfl,q1,q2⟩:=xM.mp (r1.mono s2.gg)
         obtain⟨b,ws,rfl,q3,q4⟩:=xM.mp r2
         exact⟨a,b,us,ws,G2,rfl,s1.trans s2,q1,q2,q3,q4⟩⟩⟩
     refine Call_ (nS I hg hm (by rfl) (Ew (thn hA fun us s1 ⟨vs,H1,I1,r1,l1,l2,ws,zs,G1,e1,st1,q1,q2,q3,q4⟩=>?_) (by rw[hs,hs2]) (by rw[hs2];rfl)))
     subst e1
     obtain⟨u,u',rfl,ru,ru'⟩:=zSK r1
     cases ru
     cases ru'
     obtain⟨its,rv,p1,_⟩:=I1.tuple (st1.sub.tup q1)
     obtain⟨jts,rv',p2,_⟩:=I1.tuple (st1.sub.tup q3)
     refine zRZ (show s1.heap.IsTuple l1 its.toArray from p1) (show s1.heap.IsTuple l2 jts.toArray from p2) fun h' z1 z2 z3 z4 z5 hk=>?_
     have I2:Inv X pins σ H1 { s1 with heap:=h' }:=I1.kept (t':=s1.toks) hk
     refine Oz z1 ?_
     refine⟨_,[s1.heap.objs.size+4,s1.heap.objs.size+2,s1.heap.objs.size+3,s1.heap.objs.size,s1.heap.objs.size+1],_,_,H1,rfl,I2,zQp l1 l2 s1.heap.objs.size,⟨z1,z2,⟨_,_,z3⟩,z4,z5⟩,fun b hb=>?_,kk _ H1 G1 st1 (zUz q1 q2 q3 q4)⟩
     have hb':s1.heap.objs.size<=b:=by
       simp only[Qz,Et,Yp] at hb
       rcases hb with z | z | z | z | z<;>(rw[z];first | exact Qk _ | exact Nat.le_add_right _ _)
     exact I1.fpOk hb' (I1.hok.fresh hb')
   | _=>cases hf
 | _=>cases hf
end
end L2
set_option maxHeartbeats 4000000
namespace L2
open PySem PySem.Spec PyProof.Rows
def zTz (f:D->D->Option Bool):List D->List D->Option Bool
 | x::xs,y::ys=>(f x y).bind fun a=>(zTz f xs ys).map fun b=>a&&b
 | _,_=>some true
def eqD:Nat->D->D->Option Bool
 | _+1,.int i,.int j=>some (i==j)
 | _+1,.bl i,.bl j=>some (i==j)
 | _+1,.str i,.str j=>some (i==j)
 | _+1,.non,.non=>some true
 | n+1,.tup xs,.tup ys=>(zTz (eqD n) xs ys).map fun b=>b&&xs.length==ys.length
 | n+1,.lst xs,.lst ys=>if xs.length=ys.length then zTz (eqD n) xs ys else some false
 | _,_,_=>none
def lW (f:D->D->Option Bool)(xs ys:List D)(j:Nat):Bool:=match xs[j]?,ys[j]? with | some a,some c=>(f a c).getD true | _,_=>true
theorem zYS {f:D->D->Option Bool}:∀ {xs ys:List D} {b:Bool},zTz f xs ys=some b->b=(List.range (min xs.length ys.length)).all (lW f xs ys)/\∀(j:Nat) (a c:D),xs[j]?=some a->ys[j]?=some c->f a c=some (lW f xs ys j)
 | [],_,_,h=>by cases h;exact⟨by simp,fun j a c e=>by simp at e⟩
 | _::_,[],_,h=>by cases h;exact⟨by simp,fun j a c _ e=>by simp at e⟩
 | x::xs,y::ys,b,h=>by
   unfold zTz at h
   obtain⟨a,h1,h⟩:=Qq.mp h
   obtain⟨b',h2,rfl⟩:=Qu.mp h
   obtain⟨e1,e2⟩:=zYS h2
   constructor
   · rw[Qi,Qi,Nat.succ_min_succ,List.range_succ_eq_map,Ug,List.all_map,e1]
     congr 1
     simp[lW,h1]
   · intro j p q hp hq
     cases j with
     | zero =>
       simp at hp hq
       subst hp;subst hq
       simp[lW,h1]
     | succ j =>
       have:=e2 j p q (by simpa using hp) (by simpa using hq)
       simpa [lW] using this
section
variable {X:Cx} {pins:List (Addr×Obj)} {σ:St} {H G:Hp} {s:Shared}
theorem zVN (I:Inv X pins σ H s)(sub:Same G H):∀(n:Nat) (d d':D) (x:V) (k:Bool),eqD n d d'=some k->Rep X.K G d x->Rep X.K G d' x->k=true:=by
 intro n
 induction n with
 | zero=>intro d d' x k h;cases d<;>cases d'<;>cases h
 | succ n ih =>
   have many:∀(ds es:List D) (vs:List V) (b:Bool),zTz (eqD n) ds es=some b->Reps X.K G ds vs->Reps X.K G es vs->b=true:=by
     intro ds
     induction ds with
     | nil=>intro es vs b h _ _;cases h;rfl
     | cons d r ihr =>
       intro es vs b h r1 r2
       cases es with
       | nil=>cases h;rfl
       | cons e t =>
         unfold zTz at h
         obtain⟨a,h1,h⟩:=Qq.mp h
         obtain⟨b',h2,rfl⟩:=Qu.mp h
         obtain⟨v,vr,rfl,q1,q2⟩:=yZ.mp r1
         obtain⟨v',vr',e',q3,q4⟩:=yZ.mp r2
         cases e'
         rw[ih d e v a h1 q1 q3,ihr t vr b' h2 q2 q4];rfl
   intro d d' x k h r1 r2
   cases d with
   | int i =>
     cases d' with
     | int j=>cases h;rw[zH] at r1 r2;rw[r1] at r2;cases r2;simp
     | _=>cases h
   | bl i =>
     cases d' with
     | bl j=>cases h;rw[wM] at r1 r2;rw[r1] at r2;cases r2;simp
     | _=>cases h
   | str i =>
     cases d' with
     | str j=>cases h;rw[yH] at r1 r2;rw[r1] at r2;cases r2;simp
     | _=>cases h
   | non =>
     cases d' with
     | non=>cases h;rfl
     | _=>cases h
   | tup ds =>
     cases d' with
     | tup es =>
       unfold eqD at h
       obtain⟨b,h1,rfl⟩:=Qu.mp h
       obtain⟨p,vs,e1,q1,q2⟩:=xM.mp r1
       obtain⟨p',vs',e2,q3,q4⟩:=xM.mp r2
       rw[e1] at e2;cases e2
       have ev:=I.tuple_inj (sub.tup q1) (sub.tup q3)
       subst ev
       rw[many ds es vs b h1 q2 q4,q2.length,q4.length];simp
     | _=>cases h
   | lst ds =>
     cases d' with
     | lst es =>
       unfold eqD at h
       obtain⟨p,vs,e1,q1,q2⟩:=xG.mp r1
       obtain⟨p',vs',e2,q3,q4⟩:=xG.mp r2
       rw[e1] at e2;cases e2
       have ev:=I.list_inj (sub.seq q1) (sub.seq q3)
       subst ev
       rw[Qx (by rw[q2.length,q4.length])] at h
       exact many ds es vs k h q2 q4
     | _=>cases h
   | obj C ns ds=>cases d'<;>cases h
   | exc C ns ds=>cases d'<;>cases h
theorem zMj (I:Inv X pins σ H s)(sub:Same G H):∀(n:Nat) (A:Around) (d d':D) (x y:V) (u v:Value) (k:Bool),A.units+n < cLine->eqD n d d'=some k->Rep X.K G d x->Rep X.K G d' y->RelV x u->RelV y v ->
   SeqAt.RcAt A s u v k/\SeqAt.RcNeAt A s u v (!k)/\SeqAt.EqAt A s u v k:=by
 intro n
 induction n with
 | zero=>intro A d d' x y u v k _ h;cases d<;>cases d'<;>cases h
 | succ n ih =>
   intro A d d' x y u v k hu h r1 r2 ru rv
   have hu1:A.units < cLine:=by omega
   have hin:A.in1.units+n < cLine:=by show A.units+1+n < cLine;omega
   cases d with
   | int i =>
     cases d' with
     | int j=>cases h;rw[zH] at r1 r2;subst r1;subst r2;obtain⟨t,rfl⟩:=ru;obtain⟨t',rfl⟩:=rv;exact⟨SeqAt.RcAt.int_int _ _ _ _,SeqAt.RcNeAt.int_int _ _ _ _,Oy _ _ _ _⟩
     | _=>cases h
   | bl i =>
     cases d' with
     | bl j=>cases h;rw[wM] at r1 r2;subst r1;subst r2;cases ru;cases rv;exact⟨SeqAt.RcAt.bool_bool _ _,SeqAt.RcNeAt.bool_bool _ _,Ik _ _⟩
     | _=>cases h
   | str i =>
     cases d' with
     | str j=>cases h;rw[yH] at r1 r2;subst r1;subst r2;obtain⟨t,rfl⟩:=ru;obtain⟨t',rfl⟩:=rv;exact⟨SeqAt.RcAt.str_str _ _ _ _,SeqAt.RcNeAt.str_str _ _ _ _,SeqAt.EqAt.str_str _ _ _ _⟩
     | _=>cases h
   | non =>
     cases d' with
     | non=>cases h;rw[uW] at r1 r2;subst r1;subst r2;cases ru;cases rv;exact⟨SeqAt.RcAt.none_none,SeqAt.RcNeAt.none_none,Yc _⟩
     | _=>cases h
   | tup ds =>
     cases d' with
     | tup es =>
       have h0:=h
       unfold eqD at h
       obtain⟨b,h1,rfl⟩:=Qu.mp h
       obtain⟨p,vs,rfl,q1,q2⟩:=xM.mp r1
       obtain⟨p',vs',rfl,q3,q4⟩:=xM.mp r2
       cases ru;cases rv
       obtain⟨its,w1,t1,_⟩:=I.tuple (sub.tup q1)
       obtain⟨jts,w2,t2,_⟩:=I.tuple (sub.tup q3)
       obtain⟨e1,e2⟩:=zYS h1
       have l1:ds.length=its.length:=q2.length.trans w1.length
       have l2:es.length=jts.length:=q4.length.trans w2.length
       have he:∀j (a1:j < its.toArray.size) (a2:j < jts.toArray.size),SeqAt.EqAt A.in1 s its.toArray[j] jts.toArray[j] (lW (eqD n) ds es j):=fun j a1 a2=>by
         have b1:j < ds.length:=by rw[l1];simpa using a1
         have b2:j < es.length:=by rw[l2];simpa using a2
         obtain⟨v1,f1,g1⟩:=q2.get (Qp b1)
         obtain⟨v2,f2,g2⟩:=q4.get (Qp b2)
         obtain⟨u1,f3,g3⟩:=w1.get f1
         obtain⟨u2,f4,g4⟩:=w2.get f2
         have x1:its.toArray[j]=u1:=by
           have:=(Ql.mp f3).2
           simpa using this
         have x2:jts.toArray[j]=u2:=by
           have:=(Ql.mp f4).2
           simpa using this
         rw[x1,x2]
         exact(ih A.in1 _ _ v1 v2 u1 u2 _ hin (e2 j _ _ (Qp b1) (Qp b2)) g1 g2 g3 g4).2.2
       have ek:((List.range (min its.toArray.size jts.toArray.size)).all (lW (eqD n) ds es)&&its.toArray.size==jts.toArray.size)=(b&&ds.length==es.length):=by
         rw[Qs,Qs,←l1,←l2,e1]
       have R1:=SeqAt.RcAt.tuples t1 t2 hu1 he
       have R2:=SeqAt.RcNeAt.tuples t1 t2 hu1 he
       rw[ek] at R1 R2
       refine⟨R1,R2,?_⟩
       by_cases hp:p=p'
       · subst hp
         have hk:=zVN I sub (n+1) (.tup ds) (.tup es) (.ref p) _ h0 r1 r2
         rw[hk]
         exact Yc _
       · exact .of_refs hp R1
     | _=>cases h
   | lst ds =>
     cases d' with
     | lst es =>
       have h0:=h
       unfold eqD at h
       obtain⟨p,vs,rfl,q1,q2⟩:=xG.mp r1
       obtain⟨p',vs',rfl,q3,q4⟩:=xG.mp r2
       cases ru;cases rv
       obtain⟨its,w1,t1,_⟩:=I.list (sub.seq q1)
       obtain⟨jts,w2,t2,_⟩:=I.list (sub.seq q3)
       have l1:ds.length=its.length:=q2.length.trans w1.length
       have l2:es.length=jts.length:=q4.length.trans w2.length
       have fin:SeqAt.RcAt A s (.ref p) (.ref p') k/\SeqAt.RcNeAt A s (.ref p) (.ref p') (!k):=by
         split at h
         · rename_i hl
           obtain⟨e1,e2⟩:=zYS h
           have he:∀j (a1:j < its.toArray.size) (a2:j < jts.toArray.size),SeqAt.EqAt A.in1 s its.toArray[j] jts.toArray[j] (lW (eqD n) ds es j):=fun j a1 a2=>by
             have b1:j < ds.length:=by rw[l1];simpa using a1
             have b2:j < es.length:=by rw[l2];simpa using a2
             obtain⟨v1,f1,g1⟩:=q2.get (Qp b1)
             obtain⟨v2,f2,g2⟩:=q4.get (Qp b2)
             obtain⟨u1,f3,g3⟩:=w1.get f1
             obtain⟨u2,f4,g4⟩:=w2.get f2
             have x1:its.toArray[j]=u1:=by
               have:=(Ql.mp f3).2
               simpa using this
             have x2:jts.toArray[j]=u2:=by
               have:=(Ql.mp f4).2
               simpa using this
             rw[x1,x2]
             exact(ih A.in1 _ _ v1 v2 u1 u2 _ hin (e2 j _ _ (Qp b1) (Qp b2)) g1 g2 g3 g4).2.2
           have hsz:its.toArray.size=jts.toArray.size:=by rw[Qs,Qs,←l1,←l2,hl]
           have ek:(List.range its.toArray.size).all (lW (eqD n) ds es)=k:=by
             rw[e1,Qs,←l1,←hl,Nat.min_self]
           have R1:=SeqAt.RcAt.lists t1.isList t2.isList hsz hu1 he
           have R2:=SeqAt.RcNeAt.lists t1.isList t2.isList hsz hu1 he
           rw[ek] at R1 R2
           exact⟨R1,R2⟩
         · rename_i hl
           cases h
           have hsz:(its.toArray.size != jts.toArray.size)=true:=by
             rw[Qs,Qs,←l1,←l2]
             simpa using hl
           exact⟨SeqAt.RcAt.lists_lengths t1.isList t2.isList hsz hu1,Pq t1.isList t2.isList hsz hu1⟩
       refine⟨fin.1,fin.2,?_⟩
       by_cases hp:p=p'
       · subst hp
         have hk:=zVN I sub (n+1) (.lst ds) (.lst es) (.ref p) _ h0 r1 r2
         rw[hk]
         exact Yc _
       · exact .of_refs hp fin.1
     | _=>cases h
   | obj C ns ds=>cases d'<;>cases h
   | exc C ns ds=>cases d'<;>cases h
end
section
variable {X:Cx} {a b c e:Expr} {fa fb:Ef} {ga gb:Lf} {pos p:Pos} {k:Nat}
def zKz:D->D->Option Bool:=eqD 8
def zRd (x y:D):Option Bool:=(eqD 8 x y).map (!·)
theorem zM1 (hr:Room k X.A):CmR X .Eq zKz:=by
 refine⟨fun x y H Q=>∃G d d' b,Same G H/\Rep X.K G d x/\Rep X.K G d' y/\eqD 8 d d'=some b/\Q (.bl b) H,?_,fun d d' k G H x y Q h s rx ry q=>⟨G,d,d',k,s,rx,ry,h,q H G (.refl s)⟩⟩
 intro pins s σ H x y v u Q I rx ry ⟨G,d,d',b,sub,r1,r2,h,q⟩
 have hu:=hr.units
 exact(zMj I sub 8 X.A d d' x y v u b (by omega) h r1 r2 rx ry).1 X.prog X.w X.xe _ ⟨.bl b,H,I,rfl,q⟩
theorem zWk (hr:Room k X.A):CmR X .NotEq zRd:=by
 refine⟨fun x y H Q=>∃G d d' b,Same G H/\Rep X.K G d x/\Rep X.K G d' y/\eqD 8 d d'=some b/\Q (.bl (!b)) H,?_,fun d d' k G H x y Q h s rx ry q=>?_⟩
 · intro pins s σ H x y v u Q I rx ry ⟨G,d,d',b,sub,r1,r2,h,q⟩
   have hu:=hr.units
   exact(zMj I sub 8 X.A d d' x y v u b (by omega) h r1 r2 rx ry).2.1 X.prog X.w X.xe _ ⟨.bl (!b),H,I,rfl,q⟩
 · unfold zRd at h
   obtain⟨b,h1,rfl⟩:=Qu.mp h
   exact⟨G,d,d',b,s,rx,ry,h1,q H G (.refl s)⟩
def zPk:D->Option V
 | .non=>some .non
 | .bl b=>some (.bl b)
 | .int i=>some (.int i)
 | .str x=>some (.str x)
 | _=>none
def zZo:List D->Option (List V)
 | []=>some []
 | d::r=>(zPk d).bind fun v=>(zZo r).map fun vs=>v::vs
theorem zXw {K:PySem.W.Frag}{G:Hp}{d:D}{v x:V}(h:zPk d=some v)(r:Rep K G d x):x=v/\lA v=true:=by
 cases d with
 | non=>cases h;exact⟨uW.mp r,rfl⟩
 | bl b=>cases h;exact⟨wM.mp r,rfl⟩
 | int i=>cases h;exact⟨zH.mp r,rfl⟩
 | str i=>cases h;exact⟨yH.mp r,rfl⟩
 | _=>cases h
theorem fS {K:PySem.W.Frag}{G:Hp}:∀ {ds:List D} {vs xs:List V},zZo ds=some vs->Reps K G ds xs->xs=vs/\vs.all lA=true
 | [],_,_,h,r=>by cases h;rw[yQ] at r;exact⟨r,rfl⟩
 | d::t,_,_,h,r=>by
   unfold zZo at h
   obtain⟨v,h1,h⟩:=Qq.mp h
   obtain⟨vs,h2,rfl⟩:=Qu.mp h
   obtain⟨x,xr,rfl,r1,r2⟩:=yZ.mp r
   obtain⟨rfl,f1⟩:=zXw h1 r1
   obtain⟨rfl,f2⟩:=fS h2 r2
   exact⟨rfl,by rw[Ug,f1,f2];rfl⟩
def zOE (x y:D):Option Bool:=(zPk x).bind fun v=>match y with
 | .lst ds=>(zZo ds).map fun vs=>inV v vs
 | .tup ds=>(zZo ds).map fun vs=>inV v vs
 | _=>none
theorem zOg {K:PySem.W.Frag}{G H:Hp}{d d':D}{x y:V}{k:Bool}(h:zOE d d'=some k)(s:Same G H)(rx:Rep K G d x)(ry:Rep K G d' y):∃p xs,y = .ref p/\(SqL K H p xs∨SqT K H p xs)/\lA x=true/\xs.all lA=true/\k=inV x xs:=by
 unfold zOE at h
 obtain⟨v,h1,h⟩:=Qq.mp h
 obtain⟨rfl,f1⟩:=zXw h1 rx
 cases d' with
 | lst ds =>
   obtain⟨vs,h2,rfl⟩:=Qu.mp h
   obtain⟨p,xs,rfl,q1,q2⟩:=xG.mp ry
   obtain⟨rfl,f2⟩:=fS h2 q2
   exact⟨p,_,rfl,.inl (s.seq q1),f1,f2,rfl⟩
 | tup ds =>
   obtain⟨vs,h2,rfl⟩:=Qu.mp h
   obtain⟨p,xs,rfl,q1,q2⟩:=xM.mp ry
   obtain⟨rfl,f2⟩:=fS h2 q2
   exact⟨p,_,rfl,.inr (s.tup q1),f1,f2,rfl⟩
 | _=>cases h
theorem zQI:CmR X .In zOE:=⟨_,zSe,fun d d' k G H x y Q h s rx ry q=>by
 obtain⟨p,xs,e1,e2,e3,e4,rfl⟩:=zOg h s rx ry
 exact⟨p,xs,e1,e2,e3,e4,q H G (.refl s)⟩⟩
def zTt (x:Int):List Int->List Int
 | []=>[x]
 | y::r=>if x<=y then x::y::r else y::zTt x r
def aW:List Int->List Int
 | []=>[]
 | x::r=>zTt x (aW r)
theorem bY (x:Int):∀l:List Int,(zTt x l).Perm (x::l)
 | []=>.refl _
 | y::r=>by
   unfold zTt
   split
   · exact .refl _
   · exact(List.Perm.cons y (bY x r)).trans (List.Perm.swap x y r)
theorem gB:∀l:List Int,(aW l).Perm l
 | []=>.refl _
 | x::r=>(bY x (aW r)).trans (.cons x (gB r))
theorem bC (x:Int):∀l:List Int,l.Pairwise (· <= ·)->(zTt x l).Pairwise (· <= ·)
 | [],_=>by unfold zTt;simp
 | y::r,h=>by
   unfold zTt
   split
   · rename_i hxy
     refine Ya.mpr ⟨fun z hz=>?_,h⟩
     rcases Qz.mp hz with q | q
     · rw[q];exact hxy
     · exact Int.le_trans hxy ((Ya.mp h).1 z q)
   · rename_i hxy
     refine Ya.mpr ⟨fun z hz=>?_,bC x r (Ya.mp h).2⟩
     rcases Qz.mp ((bY x r).mem_iff.mp hz) with q | q
     · rw[q];omega
     · exact(Ya.mp h).1 z q
theorem dJ:∀l:List Int,(aW l).Pairwise (· <= ·)
 | []=>.nil
 | x::r=>bC x _ (dJ r)
theorem zT8 {l m:List Int}(hp:l.Perm m)(hl:l.Pairwise (· <= ·))(hm:m.Pairwise (· <= ·)):l=m:=hp.eq_of_pairwise (fun a b _ _ h1 h2=>Int.le_antisymm h1 h2) hl hm
def bD:List D->Option (List Int)
 | []=>some []
 | .int i::r=>(bD r).map fun is=>i::is
 | _=>none
theorem iM {K:PySem.W.Frag}{G:Hp}:∀ {ds:List D} {is:List Int} {vs:List V},bD ds=some is->Reps K G ds vs->vs=is.map V.int
 | [],_,_,h,r=>by cases h;rw[yQ] at r;rw[r];rfl
 | d::t,_,_,h,r=>by
   unfold bD at h
   split at h
   · rename_i h';cases h'
   · rename_i k t' h'
     cases h'
     obtain⟨v,vr,rfl,r1,r2⟩:=yZ.mp r
     obtain⟨ks,h1,rfl⟩:=Qu.mp h
     rw[iM h1 r2,zH.mp r1];rfl
   · cases h
theorem zWU:CallR X (.builtin "sorted") (fun xs H Q=>∃(q:Addr) (ns:List Int),xs=[V.ref q]/\SqL X.K H q (ns.map V.int)/\ns.length < 64/\∀l,H l=none->Q (.ref l) (upd H l (.lst ((aW ns).map V.int)))):=by
 intro pins s σ H xs us Q I r h
 obtain⟨q,ns,rfl,hq,hl,k⟩:=h
 obtain⟨u,rfl,ru⟩:=oV r
 cases ru
 obtain⟨its,rv,pl,hz⟩:=I.list hq
 have hi:=zUw rv
 have hlen:its.length < 64:=by rw[←rv.length,Qg];exact hl
 refine sorted_ints pl.isList hi hlen fun out ns' a1 a2 a3=>?_
 obtain⟨e,he⟩:=sortedAll_at s.heap its out
 have en:ns'=aW ns:=zT8 (a2.trans (gB ns).symm) a3 (dJ ns)
 subst en
 have hsz:s.heap.objs.size<=s.heap.objs.size+1:=Td _
 refine⟨.ref (s.heap.objs.size+1),_,I.laid (t':=s.toks) (o:=.lst ((aW ns).map V.int)) (fun b o e=>sortedAll_old e) hsz ?_,rfl,k _ (I.hok.fresh hsz)⟩
 refine⟨?_,out.toList,e,cG a1,by simpa [seqObj] using he⟩
 rw[Qg,(gB ns).length_eq]
 exact Wd (wK (by show ns.length<=100000;omega))
theorem zX0 {K:PySem.W.Frag}{G:Hp}:∀ns:List Int,Reps K G (ns.map .int) (ns.map V.int)
 | []=>yQ.mpr rfl
 | n::r=>yZ.mpr ⟨_,_,rfl,zH.mpr rfl,zX0 r⟩
def zWm (g:Lf):Lf:=fun ρ=>(g ρ).bind fun ds=>(bD ds).bind fun ns=>if ns.length < 64 then some ((aW ns).map .int) else none
theorem zRb (hg:Gl X "sorted")(hm:X.mg "sorted"=none)(h:zW9 X a ga)(hs:starEach [a] X.env=[(false,eval a X.env)]:=by rfl):PFr X (.Call (.Name "sorted" p) [a] [] pos) (zWm ga):=by
 refine PE.toR (rJ zWU hg hm (by rfl) (yO h yE (by rw[hs];rfl)) (by decide) (by decide) (by rw[hs];rfl) (by rfl)) ?_
 rintro σ H Q ⟨G0,H0,G,ρ,d,good,hf,k⟩
 unfold zWm at hf
 obtain⟨ds,h1,hf⟩:=Qq.mp hf
 obtain⟨ns,h2,hf⟩:=Qq.mp hf
 split at hf
 · rename_i hl
   cases hf
   refine⟨G0,H0,G,ρ,_,good,h1,fun q vs H1 G1 s1 hq rs=>?_⟩
   have e:=iM h2 rs
   subst e
   refine⟨q,ns,rfl,s1.sub.seq hq,hl,fun l hl'=>?_⟩
   exact k l _ _ G1 (s1.trans (Step.own s1.sub hl')) (s1.hh.free hl') zE (s1.sub.free hl') (zX0 _)
 · cases hf
end
def Its (x:Str):It:=⟨fun i _=>i < x.cps.size,fun i H y H'=>H'=H/\∃c,x.cps[i]?=some c/\y = .str ⟨#[c]⟩,fun i _=>x.cps.size<=i⟩
theorem zPY {P:Program}{w:World}{K:PySem.W.Frag}{tg:Expr}(it:Addr)(ty:String)(hty:ty="str_ascii_iterator"∨ty="str_iterator")(x:Str)(t:Tok):Turn P w K tg (Its x) [it] it (fun i h=>h.IsStrIter it ty x t i) where
 mem:=by simp
 obj:=fun i h st b hb=>by
   have e:b=it:=by simpa using hb
   subst e
   obtain⟨o,e,c,d⟩:=st
   exact⟨o,e,fun v z=>by rw[d] at z;cases z⟩
 keep:=fun i h h' st k=>by
   obtain⟨o,e,r⟩:=st
   exact⟨o,k it (by simp) o e,r⟩
 item:=by
   intro X hP hw hK hc i pins s σ H E I hf st hg
   subst hP hw hK
   obtain⟨f0,f1,f2,f3,f4,f5⟩:=hf it (by simp)
   have hg:i < x.cps.size:=hg
   have hx:x.cps[i]?=some x.cps[i]:=by simp[hg]
   rcases hty with rfl | rfl
   · refine wpAny_pyNext_ascii_item st hx fun h' st' sb=>?_
     have I1:Inv X pins σ H { s with heap:=h',toks:=s.toks+1 }:=I.turned (t':=s.toks+1) (fun b o hb e=>(sb.2 b hb).trans e) f0 f1 f3 f4 f5
     obtain⟨o,e,c,d⟩:=id st'
     exact⟨_,rfl,zVB (s:={ s with heap:=h',toks:=s.toks+1 }) e c d (by decide) ⟨.str ⟨#[x.cps[i]]⟩,H,I1,⟨_,rfl⟩,⟨rfl,_,hx,rfl⟩,st',fun b hb=>(hf b hb).1⟩⟩
   · refine wpAny_pyNext_wide_item st hx fun h' st' sb=>?_
     have I1:Inv X pins σ H { s with heap:=h',toks:=s.toks+1 }:=I.turned (t':=s.toks+1) (fun b o hb e=>(sb.2 b hb).trans e) f0 f1 f3 f4 f5
     obtain⟨o,e,c,d⟩:=id st'
     exact⟨_,rfl,zVB (s:={ s with heap:=h',toks:=s.toks+1 }) e c d (by decide) ⟨.str ⟨#[x.cps[i]]⟩,H,I1,⟨_,rfl⟩,⟨rfl,_,hx,rfl⟩,st',fun b hb=>(hf b hb).1⟩⟩
 done:=by
   intro X hP hw hK hc i pins s σ H E I hf st hg
   subst hP hw hK
   obtain⟨f0,f1,f2,f3,f4,f5⟩:=hf it (by simp)
   have hg:x.cps.size<=i:=hg
   have hx:x.cps[i]?=none:=by simp[hg]
   rcases hty with rfl | rfl
   · exact wpAny_pyNext_ascii_end (I.ok.hd hc) st hx fun h' eb=>⟨rfl,I.turned (t':=s.toks) (fun b o hb e=>eb b o hb e) f0 f1 f3 f4 f5⟩
   · exact wpAny_pyNext_wide_end (I.ok.hd hc) st hx fun h' eb=>⟨rfl,I.turned (t':=s.toks) (fun b o hb e=>eb b o hb e) f0 f1 f3 f4 f5⟩
 self:=fun _ _ _ _ _ st h=>by
   rcases hty with rfl | rfl
   · exact wpAny_pyIter_striter_ascii st h
   · exact wpAny_pyIter_striter_wide st h
def zZq (x:Str):List D:=x.cps.toList.map fun c=>.str ⟨#[c]⟩
theorem zTq {K:PySem.W.Frag}{G:Hp}{x:Str}:cY K (Its x) G (zZq x):=by
 intro i G2 H2 s1 s2
 have hl:(zZq x).length=x.cps.size:=by simp[zZq]
 refine⟨fun d hd=>?_,fun hi=>by rw[hl] at hi;exact hi⟩
 have hi:i < x.cps.size:=by rw[←hl];exact(Ql.mp hd).1
 refine⟨hi,fun y H3 q=>?_⟩
 obtain⟨rfl,c,hc,rfl⟩:=q
 unfold zZq at hd
 rw[Wu,Array.getElem?_toList,hc] at hd
 cases hd
 exact⟨G2,.refl s2,yH.mpr rfl⟩
section
variable {X:Cx} {a b c e tg elt iter:Expr} {es ifs:List Expr} {fa fb fc:Ef} {ga gb gi:Lf} {ta tc:Tf} {pos p:Pos} {st:Stmt}
def zJO (tl:TE):TI:=fun σ H R=>tl σ H fun x H1=>∃z,x = .str z/\R (Its z) H1
theorem zO0 {l:Expr}{tl:TE}(hl:PE X l tl):PI X tg l (zJO tl):=by
 intro pins s σ H R I h
 refine thn (hl pins s σ H _ I h) fun v s1 ⟨x,H1,I1,r1,q1⟩=>?_
 obtain⟨z,e,q⟩:=q1
 subst e
 obtain⟨t,rfl⟩:=r1
 have fin:∀(o:Obj) (ty:String),(ty="str_ascii_iterator"∨ty="str_iterator")->(s1.heap.push o).IsStrIter s1.heap.objs.size ty z t 0->PIE X pins σ tg R (.ref s1.heap.objs.size) { s1 with heap:=s1.heap.push o }:=fun o ty hty st=>by
   refine⟨s1.heap.objs.size,[s1.heap.objs.size],_,_,H1,rfl,I1.kept (t':=s1.toks) fun b o e=>Qe _ e,zPY _ ty hty z t,st,fun b hb=>?_,q⟩
   have e:b=s1.heap.objs.size:=by simpa using hb
   subst e
   exact I1.fpOk (Qk _) (I1.hok.fresh (Qk _))
 cases ha:z.cps.all (· < 128)
 · exact wpAny_pyIter_wide ha (fin _ _ (.inr rfl) ⟨_,Qa _ rfl,rfl,rfl⟩)
 · exact wpAny_pyIter_ascii ha (fin _ _ (.inl rfl) ⟨_,Qa _ rfl,rfl,rfl⟩)
def iS (f:Ef):Lf:=fun ρ=>(f ρ).bind fun d=>match d with | .str x=>some (zZq x) | _=>none
theorem zNe (h:PF X e fa):PFI X tg e (iS fa):=by
 refine PI.to (zO0 h) ?_
 rintro σ H R ⟨G0,H0,G,ρ,ds,good,hf,k⟩
 unfold iS at hf
 obtain⟨d,h1,hf⟩:=Qq.mp hf
 cases d with
 | str x =>
   cases hf
   refine⟨G0,H0,G,ρ,_,good,h1,fun v H1 G1 s1 r1=>?_⟩
   exact⟨x,yH.mp r1,k _ H1 G1 s1 zTq⟩
 | _=>cases hf
def gIn:D->D->Option Bool | .str i,.str j=>some (!(Builtin.Str.occurrences j i 0 j.length 1).isEmpty) | _,_=>none
theorem zKP:CmR X .In gIn:=⟨_,zRr,fun d d' k G H x y Q h s rx ry q=>by
 unfold gIn at h
 split at h
 · cases h;exact⟨_,_,yH.mp rx,yH.mp ry,q H G (.refl s)⟩
 · cases h⟩
def eB3 (g g':D->D->Option Bool)(fa fb fc:Ef):Tf:=fun ρ=>(fa ρ).bind fun x=>(fb ρ).bind fun y=>(g x y).bind fun k=>if k=true then(fc ρ).bind fun z=>g' y z else some false
theorem zPl {op op':CmpOp}{g g':D->D->Option Bool}(hc1:CmR X op g)(hc2:CmR X op' g')(ha:PF X a fa)(hb:PF X b fb)(hc:PF X c fc)(hm:lastMarks [op,op'] [b,c]=false:=by with_unfolding_all rfl):PF X (.Compare a [op,op'] [b,c] pos) (sE (eB3 g g' fa fb fc)):=by
 obtain⟨r,ho,hr⟩:=hc1
 obtain⟨r',ho',hr'⟩:=hc2
 refine PE.to (zP2 ho ho' ha hb hc hm) ?_
 rintro σ H Q ⟨G0,H0,G,ρ,d,good,hf,k⟩
 obtain⟨b',hf2,rfl⟩:=zZ6 hf
 unfold eB3 at hf2
 obtain⟨x,h1,hf2⟩:=Qq.mp hf2
 obtain⟨y,h2,hf2⟩:=Qq.mp hf2
 obtain⟨kk,h3,hf2⟩:=Qq.mp hf2
 refine⟨G0,H0,G,ρ,_,good,h1,fun u H1 G1 s1 r1=>⟨G0,H0,G1,ρ,_,good.step s1,h2,fun v H2 G2 s2 r2=>?_⟩⟩
 refine hr x y kk G2 H2 u v _ h3 s2.sub (r1.mono s2.gg) r2 fun H3 G3 s3=>⟨kk,rfl,?_⟩
 split at hf2
 · rename_i hk
   rw[Qx hk]
   obtain⟨z,h4,hf3⟩:=Qq.mp hf2
   refine⟨G0,H0,G3,ρ,_,((good.step s1).step s2).step s3,h4,fun w' H4 G4 s4 r4=>?_⟩
   exact hr' y z b' G4 H4 v w' Q hf3 s4.sub ((r2.mono s3.gg).mono s4.gg) r4 fun H5 G5 s5=>k _ _ G5 ((((s1.trans s2).trans s3).trans s4).trans s5) (wM.mpr rfl)
 · rename_i hk
   rw[Wy hk];cases hf2
   exact k _ _ G3 ((s1.trans s2).trans s3) (wM.mpr rfl)
def zK2:D->D->Option D
 | .int i,.int j=>some (.int (i+j))
 | .str i,.str j=>if i.length+j.length<=lim then some (.str (i++j)) else none
 | _,_=>none
def xO (fa fb:Ef):Ef:=fun ρ=>(fa ρ).bind fun x=>(fb ρ).bind fun y=>zK2 x y
theorem oC (ha:PF X a fa)(hb:PF X b fb):PF X (.BinOp a .Add b pos) (xO fa fb):=by
 refine PE.to (zYK (zPG.or zT0) ha hb) ?_
 rintro σ H Q ⟨G0,H0,G,ρ,d,good,hf,k⟩
 unfold xO at hf
 obtain⟨x,h1,hf⟩:=Qq.mp hf
 obtain⟨y,h2,hf⟩:=Qq.mp hf
 refine⟨G0,H0,G,ρ,_,good,h1,fun u H1 G1 s1 r1=>⟨G0,H0,G1,ρ,_,good.step s1,h2,fun v H2 G2 s2 r2=>?_⟩⟩
 have r1:=r1.mono s2.gg
 unfold zK2 at hf
 split at hf
 · cases hf;exact .inl ⟨_,_,zH.mp r1,zH.mp r2,k _ _ G2 (s1.trans s2) (zH.mpr rfl)⟩
 · split at hf
   · rename_i hz;cases hf;exact .inr ⟨_,_,yH.mp r1,yH.mp r2,Wd (wK hz),k _ _ G2 (s1.trans s2) (yH.mpr rfl)⟩
   · cases hf
 · cases hf
def zMW:V->List V->Hp->VK->Prop:=fun x vs H Q=>∃a b,x = .str a/\vs=[.str b]/\Q (.int (Txt.find a b)) H
theorem zVR:MtR X "str.find" zMW:=by
 intro pins s σ H x xs v us Q I rx rv h
 obtain⟨a,b,rfl,rfl,q⟩:=h
 obtain⟨t,rfl⟩:=rx
 obtain⟨u,rfl,t',rfl⟩:=rv.one
 exact SC.find ⟨.int _,H,I.tok _,⟨_,rfl⟩,q⟩
def zUQ (fa fb:Ef):Ef:=fun ρ=>(fa ρ).bind fun x=>(fb ρ).bind fun y=>match x,y with | .str a,.str b=>some (.int (Txt.find a b)) | _,_=>none
theorem zWq (ht:PE X c (tBM X.K "str" zMW (tF X.K fa) (zZd (tF X.K fb) zTw))):PF X c (zUQ fa fb):=by
 refine PE.to ht ?_
 rintro σ H Q ⟨G0,H0,G,ρ,d,good,hf,k⟩
 unfold zUQ at hf
 obtain⟨x,h1,hf⟩:=Qq.mp hf
 obtain⟨y,h2,hf⟩:=Qq.mp hf
 split at hf
 · cases hf
   refine⟨G0,H0,G,ρ,_,good,h1,fun u H1 G1 s1 r1=>?_⟩
   have r1:=yH.mp r1
   subst r1
   refine⟨rfl,G0,H0,G1,ρ,_,good.step s1,h2,fun v H2 G2 s2 r2=>?_⟩
   have r2:=yH.mp r2
   subst r2
   exact⟨_,_,rfl,rfl,k _ _ G2 (s1.trans s2) (zH.mpr rfl)⟩
 · cases hf
def pU (f:Ef):Ef:=fun ρ=>(f ρ).bind fun d=>match d with | .int i=>if i.natAbs.log2 < 1920 then some (.str (Str.ofString (toString i))) else none | _=>none
theorem zV9 (hg:Gl X "str")(hm:X.mg "str"=none)(h:PF X a fa)(hs:starEach [a] X.env=[(false,eval a X.env)]:=by rfl):PF X (.Call (.Name "str" p) [a] [] pos) (pU fa):=by
 refine PE.to (qC zWI hg hm (by rfl) (yO h yE (by rw[hs];rfl)) (by decide) (by decide) (by rw[hs];rfl) (by rfl)) ?_
 rintro σ H Q ⟨G0,H0,G,ρ,d,good,hf,k⟩
 unfold pU at hf
 obtain⟨x,h1,hf⟩:=Qq.mp hf
 refine⟨G0,H0,G,ρ,_,good,h1,fun v H1 G1 s1 r1=>?_⟩
 cases x with
 | int i =>
   dsimp only at hf
   split at hf
   · rename_i hz
     cases hf
     exact⟨i,by rw[zH.mp r1],hz,k _ _ G1 s1 (yH.mpr rfl)⟩
   · cases hf
 | _=>cases hf
theorem zSp:CallR X (.type "int") (fun xs H Q=>∃x n,xs=[.str x]/\x.length<=640/\PySem.intText? x=some n/\Q (.int n) H):=by
 intro pins s σ H xs us Q I r h
 obtain⟨x,n,rfl,hl,hn,q⟩:=h
 obtain⟨u,rfl,t,rfl⟩:=oV r
 exact PySem.W.KIN.call_text hn hl ⟨.int n,H,I.tok _,⟨_,rfl⟩,q⟩
def zKJ:D->Option D
 | .int i=>some (.int i)
 | .bl k=>some (.int (if k then 1 else 0))
 | .str x=>if x.length<=640 then(PySem.intText? x).map .int else none
 | _=>none
def zZD (f:Ef):Ef:=fun ρ=>(f ρ).bind zKJ
theorem zUX (hg:Gl X "int")(hm:X.mg "int"=none)(h:PF X a fa)(hs:starEach [a] X.env=[(false,eval a X.env)]:=by rfl):PF X (.Call (.Name "int" p) [a] [] pos) (zZD fa):=by
 refine PE.to (qC (zSj.or zSp) hg hm (by rfl) (yO h yE (by rw[hs];rfl)) (by decide) (by decide) (by rw[hs];rfl) (by rfl)) ?_
 rintro σ H Q ⟨G0,H0,G,ρ,d,good,hf,k⟩
 unfold zZD at hf
 obtain⟨x,h1,hf⟩:=Qq.mp hf
 refine⟨G0,H0,G,ρ,_,good,h1,fun v H1 G1 s1 r1=>?_⟩
 unfold zKJ at hf
 split at hf
 · cases hf;exact .inl (.inl ⟨_,by rw[zH.mp r1],k _ _ G1 s1 (zH.mpr rfl)⟩)
 · cases hf;exact .inl (.inr ⟨_,by rw[wM.mp r1],k _ _ G1 s1 (zH.mpr rfl)⟩)
 · split at hf
   · rename_i hz
     obtain⟨n,h2,rfl⟩:=Qu.mp hf
     exact .inr ⟨_,n,by rw[yH.mp r1],hz,h2,k _ _ G1 s1 (zH.mpr rfl)⟩
   · cases hf
 · cases hf
def zTv (fa fb:Ef):Ef:=fun ρ=>(fa ρ).bind fun x=>(fb ρ).bind fun y=>match x,y with | .int i,.int j=>some (.int (if j > i then j else i)) | _,_=>none
theorem zOO (hc:X.calm=true)(hg:Gl X "max")(hm:X.mg "max"=none)(ha:PF X a fa)(hb:PF X b fb)(hs:starEach [a,b] X.env=[(false,eval a X.env),(false,eval b X.env)]:=by rfl)(hs2:starEach [b] X.env=[(false,eval b X.env)]:=by rfl) :
   PF X (.Call (.Name "max" p) [a,b] [] pos) (zTv fa fb):=by
 refine PE.to (rJ (zR3 hc) hg hm (by rfl) (yO ha (yO hb yE (by rw[hs2];rfl)) (by rw[hs,hs2])) (by decide) (by decide) (by rw[hs,hs2]) (by rw[hs2];rfl)) ?_
 rintro σ H Q ⟨G0,H0,G,ρ,d,good,hf,k⟩
 unfold zTv at hf
 obtain⟨x,h1,hf⟩:=Qq.mp hf
 obtain⟨y,h2,hf⟩:=Qq.mp hf
 refine⟨G0,H0,G,ρ,_,good,h1,fun u H1 G1 s1 r1=>⟨G0,H0,G1,ρ,_,good.step s1,h2,fun v H2 G2 s2 r2=>?_⟩⟩
 split at hf
 · cases hf
   exact⟨_,_,by rw[zH.mp r1,zH.mp r2],k _ _ G2 (s1.trans s2) (zH.mpr rfl)⟩
 · cases hf
theorem zO3:OpR X (binaryOp .Mult) (rI IntMulOk fun i j=>.int (i*j)):=opI fun _ _ _ _ _ _ _ hc q=>mul_int q hc
theorem zNZ:OpR X (binaryOp .Add) (fun x y H Q=>∃l b xs zs,x = .ref l/\y = .ref b/\SqL X.K H l xs/\SqL X.K H b zs/\xs.length+zs.length<=sizeLine/\∀p,H p=none->Q (.ref p) (upd H p (.lst (xs++zs)))):=by
 intro pins s σ H x y v u Q I rx ry h
 obtain⟨l,b,xs,zs,rfl,rfl,hH,hB,hz,q⟩:=h
 cases rx
 cases ry
 obtain⟨its,r,pl,_⟩:=I.list hH
 obtain⟨its2,r2,pl2,_⟩:=I.list hB
 obtain⟨⟨cls,dd,data,sl⟩,ho,hc,n,hd⟩:=pl.isList
 obtain⟨⟨cls2,dd2,data2,sl2⟩,ho2,hc2,n2,hd2⟩:=pl2.isList
 simp only at hc hd hc2 hd2
 subst hc hd hc2 hd2
 have hl:=r.length
 have hl2:=r2.length
 have e:its.toArray++its2.toArray=(its++its2).toArray:=by simp
 refine concat_meets ⟨_,ho,rfl⟩ ⟨_,ho2,rfl⟩ noFill_list_add seq_list_add PySem.F.slot_list_add PySem.F.entry_list_add (PySem.F.args_list_add_2 _ _) (list_addW l b its.toArray its2.toArray n n2 dd dd2 sl sl2 (by rw[Qs,Qs];omega)) ⟨ho,ho2,?_⟩
 rw[e]
 exact⟨.ref _,_,I.lnew (t':=s.toks) (r.append r2) (by rw[Qb];omega),rfl,q _ I.fresh⟩
theorem aE (ha:zW9 X a ga)(hb:zW9 X b gb):PFr X (.BinOp a .Add b pos) (aG ga gb):=by
 refine PE.toR (zYK zNZ ha hb) ?_
 rintro σ H Q ⟨G0,H0,G,ρ,d,good,hf,k⟩
 unfold aG at hf
 obtain⟨xs,h1,hf⟩:=Qq.mp hf
 obtain⟨ys,h2,hf⟩:=Qq.mp hf
 obtain⟨rfl,h3⟩:=dE hf
 refine⟨G0,H0,G,ρ,_,good,h1,fun p vs H1 G1 s1 hq rs=>⟨G0,H0,G1,ρ,_,good.step s1,h2,fun q us H2 G2 s2 hq2 rs2=>?_⟩⟩
 refine⟨p,q,vs,us,rfl,rfl,(s1.sub.trans s2.hh).seq hq,s2.sub.seq hq2,?_,fun l hl=>?_⟩
 · rw[←rs.length,←rs2.length,←Qb];exact Wd (wK h3)
 · have s3:=Step.own (o:=.lst (vs++us)) s2.sub hl
   exact k l _ _ G2 ((s1.trans s2).trans s3) ((s1.trans s2).hh.free hl) zE (s2.sub.free hl) ((rs.mono s2.gg).append rs2)
def zX4:List D->Option (List Str)
 | []=>some []
 | .str x::r=>(zX4 r).map fun xs=>x::xs
 | _=>none
theorem zXG {K:PySem.W.Frag}{G:Hp}:∀ {ds:List D} {ys:List Str} {vs:List V},zX4 ds=some ys->Reps K G ds vs->vs=ys.map V.str
 | [],_,_,h,r=>by cases h;rw[yQ] at r;rw[r];rfl
 | d::t,_,_,h,r=>by
   unfold zX4 at h
   split at h
   · rename_i h';cases h'
   · rename_i k t' h'
     cases h'
     obtain⟨v,vr,rfl,r1,r2⟩:=yZ.mp r
     obtain⟨ks,h1,rfl⟩:=Qu.mp h
     rw[zXG h1 r2,yH.mp r1];rfl
   · cases h
theorem zTY {ns:List Str}:∀ {us:List Value},Vals (ns.map V.str) us->StrsAre us ns:=by
 induction ns with
 | nil=>intro us r;rw[Ro] at r;cases r;exact .nil
 | cons n ns ih =>
   intro us r
   rw[Qj] at r
   cases r with
   | cons r1 r2 =>
     obtain⟨t,e⟩:=r1
     subst e
     exact .cons n t (ih r2)
def zMP (K:PySem.W.Frag):V->List V->Hp->VK->Prop:=fun x vs H Q=>∃z p ys,x = .str z/\vs=[.ref p]/\SqL K H p (ys.map V.str)/\(ys.map (·.length)).sum+ys.length*z.length<=16777216/\Q (.str (Txt.join z ys)) H
theorem zVZ:MtR X "str.join" (zMP X.K):=by
 intro pins s σ H x xs v us Q I rx rv h
 obtain⟨z,p,ys,rfl,rfl,hq,hz,q⟩:=h
 obtain⟨t,rfl⟩:=rx
 obtain⟨u,rfl,ru⟩:=rv.one
 cases ru
 obtain⟨its,r,pl,_⟩:=I.list hq
 exact join_list pl.isList (by simpa using zTY r) hz fun t' k=>⟨.str _,H,I.tok k,⟨t',rfl⟩,q⟩
def rH (fa:Ef)(ga:Lf):Ef:=fun ρ=>(fa ρ).bind fun x=>(ga ρ).bind fun ds=>match x with | .str z=>(zX4 ds).bind fun ys=>if (ys.map (·.length)).sum+ys.length*z.length<=100000 then some (.str (Txt.join z ys)) else none | _=>none
theorem zWx (ht:PE X c (tBM X.K "str" (zMP X.K) (tF X.K fa) (zZd (zO2 X.K ga) zTw))):PF X c (rH fa ga):=by
 refine PE.to ht ?_
 rintro σ H Q ⟨G0,H0,G,ρ,d,good,hf,k⟩
 unfold rH at hf
 obtain⟨x,h1,hf⟩:=Qq.mp hf
 obtain⟨ds,h2,hf⟩:=Qq.mp hf
 cases x with
 | str z =>
   dsimp only at hf
   obtain⟨ys,h3,hf⟩:=Qq.mp hf
   split at hf
   · rename_i hz
     cases hf
     refine⟨G0,H0,G,ρ,_,good,h1,fun u H1 G1 s1 r1=>?_⟩
     have r1:=yH.mp r1
     subst r1
     refine⟨rfl,G0,H0,G1,ρ,_,good.step s1,h2,fun q vs H2 G2 s2 hq rs=>?_⟩
     have e:=zXG h3 rs
     subst e
     exact⟨z,q,ys,rfl,rfl,s2.sub.seq hq,Wi hz (by decide),k _ _ G2 (s1.trans s2) (yH.mpr rfl)⟩
   · cases hf
 | _=>cases hf
end
structure FunD (K:PySem.W.Frag)(x qual:Str)(st:Stmt)(f:Addr)(fd:FuncData):Prop where
 ex:∃(oc:Value) (od:Option Addr) (dV kV doc pm:Value) (an:Option Addr) (cdv ct:Value) (osl:Array (Option Value)),
   fd=PySem.W.fnOf x qual (zB st) (zI st) (zU st) dV kV doc pm an cdv ct/\K.lookup f=some ⟨oc,od,.func fd,osl⟩/\PySem.W.codeIn K cdv qual=true
 kp:PySem.W.keepIn K (.ref f)=true
section
variable {P:Program} {w:World} {K:PySem.W.Frag} {mg:Str->Option Value} {base:Heap} {x qual:Str} {st:Stmt} {f:Addr} {fd:FuncData} {N ps:List Str} {k:Nat}
end
section
variable {X:Cx} {e:Expr} {es:List Expr} {ga:Lf} {pos p:Pos}
end
theorem fY {K:PySem.W.Frag}{G:Hp}{f:Str}{d:D}:∀ {ns:List Str} {ds:List D} {vs:List V},ns.length=ds.length->Reps K G ds vs->(ns.zip ds).lookup f=some d->∃u,(ns.zip vs).lookup f=some u/\Rep K G d u
 | [],_,_,_,_,h=>by simp at h
 | n::ns,[],_,hl,_,_=>by simp at hl
 | n::ns,e::ds,_,hl,r,h=>by
   obtain⟨v,vr,rfl,r1,r2⟩:=yZ.mp r
   rw[List.zip_cons_cons,Er] at h ⊢
   cases hq:f==n with
   | true=>rw[hq] at h;cases h;exact⟨v,rfl,r1⟩
   | false=>rw[hq] at h;exact fY (by simpa using hl) r2 h
section
variable {X:Cx} {a b c e tg elt iter:Expr} {es ifs:List Expr} {fa fb fc:Ef} {ga gb gi:Lf} {ta tc:Tf} {pos p:Pos} {st:Stmt}
def wX (c f:Str)(fa:Ef):Ef:=fun ρ=>(fa ρ).bind fun d=>match d with | .obj c' ns ds=>if c'=c then(ns.zip ds).lookup f else none | _=>none
theorem w9 {C:Addr}{c f:Str}(hC:ClsAt X.K c C)(hcl:Cls X.K C)(hn:NoAttr X.K C f)(ha:PF X a fa)(hb:attributeBase a f X.env (eval a X.env)=eval a X.env:=by rfl):PF X (.Attribute a f pos) (wX c f fa):=by
 refine PE.to (zMD ha hb) ?_
 rintro σ H Q ⟨G0,H0,G,ρ,d,good,hf,k⟩
 unfold wX at hf
 obtain⟨x,h1,hf2⟩:=Qq.mp hf
 cases x with
 | obj c' ns ds =>
   dsimp only at hf2
   by_cases hc:c'=c
   · rw[Qx hc] at hf2
     subst hc
     refine⟨G0,H0,G,ρ,_,good,h1,fun v H1 G1 s1 r1=>?_⟩
     obtain⟨C',q,dx,vs,e0,rfl,e1,e2,e3⟩:=aC.mp r1
     have ec:=hC.one e0
     subst ec
     obtain⟨u,e4,e5⟩:=fY e2 e3 hf2
     exact⟨q,_,dx,ns.zip vs,u,rfl,s1.sub _ _ e1,hcl,hn,e4,k _ _ G1 s1 e5⟩
   · rw[Wy hc] at hf2;cases hf2
 | _=>cases hf2
theorem zZa {f:Str}{y:V}:∀ {ns:List Str} {vs:List V},ns.length=vs.length->f∉ns->mV f y (ns.zip vs)=(ns++[f]).zip (vs++[y])
 | [],[],_,_=>rfl
 | [],_::_,h,_=>by simp at h
 | _::_,[],h,_=>by simp at h
 | n::ns,v::vs,h,hf=>by
   show(if n=f then _ else(n,v)::mV f y (ns.zip vs))=_
   rw[Wy (fun z=>hf (by rw[z];exact Qh)),zZa (by simpa using h) (fun z=>hf (Qd _ z))]
   rfl
def zOb (K:PySem.W.Frag)(C:Addr)(ns:List Str)(g:Lf):TS:=fun DD σ H=>∃(G0 H0 G:Hp) (ρ:List B) (p dx:Addr) (pre:List Str) (us:List V) (xs ds:List D),
 Good K G0 H0 G H σ ρ/\zZJ ρ/\σ[0]?=some (some (.ref p))/\H p=some (.ins C dx (pre.zip us))/\G p=none/\H0 p=none/\pre.length=us.length/\(pre++ns).Nodup/\(pre++ns).length<=900/\Reps K G xs us/\g ρ=some ds /\
 ∀H' G' vs,Step G0 H0 G' H'->H' p=some (.ins C dx ((pre++ns).zip vs))->G' p=none->Reps K G' (xs++ds) vs->DD.nx σ H'
theorem zSJ {C:Addr}:PSs X [] (zOb X.K C [] zR):=by
 intro pins s σ H D I h
 refine zW6 pins s σ H D I ?_
 obtain⟨G0,H0,G,ρ,p,dx,pre,us,xs,ds,good,now,hs,hp,gp,h0,hl,nd,hz,rs,hg,k⟩:=h
 cases hg
 rw[Wa] at k
 exact k H G us good.st (by rw[Wa] at *;exact hp) gp (by rw[Wa];exact rs)
theorem pT {C:Addr}{f x:Str}{ns:List Str}{g:Lf}{rest:List Stmt}{pos' p1:Pos}(hcl:Cls X.K C)(hn:NoAttr X.K C f)(hself:X.N[0]?=some x)(hvis:Vis X.env.scope x)(he:PF X e fa)(hr:PSs X rest (zOb X.K C ns g))(hd:(x==("__debug__":Str))=false:=by decide)(hcd:(x==("__classdict__":Str))=false:=by decide)
   (hs:swapsWith e (some (.Attribute (.Name x p1) f pos')) pos.line X.env=pure false:=by rfl):PSs X (.Assign [.Attribute (.Name x p1) f pos'] e pos::rest) (zOb X.K C (f::ns) (zY fa g)):=by
 intro pins s σ H D I h
 refine kB (zM6 (oY hself hvis hd hcd) he hs) hr pins s σ H D I ?_
 obtain⟨G0,H0,G,ρ,p,dx,pre,us,xs,ds,good,now,hself,hp,gp,h0,hl,nd,hz,rs,hg,k⟩:=h
 obtain⟨d,dr,h1,h2,rfl⟩:=dB hg
 have hlp:pre.length < 1000:=by rw[Qb] at hz;omega
 have hnp:f∉pre:=fun z=>(Yh.mp nd).2.2 f z f Qh rfl
 have e1:pre++f::ns=(pre++[f])++ns:=by simp
 refine⟨G0,H0,G,ρ,d,good,h1,fun v H1 G1 s1 r1=>⟨.ref p,hself,p,C,dx,pre.zip us,rfl,s1.hh _ _ hp,hcl,hn,?_,?_⟩⟩
 · rw[List.length_zip];omega
 · have hne:H p≠none:=by rw[hp];exact fun z=>nomatch z
   have gp1:G1 p=none:=(s1.new p hne).trans gp
   refine⟨G0,H0,G1,ρ,p,dx,pre++[f],us++[v],xs++[d],dr,(good.step s1).wrX now gp1 h0,now,hself,?_,gp1,h0,by rw[Qb,Qb,hl];rfl,by rw[←e1];exact nd,by rw[←e1];exact hz,(rs.mono s1.gg).snoc r1,h2,fun H' G' vs st q1 q2 q3=>?_⟩
   · rw[zE,zZa hl hnp]
   · refine k H' G' vs st (by rw[e1];exact q1) q2 ?_
     rw[show xs++d::dr=(xs++[d])++dr by simp]
     exact q3
end
def spI (K:PySem.W.Frag)(C:Addr)(ns:List Str)(n:Nat)(f:List D->Option (List D)):Sp:=fun vs H Q _=>∃(p dx:Addr) (rest:List V) (G H0:Hp) (ds xs:List D),vs = .ref p::rest/\H=upd (upd H0 dx (.own p)) p (.ins C dx [])/\H0 p=none/\H0 dx=none/\dx≠p/\Same G H0/\Reps K G ds rest/\ds.length=n/\f ds=some xs /\
 ∀H' G' us,Step G H0 G' H'->H' p=some (.ins C dx (ns.zip us))->G' p=none->Reps K G' xs us->Q .non H'
theorem cM {K:PySem.W.Frag}{G H0 H:Hp}(m:Nat):∀ {ds:List D} {vs:List V},Reps K G ds vs->Paired (RB K H0 G H) (vs.map some++List.replicate m none) (ds.map .fz++List.replicate m .no)
 | [],_,h=>by
   rw[yQ] at h;subst h
   show Paired _ (List.replicate m none) (List.replicate m B.no)
   induction m with
   | zero=>exact .nil
   | succ n ih=>rw[Wj,Wj];exact .cons .no ih
 | d::r,_,h=>by
   obtain⟨v,vr,rfl,h1,h2⟩:=yZ.mp h
   exact .cons (.fz h1) (cM m h2)
theorem zZY (m:Nat)(ds:List D):zZJ (.no::(ds.map B.fz++List.replicate m B.no)):=by
 constructor
 all_goals
   intro j es h
   cases j with
   | zero=>cases h
   | succ j =>
     rw[Wr] at h
     by_cases hi:j < ds.length
     · rw[Rw (by simpa using hi),Wu] at h
       obtain⟨k,_,h⟩:=Qu.mp h
       cases h
     · rw[Es (by simpa using hi),Ry] at h
       split at h<;>cases h
def lX (N:Nat)(ds:List D):List B:=.no::(ds.map .fz++List.replicate (N - (ds.length+1)) .no)
section
variable {P:Program} {w:World} {K:PySem.W.Frag} {mg:Str->Option Value} {base:Heap} {x qual:Str} {st:Stmt} {f C:Addr} {fd:FuncData} {N ps ns:List Str} {k:Nat} {sf:Str}
theorem zSA {g:Lf}(F:Fun K x qual st f fd)(S:FnScope N (sf::ps) (zU st))(hnd:ns.Nodup)(hlen:ns.length<=900)
   (hb:∀(cdv:Value) (A:Around) (outer:List Env) (s:Shared) (H:Hp) (E:XK),Room k (A.deeper (envOfC qual (zU st) s.heap.objs.size f cdv))->PSs (kX CX0 P w K mg base N qual (zU st) f cdv A outer s H E).nox (zI st) (zOb K C ns g)) :
   FnOk P w K mg base CX0 (k+1) f fd (sf::ps) (spI K C ns ps.length fun ds=>g (lX N.length ds)):=by
 refine F.ok S (fun vs H Q E h=>?_) (fun cdv A outer s H vs Q E hr h=>⟨_,hb cdv A outer s H E hr,?_⟩)
 · obtain⟨p,dx,rest,G,H0,ds,xs,rfl,_,_,_,_,_,rs,hl,_⟩:=h
   rw[Qi,Qi,←rs.length,hl]
 · obtain⟨p,dx,rest,G,H0,ds,xs,rfl,rfl,h1,h2,h3,sub,rs,hl,hf,k⟩:=h
   have hne:p≠dx:=h3.symm
   have hp1:(upd H0 dx (.own p)) p=none:=by rw[yP hne];exact h1
   have st1:Step G H0 G (upd H0 dx (.own p)):=Step.own sub h2
   have st2:Step G H0 G (upd (upd H0 dx (.own p)) p (.ins C dx [])):=st1.trans (Step.own st1.sub hp1)
   have good:Good K G H0 G (upd (upd H0 dx (.own p)) p (.ins C dx [])) (oG N (.ref p::rest)) (lX N.length ds):=by
     refine⟨st2,?_,fun i j a es es' q1=>absurd q1 ((zZY _ ds).1 i es)⟩
     unfold oG lX
     rw[Qj,Qi,Ep,←rs.length]
     exact .cons .no (cM _ rs)
   refine⟨G,H0,G,_,p,dx,[],[],[],xs,good,zZY _ ds,rfl,zE,sub.free h1,h1,rfl,hnd,hlen,yQ.mpr rfl,hf,fun H' G' us s' q1 q2 q3=>k H' G' us s' q1 q2 q3⟩
end
section
variable {X:Cx} {a b c e tg elt iter:Expr} {es ifs:List Expr} {fa fb fc:Ef} {ga gb gi:Lf} {ta tc:Tf} {pos p:Pos} {st:Stmt}
def zZf (c:Str)(ns:List Str)(n:Nat)(f:List D->Option (List D))(g:Lf):Ef:=fun ρ=>(g ρ).bind fun ds=>if ds.length=n then(f ds).bind fun xs=>if ns.length=xs.length then some (.obj c ns xs) else none else none
theorem zS7 {k n:Nat}{C fI:Addr}{fd:FuncData}{ps ns:List Str}{c:Str}{f:List D->Option (List D)}(hC:ClsAt X.K c C)(M:Mk X.K C fI)(F:FnOk X.prog X.w X.K X.mg X.base CX0 k fI fd ps (spI X.K C ns n f))(hr:Room (k+1) X.A)(hm:X.mg c=some (.ref C))(hb:Binds X.K fd ps [])(hg:Gl X c)
   (ha:PFA X (e::es) ga) (hdb:(c==("__debug__":Str))=false:=by decide) (he:starEach (e::es) X.env=(false,eval e X.env)::starEach es X.env:=by rfl) (hpl:(backTo pos (starEach es X.env)).any (·.1)=false:=by rfl) :
   PF X (.Call (.Name c p) (e::es) [] pos) (zZf c ns n f ga):=by
 refine PE.to (zNu (E:=E0) M F hr hg hm hb .nil zSP ha hdb he hpl) ?_
 rintro σ H Q ⟨G0,H0,G,ρ,d,good,hf,k⟩
 unfold zZf at hf
 obtain⟨ds,h1,hf⟩:=Qq.mp hf
 split at hf
 · rename_i hl
   obtain⟨xs,h2,hf⟩:=Qq.mp hf
   split at hf
   · rename_i hn
     cases hf
     refine⟨G0,H0,G,ρ,_,good,h1,fun vs H1 G1 s1 r1 x dx hx hdx hne=>?_⟩
     refine⟨x,dx,vs++[],G1,H1,ds,xs,rfl,rfl,hx,hdx,hne,s1.sub,by rw[Wa];exact r1,hl,h2,fun H' G' us s' q1 q2 q3=>⟨rfl,?_⟩⟩
     exact k _ _ _ (s1.trans (s'.frz hx q1 q2)) (aC.mpr ⟨C,x,dx,us,hC,rfl,zE,hn,q3.mono (Same.new q2)⟩)
   · cases hf
 · cases hf
def zNh:D->D->Option Bool
 | d,.non=>some (kU d)
 | .bl x,.bl y=>some (x==y)
 | .non,.bl _=>some false
 | .int _,.bl _=>some false
 | .str _,.bl _=>some false
 | .tup _,.bl _=>some false
 | .lst _,.bl _=>some false
 | .obj _ _ _,.bl _=>some false
 | .exc _ _ _,.bl _=>some false
 | _,_=>none
theorem zLJ:OpR X (compareOp .Is) (fun x y H Q=>∃k,y = .bl k/\Q (.bl (decide (x = .bl k))) H):=by
 intro pins s σ H x y v u Q I rx ry h
 obtain⟨k,rfl,q⟩:=h
 cases ry
 cases x with
 | bl z=>cases rx;refine is_bool (yG I q ?_);rw[zWN]
 | non=>cases rx;refine Tx (by rfl) (by intro z;cases z) (yG I q (by simp))
 | int i=>obtain⟨t,rfl⟩:=rx;refine Tx (by rfl) (by intro z;cases z) (yG I q (by simp))
 | str i=>obtain⟨t,rfl⟩:=rx;refine Tx (by rfl) (by intro z;cases z) (yG I q (by simp))
 | byt i=>obtain⟨t,rfl⟩:=rx;refine Tx (by rfl) (by intro z;cases z) (yG I q (by simp))
 | flt i=>obtain⟨t,rfl⟩:=rx;refine Tx (by rfl) (by intro z;cases z) (yG I q (by simp))
 | ref i=>cases rx;refine Tx (by rfl) (by intro z;cases z) (yG I q (by simp))
 | ty i=>cases rx;refine Tx (by rfl) (by intro z;cases z) (yG I q (by simp))
theorem zTD:CmR X .Is zNh:=⟨_,zLN.or zLJ,fun d d' k G H x y Q h s rx ry q=>by
 have fin:∀(z:Bool) (v:V),d' = .bl z->x=v->k=decide (v = .bl z)->(fun x y H Q=>y=V.non/\Q (.bl (decide (x = .non))) H) x y H Q∨(∃k,y = .bl k/\Q (.bl (decide (x = .bl k))) H):=fun z v e1 e2 e3=>by
   subst e1;subst e2
   exact .inr ⟨z,wM.mp ry,by rw[←e3];exact q H G (.refl s)⟩
 cases d' with
 | non =>
   have hk:kU d=k:=by cases d<;>(cases h;rfl)
   refine .inl ⟨uW.mp ry,?_⟩
   rw[zXO rx,hk];exact q H G (.refl s)
 | bl z =>
   cases d with
   | bl w=>cases h;exact fin z _ rfl (wM.mp rx) (by rw[zWN])
   | non=>cases h;exact fin z _ rfl (uW.mp rx) (by simp)
   | int i=>cases h;exact fin z _ rfl (zH.mp rx) (by simp)
   | str i=>cases h;exact fin z _ rfl (yH.mp rx) (by simp)
   | tup ds=>cases h;obtain⟨p,_,e,_⟩:=xM.mp rx;exact fin z _ rfl e (by simp)
   | lst ds=>cases h;obtain⟨p,_,e,_⟩:=xG.mp rx;exact fin z _ rfl e (by simp)
   | obj _ _ ds=>cases h;obtain⟨_,p,_,_,_,e,_⟩:=aC.mp rx;exact fin z _ rfl e (by simp)
   | exc _ _ ds=>cases h;obtain⟨_,p,_,_,_,e,_⟩:=iY.mp rx;exact fin z _ rfl e (by simp)
 | _=>cases d<;>cases h⟩
def zLI (g:Lf)(f:Ef):Lf:=fun ρ=>(g ρ).bind fun ds=>(f ρ).bind fun n=>match n with | .int k=>if decide (0<=k)&&decide (k<=1000)&&decide (ds.length<=90) then some (List.replicate k.toNat ds).flatten else none | _=>none
theorem zZz {K:PySem.W.Frag}{G:Hp}{ds:List D}{vs:List V}(h:Reps K G ds vs):∀k:Nat,Reps K G (List.replicate k ds).flatten (List.replicate k vs).flatten
 | 0=>yQ.mpr rfl
 | k+1=>by
   rw[Wj,Wj,Tl,Tl]
   exact h.append (zZz h k)
theorem zLX (ha:PFr X a ga)(hb:PF X b fb):PFr X (.BinOp a .Mult b pos) (zLI ga fb):=by
 refine PE.toR (zYK zLQ ha hb) ?_
 rintro σ H Q ⟨G0,H0,G,ρ,d,good,hf,k⟩
 unfold zLI at hf
 obtain⟨xs,h1,hf⟩:=Qq.mp hf
 obtain⟨n,h2,hf⟩:=Qq.mp hf
 cases n with
 | int m =>
   dsimp only at hf
   split at hf
   · rename_i hc
     cases hf
     simp only[Qn,Wo] at hc
     refine⟨G0,H0,G,ρ,_,good,h1,fun p vs H1 G1 s1 hn hp gp rs=>⟨G0,H0,G1,ρ,_,good.step s1,h2,fun q H2 G2 s2 r2=>?_⟩⟩
     have hne:H1 p≠none:=by rw[hp];exact fun z=>nomatch z
     refine⟨p,m,vs,rfl,zH.mp r2,s2.hh _ _ hp,by omega,by omega,?_,fun l hl=>?_⟩
     · rw[←rs.length]
       have:xs.length*m.toNat<=90*1000:=Tc hc.2 (by omega)
       exact Wi this (by decide)
     · have s3:=Step.own (o:=.lst (List.replicate m.toNat vs).flatten) s2.sub hl
       exact k l _ _ G2 ((s1.trans s2).trans s3) ((s1.trans s2).hh.free hl) zE (s2.sub.free hl) (zZz (rs.mono s2.gg) _)
   · cases hf
 | _=>cases hf
def bR (i:Nat):Tf:=fun ρ=>match ρ[i]? with | some (.ow ds)=>some (!ds.isEmpty) | _=>none
theorem zPg (hu:X.A.units < cLine):OpR X (compareOp .NotEq) (fun x y H Q=>∃l m xs,x = .ref l/\y = .ref m/\SqL X.K H l xs/\SqL X.K H m []/\Q (.bl (!xs.isEmpty)) H):=by
 intro pins s σ H x y v u Q I rx ry h
 obtain⟨l,m,xs,rfl,rfl,hl,hm,q⟩:=h
 cases rx
 cases ry
 obtain⟨its,w1,t1,_⟩:=I.list hl
 obtain⟨jts,w2,t2,_⟩:=I.list hm
 cases w2
 cases xs with
 | nil =>
   cases w1
   have R:=SeqAt.RcNeAt.lists (A:=X.A) (s:=s) (e:=fun _=>true) t1.isList t2.isList rfl hu (fun j h1=>absurd h1 (by simp))
   exact R X.prog X.w X.xe _ ⟨.bl false,H,I,rfl,q⟩
 | cons x r =>
   cases w1 with
   | cons r1 r2 =>
     have R:=Pq (A:=X.A) (s:=s) t1.isList t2.isList (by simp) hu
     exact R X.prog X.w X.xe _ ⟨.bl true,H,I,rfl,q⟩
theorem zQE {k:Nat}(i:Nat)(hr:Room k X.A){x:Str}{p1 p2:Pos}(hN:X.N[i]?=some x:=by rfl)(hv:Vis X.env.scope x:=by first | exact Or.inl rfl | exact Or.inr (Or.inl rfl) | exact Or.inr (Or.inr rfl))(hd:(x==("__debug__":Str))=false:=by decide)(hcd:(x==("__classdict__":Str))=false:=by decide) :
   PFT X (.Compare (.Name x p1) [.NotEq] [.List [] p2] pos) (bR i):=by
 refine PT.to (zZW (zPg hr.units0) (oY hN hv hd hcd) (zPS yE) (zYW _)) ?_
 rintro σ H Q ⟨G0,H0,G,ρ,b,good,hf,k⟩
 unfold bR at hf
 split at hf
 · rename_i ds hi
   cases hf
   obtain⟨q,vs,e1,e2,e3,e4,e5⟩:=good.addr hi
   refine⟨.ref q,e1,Ye _,fun z hz=>⟨q,z,vs,rfl,rfl,.of (by rw[yP (yJ e2 hz)];exact e2),.of zE,_,rfl,?_⟩⟩
   have e:(!vs.isEmpty) = !ds.isEmpty:=by
     have hl:=e5.length
     cases vs with
     | nil=>cases ds with
       | nil=>rfl
       | cons _ _=>simp at hl
     | cons _ _=>cases ds with
       | nil=>simp at hl
       | cons _ _=>rfl
   rw[e]
   exact k _ G (Step.own good.sub hz)
 · cases hf
end
section
variable {l:Addr} {its:Array Value} {n:Nat} {dd:Option Addr} {sl:Array (Option Value)} {y:Value} {q:Nat->Bool} {top:Int} {j:Nat}
theorem zTg (hj:j < its.size)(ht:(j:Int) < top)(hq:q j=true):∀(k i:Nat),j - i=k->i<=j->(∀m,i<=m->m < j->q m=false)->Meets (Builtin.«list.index.loop» ⟨[.ref l,y,rawInt i,rawInt top],[]⟩)
   (fun A R s=>s.heap.get? l=some { cls:=.type "list",dict:=dd,data:=.seq its n,slots:=sl }/\(∀m (h:m < its.size),SeqAt.EqAt A.in1 s its[m] y (q m))/\R (.ok (.ret (.int j s.toks))) { s with toks:=s.toks+1 })
 | 0,i,hk,hi,_=>by
   have e:i=j:=by omega
   subst e
   intro P w A R s hyp
   obtain⟨hp,g,d,tk,os⟩:=s
   obtain⟨at_,eqs,fin⟩:=hyp
   wp_walk using wpAny_loadPart' at_
   rw[show(if (i:Int) < top then its[((i:Nat):Int).toNat]? else none)=some its[i] by simp[ht,hj]]
   refine Qw (eqs i hj P w _ _ ?_)
   rw[hq]
   wp_walk
   exact fin
 | k+1,i,hk,hi,hno=>by
   intro P w A R s hyp
   obtain⟨hp,g,d,tk,os⟩:=s
   obtain⟨at_,eqs,fin⟩:=hyp
   have lt:i < its.size:=by omega
   have lt2:(i:Int) < top:=by omega
   wp_walk using wpAny_loadPart' at_
   rw[show(if (i:Int) < top then its[((i:Nat):Int).toNat]? else none)=some its[i] by simp[lt2,lt]]
   refine Qw (eqs i lt P w _ _ ?_)
   rw[hno i (Qk _) (by omega)]
   wp_walk
   rw[show((i:Int)+1)=((i+1:Nat):Int) by push_cast;rfl]
   exact⟨El Tv _,Ez Py (by
     rw[Wn Tv _]
     exact zTg hj ht hq k (i+1) (by omega) (by omega) (fun m h1 h2=>hno m (by omega) h2) P w A R _ ⟨at_,eqs,fin⟩)⟩
theorem zQ8 (hj:j < its.size)(hs:(j:Int) < 2^63 - 1)(hq:q j=true)(hno:∀m,m < j->q m=false):Meets (Builtin.«list.index» ⟨[.ref l,y],[]⟩)
   (fun A R s=>s.heap.get? l=some { cls:=.type "list",dict:=dd,data:=.seq its n,slots:=sl }/\(∀m (h:m < its.size),SeqAt.EqAt A.in1 s its[m] y (q m))/\R (.ok (.ret (.int j s.toks))) { s with toks:=s.toks+1 }):=by
 intro P w A R s hyp
 obtain⟨hp,g,d,tk,os⟩:=s
 obtain⟨at_,eqs,fin⟩:=hyp
 wp_walk using wpAny_loadPart' at_
 rw[show((fun i:Int=>if i < 0 then max 0 (i+(its.size:Int)) else i) ((none:Option Int).getD 0))=((0:Nat):Int) by simp,
   show((fun i:Int=>if i < 0 then max 0 (i+(its.size:Int)) else i) ((none:Option Int).getD (2^63 - 1)))=2^63 - 1 by simp]
 exact⟨El Tv _,Ez Py (by
   rw[Wn Tv _]
   exact zTg hj hs hq _ 0 rfl (Ye _) (fun m _ h2=>hno m h2) P w A R _ ⟨at_,eqs,fin⟩)⟩
end
section
variable {X:Cx} {a b c e tg elt iter:Expr} {es ifs:List Expr} {fa fb fc:Ef} {ga gb gi:Lf} {ta tc:Tf} {pos p:Pos} {st:Stmt}
end
end L2
namespace L2
open PySem PySem.Spec PyProof.Rows
section
variable {prog:Program} {w:World} {A:Around} {E:Value->Shared->Prop} {s:Shared}
theorem zRt {M:Model}{a:Addr}{Q:Option Obj->Shared->Prop}(h:Q (s.heap.get? a) s):wpAny M A (loadIfAlive a) Q E s :=
 fun Γ p _=>by show Sem.wp M Γ (.loadIfAlive a .pure) _ _ p s;rw[Sem.wp_loadIfAlive];exact h
abbrev zYl (h:Heap)(z TI TO T:Addr)(b:Bool):Prop:=h.get? z=some { cls:=.type "zip",dict:=none,data:=.fields #[rawInt T,.bool b,.bool false,.ref TI,.ref TO],slots:=#[] }
theorem zXu {z TI TO T:Addr}{b:Bool}{o:Obj}{Q:Bool->Shared->Prop}(hz:zYl s.heap z TI TO T b)(hT:s.heap.get? T=some o)(hQ:∀h',zYl h' z TI TO T true->(∀c u,c≠z->s.heap.get? c=some u->h'.get? c=some u)->h'.objs.size=s.heap.objs.size->Q false { s with heap:=h' }) :
   wpAny (model prog w) A (Builtin.SmallTypes.ownedTupleIsFree (.ref z)) Q E s:=by
 unfold Builtin.SmallTypes.ownedTupleIsFree
 refine Qw (Wb hz rfl (x:=rawInt T) rfl ?_)
 change wpAny _ _ (loadIfAlive (Int.toNat (T:Int)) >>= _) _ _ _
 refine Qw (zRt ?_)
 rw[Rs,hT]
 change wpAny _ _ (field (.ref z) 1 >>= _) _ _ _
 refine Qw (Wb hz rfl (x:=.bool b) rfl ?_)
 cases b with
 | false =>
   change wpAny _ _ (setField (.ref z) 1 (.bool true) >>= fun _=>pure false) _ _ _
   refine Qw (Rk hz (by simp) fun h' q1 q2=>Qo (hQ h' q1 (fun c u hc e=>q2.extBut _ _ hc e) q2.1))
 | true =>
   change wpAny _ _ (pure false) _ _ _
   exact Qo (hQ s.heap hz (fun _ _ _ e=>e) rfl)
theorem zRI {z TI TO i1 i2 l1 l2 T:Addr}{b:Bool}{o:Obj}{k:Nat}{xs ys:Array Value}{x y:Value}{Q:Value->Shared->Prop}(D:ZipApart z TI TO i1 i2 l1 l2)
   (hz:zYl s.heap z TI TO T b) (hT:s.heap.get? T=some o) (hTI:IsPair s.heap TI (.ref i1) (.ref i2))
   (h1:s.heap.IsListIter i1 l1 k) (h2:s.heap.IsListIter i2 l2 k) (hl1:s.heap.IsList l1 xs) (hl2:s.heap.IsList l2 ys) (hx:xs[k]?=some x) (hy:ys[k]?=some y)
   (hQ:∀h',zYl h' z TI TO T true->h'.IsListIter i1 l1 (k+1)->h'.IsListIter i2 l2 (k+1)->IsPair h' s.heap.objs.size x y ->
     (∀c o,c≠z->c≠i1->c≠i2->s.heap.get? c=some o->h'.get? c=some o)->Q (.ref s.heap.objs.size) { s with heap:=h' }) :
   wpAny (model prog w) A (Builtin.«zip.__next__» ⟨[.ref z],[]⟩) (fun fin s'=>∃v,fin = .done (.ret v)/\Q v s') E s:=by
 change wpAny _ _ (field (.ref z) 2 >>= _) _ _ _
 refine Qw (Wb hz rfl (x:=.bool false) rfl ?_)
 change wpAny _ _ (field (.ref z) 3 >>= _) _ _ _
 refine Qw (Wb hz rfl (x:=.ref TI) rfl (Qw (Ee hTI rfl ?_)))
 change wpAny _ _ (Builtin.SmallTypes.ownedTupleIsFree (.ref z) >>= _) _ _ _
 refine Qw (zXu hz hT fun g1 z1 k1 e1=>?_)
 simp only[Wg,Ta]
 refine Qw ?_
 simp only[←Uu,Yv,Ic]
 refine Qw (Qw (Rq ?_))
 change wpAny _ _ (Builtin.SmallTypes.nextOf (.ref i1) >>= _) _ _ _
 refine Qw (Ub (h1.at fun o e=>k1 _ o D.i1z e) (hl1.at fun o e=>k1 _ o D.l1z e) hx fun g2 u1 t2=>Qo (Qo (Qw (Qw (Rq ?_)))))
 change wpAny _ _ (Builtin.SmallTypes.nextOf (.ref i2) >>= _) _ _ _
 refine Qw (Ub ((h2.at fun o e=>k1 _ o D.i2z e).extBut t2.extBut D.i12.symm) ((hl2.at fun o e=>k1 _ o D.l2z e).extBut t2.extBut D.l2i1) hy fun g3 u2 t3=>Qo (Qo (Qo ?_)))
 have esz:g3.objs.size=s.heap.objs.size:=by rw[t3.1,t2.1,e1]
 refine Qw (wpAny_newTuple ?_ (by show 2<=sizeLine;exact Wd (wK (by decide))))
 refine Qo ⟨_,rfl,?_⟩
 have z3:zYl g3 z TI TO T true:=t3.extBut _ _ D.i2z.symm (t2.extBut _ _ D.i1z.symm z1)
 have w1:=u1.extBut t3.extBut D.i12
 change Q (.ref g3.objs.size) { s with heap:=g3.push { cls:=.type "tuple",data:=.seq #[x,y] } }
 have n3:IsPair (g3.push { cls:=.type "tuple",data:=.seq #[x,y] }) g3.objs.size x y:=Qa _ rfl
 rw[esz] at n3 ⊢
 exact hQ _ (Qe _ z3) (w1.at fun o e=>Qe _ e) (u2.at fun o e=>Qe _ e) n3
   fun c o c1 c2 c3 e=>Qe _ (t3.extBut _ _ c3 (t2.extBut _ _ c2 (k1 _ _ c1 e)))
theorem zOR {z TI TO i1 i2 l1 l2 T:Addr}{b:Bool}{o:Obj}{k:Nat}{xs ys:Array Value}{Q:Fin->Shared->Prop}(hh:A.handled=none)(D:ZipApart z TI TO i1 i2 l1 l2)
   (hz:zYl s.heap z TI TO T b) (hT:s.heap.get? T=some o) (hTI:IsPair s.heap TI (.ref i1) (.ref i2))
   (h1:s.heap.IsListIter i1 l1 k) (h2:s.heap.IsListIter i2 l2 k) (hl1:s.heap.IsList l1 xs) (hl2:s.heap.IsList l2 ys) (hend:xs[k]?=none∨ys[k]?=none)
   (hE:∀h' e,(∀c o,c≠z->c≠i1->c≠i2->s.heap.get? c=some o->h'.get? c=some o)->(∃o,h'.get? e=some o/\o.cls = .type "StopIteration")->E (.ref e) { s with heap:=h' }) :
   wpAny (model prog w) A (Builtin.«zip.__next__» ⟨[.ref z],[]⟩) Q E s:=by
 change wpAny _ _ (field (.ref z) 2 >>= _) _ _ _
 refine Qw (Wb hz rfl (x:=.bool false) rfl ?_)
 change wpAny _ _ (field (.ref z) 3 >>= _) _ _ _
 refine Qw (Wb hz rfl (x:=.ref TI) rfl (Qw (Ee hTI rfl ?_)))
 change wpAny _ _ (Builtin.SmallTypes.ownedTupleIsFree (.ref z) >>= _) _ _ _
 refine Qw (zXu hz hT fun g1 z1 k1 e1=>?_)
 simp only[Wg,Ta]
 refine Qw ?_
 simp only[←Uu,Yv,Ic]
 refine Qw (Qw (Rq ?_))
 change wpAny _ _ (Builtin.SmallTypes.nextOf (.ref i1) >>= _) _ _ _
 cases hx:xs[k]? with
 | none=>exact Qw (wpAny_nextOf_list_end hh (h1.at fun o e=>k1 _ o D.i1z e) (hl1.at fun o e=>k1 _ o D.l1z e) hx fun g2 e t2 he=>hE g2 e (fun c o c1 c2 _ q=>t2 _ _ c2 (k1 _ _ c1 q)) he)
 | some x =>
   have hy:ys[k]?=none:=by rcases hend with q | q;rw[hx] at q;cases q;exact q
   refine Qw (Ub (h1.at fun o e=>k1 _ o D.i1z e) (hl1.at fun o e=>k1 _ o D.l1z e) hx fun g2 u1 t2=>Qo (Qo (Qw (Qw (Rq ?_)))))
   change wpAny _ _ (Builtin.SmallTypes.nextOf (.ref i2) >>= _) _ _ _
   exact Qw (wpAny_nextOf_list_end hh ((h2.at fun o e=>k1 _ o D.i2z e).extBut t2.extBut D.i12.symm) ((hl2.at fun o e=>k1 _ o D.l2z e).extBut t2.extBut D.l2i1) hy fun g3 e t3 he=>hE g3 e (fun c o c1 c2 c3 q=>t3 _ _ c3 (t2.extBut _ _ c2 (k1 _ _ c1 q))) he)
theorem zZ1 {z TI TO i1 i2 l1 l2 T:Addr}{b:Bool}{o:Obj}{k:Nat}{xs ys:Array Value}{x y:Value}{Q:Option Value->Shared->Prop}(D:ZipApart z TI TO i1 i2 l1 l2)
   (hz:zYl s.heap z TI TO T b) (hT:s.heap.get? T=some o) (hTI:IsPair s.heap TI (.ref i1) (.ref i2))
   (h1:s.heap.IsListIter i1 l1 k) (h2:s.heap.IsListIter i2 l2 k) (hl1:s.heap.IsList l1 xs) (hl2:s.heap.IsList l2 ys) (hx:xs[k]?=some x) (hy:ys[k]?=some y)
   (hQ:∀h',zYl h' z TI TO T true->h'.IsListIter i1 l1 (k+1)->h'.IsListIter i2 l2 (k+1)->IsPair h' s.heap.objs.size x y ->
     (∀c o,c≠z->c≠i1->c≠i2->s.heap.get? c=some o->h'.get? c=some o)->Q (some (.ref s.heap.objs.size)) { s with heap:=h' }):wpAny (model prog w) A (pyNext (.ref z)) Q E s:=by
 have hT':s.TypeIs (.ref z) "zip":=⟨_,hz,rfl⟩
 unfold pyNext
 exact Qw (Ou (Ru (name:=Str.ofString "__next__") hT' F.slot_zip_next (Yq F.slot_zip_next hT' F.entry_zip_next (zRI D hz hT hTI h1 h2 hl1 hl2 hx hy fun h' a1 a2 a3 a4 a5=>Qo (hQ h' a1 a2 a3 a4 a5)) (F.args_zip_next_1 _))))
theorem zYq {z TI TO i1 i2 l1 l2 T:Addr}{b:Bool}{o:Obj}{k:Nat}{xs ys:Array Value}{Q:Option Value->Shared->Prop}(hh:A.handled=none)(D:ZipApart z TI TO i1 i2 l1 l2)
   (hz:zYl s.heap z TI TO T b) (hT:s.heap.get? T=some o) (hTI:IsPair s.heap TI (.ref i1) (.ref i2))
   (h1:s.heap.IsListIter i1 l1 k) (h2:s.heap.IsListIter i2 l2 k) (hl1:s.heap.IsList l1 xs) (hl2:s.heap.IsList l2 ys) (hend:xs[k]?=none∨ys[k]?=none)
   (hQ:∀h',(∀c o,c≠z->c≠i1->c≠i2->s.heap.get? c=some o->h'.get? c=some o)->Q none { s with heap:=h' }):wpAny (model prog w) A (pyNext (.ref z)) Q E s:=by
 have hT':s.TypeIs (.ref z) "zip":=⟨_,hz,rfl⟩
 unfold pyNext
 refine Qw (Ou (Ru (name:=Str.ofString "__next__") hT' F.slot_zip_next (Yq F.slot_zip_next hT' F.entry_zip_next (zOR hh D hz hT hTI h1 h2 hl1 hl2 hend fun h' e hk he=>?_) (F.args_zip_next_1 _))))
 obtain⟨o,q1,q2⟩:=he
 exact Qw (Uz (T:="StopIteration") (b:=true) ⟨o,q1,q2⟩ isSubtype_stop (Qo (hQ _ hk)))
end
def ZSt (h:Heap)(n a b S:Addr)(i:Nat):Prop :=
 ((IsZip h (n+4) (n+2) (n+3) .none/\∃p q,IsPair h (n+3) p q)∨∃T f o,zYl h (n+4) (n+2) (n+3) T f/\T∉[n+4,n+2,n+3,n,n+1]/\T≠S/\h.get? T=some o)/\IsPair h (n+2) (.ref n) (.ref (n+1))/\h.IsListIter n a i/\h.IsListIter (n+1) b i
theorem ZSt.keep {h h':Heap}{n a b S:Addr}{i:Nat}(z:ZSt h n a b S i)(k:∀c u,c≠S->h.get? c=some u->h'.get? c=some u)(hS:S∉[n+4,n+2,n+3,n,n+1])(hS3:(n+3)≠S):ZSt h' n a b S i:=by
 have ne:∀c∈[n+4,n+2,n+3,n,n+1],c≠S:=fun c hc z=>hS (z ▸ hc)
 obtain⟨z1,z2,z3,z4⟩:=z
 refine⟨?_,k _ _ (ne _ (by simp)) z2,z3.at fun o e=>k _ o (ne _ (by simp)) e,z4.at fun o e=>k _ o (ne _ (by simp)) e⟩
 rcases z1 with⟨q1,p,q,q2⟩ | ⟨T,f,o,q1,q2,q3,q4⟩
 · exact .inl ⟨k _ _ (ne _ (by simp)) q1,p,q,k _ _ hS3 q2⟩
 · exact .inr ⟨T,f,o,k _ _ (ne _ (by simp)) q1,q2,q3,k _ _ q3 q4⟩
theorem zPN {X:Cx}{pins:List (Addr×Obj)}{σ:St}{H:Hp}{s:Shared}(I:Inv X pins σ H s){c d:Addr}{v:List V}(hf:mN X pins H c)(hd:SqL X.K H d v):d≠c:=fun z=>by
 have e:=hf.1
 rcases hd with(hd | ⟨ob,hd⟩) | hd
 · rw[z,e] at hd;cases hd
 · rw[z,e] at hd;cases hd
 · obtain⟨ob,_,_,hk,_⟩:=hd
   have e3:=I.ok.mod.kin d ob hk
   obtain⟨_,q1,_,q3,_⟩:=hf
   rcases q3 with q3 | q3
   · exact I.ok.noex d ob e3 (z ▸ q3)
   · exact absurd (Qm (Qy (I.ok.bs d ob e3).1) (z ▸ q3)) (Ww _)
theorem zQD {X:Cx}{pins:List (Addr×Obj)}{σ:St}{A:Around}(hh:A.handled=none){n a b S:Addr}{G0 H0:Hp}{ds es:List D}{us ws:List V}{res:Value}{R:Result->Shared->Prop}
   (ha:SqL X.K G0 a us) (ra:Reps X.K G0 ds us) (hb:SqL X.K G0 b ws) (rb:Reps X.K G0 es ws) (hS:S∉[n+4,n+2,n+3,n,n+1]) (hlen:(sL ds es).length<=1000) :
   ∀(k i:Nat) (s:Shared) (H G:Hp) (acc:Array Value) (c:Nat) (vs:List V),Inv X pins σ H s->(∀d∈S::[n+4,n+2,n+3,n,n+1],mN X pins H d)->Step G0 H0 G H->Reps X.K G ((sL ds es).take i) vs->ZSt s.heap n a b S i ->
     s.heap.get? S=some { cls:=.type "list",dict:=none,data:=.seq acc c,slots:=#[] }->Vals vs acc.toList->i+k=(sL ds es).length ->
     (∀s' H' G' acc' c' vs',Inv X pins σ H' s'->Step G0 H0 G' H'->Reps X.K G' (sL ds es) vs'->Vals vs' acc'.toList->s'.heap.get? S=some { cls:=.type "list",dict:=none,data:=.seq acc' c',slots:=#[] }->R (.ok (.ret res)) s') ->
     codeAny (model X.prog X.w) A (.builtin "list.extend.loop" ⟨[.ref S,.ref (n+4),res],[]⟩) R s:=by
 intro k
 have neS:∀c∈[n+4,n+2,n+3,n,n+1],c≠S:=fun c hc z=>hS (z ▸ hc)
 induction k with
 | zero =>
   intro i s H G acc c vs I hf st rv z hs hv hi hR
   refine Ez F.entry_extend_loop ?_
   rw[Wn F.plain_extend_loop _]
   show wpAny _ A.in1 (pyNext (.ref (n+4)) >>= _) _ _ s
   have hqa:=st.sub.seq (st.gg.seq ha)
   have hqb:=st.sub.seq (st.gg.seq hb)
   obtain⟨its,rva,pa,_⟩:=I.list hqa
   obtain⟨jts,rvb,pb,_⟩:=I.list hqb
   have hl:=zY9 ds es
   have la:=ra.length
   have lb:=rb.length
   have lva:=rva.length
   have lvb:=rvb.length
   have hend:its.toArray[i]?=none∨jts.toArray[i]?=none:=by
     rcases Nat.lt_or_ge i its.length with q | q
     · exact .inr (by simp;omega)
     · exact .inl (by simp;omega)
   have ap:∀c∈[n+4,n+2,n+3,n,n+1],∀v d,SqL X.K H d v->d≠c:=fun c hc v d q=>zPN I (hf c (Qd _ hc)) q
   have D:ZipApart (n+4) (n+2) (n+3) n (n+1) a b:=⟨zne 2 4 (by decide),zne 3 4 (by decide),zne 0 4 (by decide),zne 1 4 (by decide),zne 2 3 (by decide),zne 2 0 (by decide),zne 2 1 (by decide),zne 3 0 (by decide),zne 3 1 (by decide),zne 0 1 (by decide),ap _ (by simp) us a hqa,ap _ (by simp) us a hqa,ap _ (by simp) us a hqa,ap _ (by simp) us a hqa,ap _ (by simp) ws b hqb,ap _ (by simp) ws b hqb,ap _ (by simp) ws b hqb,ap _ (by simp) ws b hqb⟩
   have fin:∀h':Heap,(∀c o,c∉[n+4,n+2,n+3,n,n+1]->s.heap.get? c=some o->h'.get? c=some o)->R (.ok (.ret res)) { s with heap:=h' }:=fun h' kk=>by
     have I2:Inv X pins σ H { s with heap:=h' }:=I.turnedL (t':=s.toks) kk fun d hd=>hf d (Qd _ hd)
     rw[show(sL ds es).take i=sL ds es from List.take_of_length_le (by omega)] at rv
     exact hR _ H G acc c vs I2 st rv hv (kk _ _ hS hs)
   obtain⟨z1,z2,z3,z4⟩:=z
   refine Qw ?_
   rcases z1 with⟨q1,p,q,q2⟩ | ⟨T,f,o,q1,q2,q3,q4⟩
   · exact wpAny_pyNext_zip_end hh D q1 z2 q2 z3 z4 pa.isList pb.isList hend fun h' hk=>Qo (fin h' fun c o hc e=>hk c o (fun z=>hc (by simp[z])) (fun z=>hc (by simp[z])) (fun z=>hc (by simp[z])) (fun z=>hc (by simp[z])) e)
   · exact zYq hh D q1 q4 z2 z3 z4 pa.isList pb.isList hend fun h' hk=>Qo (fin h' fun c o hc e=>hk c o (fun z=>hc (by simp[z])) (fun z=>hc (by simp[z])) (fun z=>hc (by simp[z])) e)
 | succ k ih =>
   intro i s H G acc c vs I hf st rv z hs hv hi hR
   refine Ez F.entry_extend_loop ?_
   rw[Wn F.plain_extend_loop _]
   show wpAny _ A.in1 (pyNext (.ref (n+4)) >>= _) _ _ s
   have hqa:=st.sub.seq (st.gg.seq ha)
   have hqb:=st.sub.seq (st.gg.seq hb)
   obtain⟨its,rva,pa,_⟩:=I.list hqa
   obtain⟨jts,rvb,pb,_⟩:=I.list hqb
   have ap:∀c∈[n+4,n+2,n+3,n,n+1],∀v d,SqL X.K H d v->d≠c:=fun c hc v d q=>zPN I (hf c (Qd _ hc)) q
   have D:ZipApart (n+4) (n+2) (n+3) n (n+1) a b:=⟨zne 2 4 (by decide),zne 3 4 (by decide),zne 0 4 (by decide),zne 1 4 (by decide),zne 2 3 (by decide),zne 2 0 (by decide),zne 2 1 (by decide),zne 3 0 (by decide),zne 3 1 (by decide),zne 0 1 (by decide),ap _ (by simp) us a hqa,ap _ (by simp) us a hqa,ap _ (by simp) us a hqa,ap _ (by simp) us a hqa,ap _ (by simp) ws b hqb,ap _ (by simp) ws b hqb,ap _ (by simp) ws b hqb,ap _ (by simp) ws b hqb⟩
   have hlt:i < (sL ds es).length:=by omega
   obtain⟨x,y,e1,e2,e3⟩:=zZ9 (Qp hlt)
   obtain⟨v,f1,r1⟩:=ra.get e1
   obtain⟨u,f2,r2⟩:=rb.get e2
   obtain⟨v',g1,q1⟩:=rva.get f1
   obtain⟨u',g2,q2⟩:=rvb.get f2
   have lac:acc.size=i:=by
     have h1:=hv.length;have h2:=rv.length;rw[Ul] at h2;have h3:acc.toList.length=acc.size:=Tu;omega
   have fin:∀h':Heap,IsPair h' s.heap.objs.size v' u'->ZSt h' n a b S (i+1)->(∀c o,c∉[n+4,n+2,n+3,n,n+1]->s.heap.get? c=some o->h'.get? c=some o)->∀c',(h'.update S (Obj.mapSeq (·.push (.ref s.heap.objs.size)))).get? S=some { cls:=.type "list",dict:=none,data:=.seq (acc.push (.ref s.heap.objs.size)) c',slots:=#[] } ->
       codeAny (model X.prog X.w) A (.builtin "list.extend.loop" ⟨[.ref S,.ref (n+4),res],[]⟩) R { s with heap:=h'.update S (Obj.mapSeq (·.push (.ref s.heap.objs.size))) }:=fun h' p zz kk c' eS=>by
     have I1:Inv X pins σ (upd H s.heap.objs.size (.tup [v,u])) { s with heap:=h' }:=I.turnedNew (t':=s.toks) kk (fun d hd=>hf d (Qd _ hd)) (Qk _) ⟨by show 2<=sizeLine;exact Wd (wK (by decide)),[v',u'],.cons q1 (.cons q2 .nil),⟨_,p,rfl,_,rfl⟩⟩
     have lt:∀d∈S::[n+4,n+2,n+3,n,n+1],d < s.heap.objs.size:=fun d hd=>by
       obtain⟨z1,z2,⟨o3,z3,_⟩,⟨o4,z4,_⟩⟩:=z
       simp only[Qz,Et,Yp] at hd
       rcases hd with q | q | q | q | q | q
       · rw[q];exact Qy hs
       · rw[q]
         rcases z1 with⟨q1,_⟩ | ⟨T,f,o,q1,_⟩
         · exact Qy q1
         · exact Qy q1
       · rw[q];exact Qy z2
       · rw[q];exact Nat.lt_of_succ_lt (show n+4 < _ from by
           rcases z1 with⟨q1,_⟩ | ⟨T,f,o,q1,_⟩
           · exact Qy q1
           · exact Qy q1)
       · rw[q];exact Qy z3
       · rw[q];exact Qy z4
     have hf1:∀d∈S::[n+4,n+2,n+3,n,n+1],mN X pins (upd H s.heap.objs.size (.tup [v,u])) d:=fun d hd=>⟨by rw[yP (We (lt d hd))];exact(hf d hd).1,(hf d hd).2⟩
     have oth:∀c o,c≠S->h'.get? c=some o->(h'.update S (Obj.mapSeq (·.push (.ref s.heap.objs.size)))).get? c=some o:=fun c o hc e=>(Wz _ _ (Ne.symm hc)).trans e
     have I2:Inv X pins σ (upd H s.heap.objs.size (.tup [v,u])) { s with heap:=h'.update S (Obj.mapSeq (·.push (.ref s.heap.objs.size))) }:=Inv.turnedL (s:={ s with heap:=h' }) (h':=h'.update S (Obj.mapSeq (·.push (.ref s.heap.objs.size)))) (t':=s.toks) (fp:=[S]) I1 (fun c o hc e=>oth c o (fun z=>hc (by simp[z])) e) fun d hd=>hf1 d (by
       rw[Wh] at hd;rw[hd];exact Qh)
     have st1:=Step.laid (o:=.tup [v,u]) st.sub I.fresh
     have st2:=st.trans st1
     have r3:Rep X.K (upd G s.heap.objs.size (.tup [v,u])) (.tup [x,y]) (.ref s.heap.objs.size):=xM.mpr ⟨_,_,rfl,.of zE,yZ.mpr ⟨_,_,rfl,r1.mono st2.gg,yZ.mpr ⟨_,_,rfl,r2.mono st2.gg,yQ.mpr rfl⟩⟩⟩
     have r4:Reps X.K (upd G s.heap.objs.size (.tup [v,u])) ((sL ds es).take (i+1)) (vs++[.ref s.heap.objs.size]):=by
       rw[List.take_succ_eq_append_getElem hlt,e3]
       exact(rv.mono st1.gg).snoc r3
     exact ih (i+1) _ _ _ _ _ _ I2 hf1 st2 r4 (zz.keep oth hS (neS _ (by simp))) eS (by rw[Array.toList_push];exact hv.snoc rfl) (by omega) hR
   have lsz:acc.size<=1000:=by omega
   have hsl:1001<=sizeLine:=Wd (wK (by decide))
   obtain⟨z1,z2,z3,z4⟩:=z
   refine Qw ?_
   have nT:∀d∈S::[n+4,n+2,n+3,n,n+1],∀u,s.heap.get? d=some u->d≠s.heap.objs.size:=fun d _ u e=>We (Qy e)
   rcases z1 with⟨q1,p,q,q2⟩ | ⟨T,f,o,q1,q2,q3,q4⟩
   · refine wpAny_pyNext_zip_item D q1 z2 q2 z3 z4 pa.isList pb.isList (by simpa using g1) (by simpa using g2) fun h' a1 a2 a3 a4 a5 a6 hk=>?_
     have kk:∀c o,c∉[n+4,n+2,n+3,n,n+1]->s.heap.get? c=some o->h'.get? c=some o:=fun c o hc e=>hk c o (fun z=>hc (by simp[z])) (fun z=>hc (by simp[z])) (fun z=>hc (by simp[z])) (fun z=>hc (by simp[z])) e
     have hS':=kk _ _ hS hs
     have zz:ZSt h' n a b S (i+1):=by
       refine⟨.inr ⟨s.heap.objs.size,false,_,a1,fun hm=>?_,fun z=>?_,a5⟩,hk _ _ D.TIz D.TITO D.TIi1 D.TIi2 z2,a3,a4⟩
       · obtain⟨o3,e3,_⟩:=z3
         obtain⟨o4,e4,_⟩:=z4
         simp only[Qz,Et,Yp] at hm
         rcases hm with z | z | z | z | z
         · exact absurd (z ▸ Qy q1) (Ww _)
         · exact absurd (z ▸ Qy z2) (Ww _)
         · exact absurd (z ▸ Qy q2) (Ww _)
         · exact absurd (z ▸ Qy e3) (Ww _)
         · exact absurd (z ▸ Qy e4) (Ww _)
       · exact absurd (z ▸ Qy hs) (Ww _)
     show wpAny _ A.in1 (updateSeq S (·.push (.ref s.heap.objs.size)) >>= _) _ _ _
     refine Qw (Tt hS' rfl (Qo ⟨El F.plain_extend_loop _,fin h' a5 zz kk _ (Wf _ hS' rfl)⟩) ?_ ?_)
     · show acc.size<=sizeLine;omega
     · show(acc.push _).size<=sizeLine+1;rw[Array.size_push];omega
   · refine zZ1 D q1 q4 z2 z3 z4 pa.isList pb.isList (by simpa using g1) (by simpa using g2) fun h' a1 a2 a3 a4 hk=>?_
     have kk:∀c o,c∉[n+4,n+2,n+3,n,n+1]->s.heap.get? c=some o->h'.get? c=some o:=fun c o hc e=>hk c o (fun z=>hc (by simp[z])) (fun z=>hc (by simp[z])) (fun z=>hc (by simp[z])) e
     have hS':=kk _ _ hS hs
     have zz:ZSt h' n a b S (i+1):=⟨.inr ⟨T,true,_,a1,q2,q3,kk _ _ q2 q4⟩,hk _ _ D.TIz D.TIi1 D.TIi2 z2,a2,a3⟩
     show wpAny _ A.in1 (updateSeq S (·.push (.ref s.heap.objs.size)) >>= _) _ _ _
     refine Qw (Tt hS' rfl (Qo ⟨El F.plain_extend_loop _,fin h' a4 zz kk _ (Wf _ hS' rfl)⟩) ?_ ?_)
     · show acc.size<=sizeLine;omega
     · show(acc.push _).size<=sizeLine+1;rw[Array.size_push];omega
theorem zUg:typeLookup (.type "zip") "__len__"=pure none:=by rw[Ys,Rl];kernel_rfl
theorem zUG:typeLookup (.type "zip") "__length_hint__"=pure none:=by rw[Ys,Rl];kernel_rfl
theorem zUW {X:Cx}{pins:List (Addr×Obj)}{σ:St}{A:Around}{E:Value->Shared->Prop}{s:Shared}{Q:List Value->Shared->Prop}(hh:A.handled=none){n a b:Addr}{G0 H0:Hp}{ds es:List D}{us ws:List V}
   (ha:SqL X.K G0 a us) (ra:Reps X.K G0 ds us) (hb:SqL X.K G0 b ws) (rb:Reps X.K G0 es ws) (hlen:(sL ds es).length<=1000) (I:Inv X pins σ H0 s) (hs:Same G0 H0) (hf:∀d∈[n+4,n+2,n+3,n,n+1],mN X pins H0 d)
   (z1:IsZip s.heap (n+4) (n+2) (n+3) .none) (z2:IsPair s.heap (n+2) (.ref n) (.ref (n+1))) (z3:IsPair s.heap (n+3) .none .none) (z4:s.heap.IsListIter n a 0) (z5:s.heap.IsListIter (n+1) b 0)
   (hQ:∀(s':Shared) (H' G':Hp) (acc:Array Value) (vs:List V),Inv X pins σ H' s'->Step G0 H0 G' H'->Reps X.K G' (sL ds es) vs->Vals vs acc.toList->Q acc.toList s'):wpAny (model X.prog X.w) A (collect (.ref (n+4))) Q E s:=by
 have lt:∀d∈[n+4,n+2,n+3,n,n+1],d < s.heap.objs.size:=fun d hd=>by
   obtain⟨o4,e4,_⟩:=z4
   obtain⟨o5,e5,_⟩:=z5
   simp only[Qz,Et,Yp] at hd
   rcases hd with q | q | q | q | q
   · rw[q];exact Qy z1
   · rw[q];exact Qy z2
   · rw[q];exact Qy z3
   · rw[q];exact Qy e4
   · rw[q];exact Qy e5
 have hS:s.heap.objs.size∉[n+4,n+2,n+3,n,n+1]:=fun hm=>Ww _ (lt _ hm)
 have hSI:s.heap.objs.size≠n+4:=fun e=>hS (by rw[e];simp)
 have hT:∀h':Heap,IsZip h' (n+4) (n+2) (n+3) .none->Shared.TypeIs { s with heap:=h' } (.ref (n+4)) "zip":=fun h' q=>⟨_,q,rfl⟩
 unfold collect
 refine Qw (wpAny_runValue (Ez F.entry_proto_collect ?_))
 rw[Wn F.plain_proto_collect _]
 show wpAny _ A.in1 (newList [] >>= fun l=>again (.builtin "list.__iadd__" ⟨[l,.ref (n+4)],[]⟩)) _ _ s
 refine Qw (Em ?_)
 refine Qo ⟨El F.plain_list_iadd _,Ez F.entry_list_iadd ?_⟩
 rw[Wn F.plain_list_iadd _]
 show wpAny _ A.in1 (Builtin.List.listExtendWith (.ref s.heap.objs.size) (.ref (n+4)) (.ref s.heap.objs.size)) _ _ _
 have y1:IsZip (s.heap.push { cls:=.type "list",data:=.seq ([]:List Value).toArray }) (n+4) (n+2) (n+3) .none:=Qe _ z1
 unfold Builtin.List.listExtendWith
 refine Qw (Og (hT _ y1) ?_)
 have h1:Builtin.List.listSameRef (.ref s.heap.objs.size) (.ref (n+4))=false:=by simp[Builtin.List.listSameRef,hSI]
 have h2:(Value.type "zip"==Value.type "list")=false:=by decide
 have h3:(Value.type "zip"==Value.type "tuple")=false:=by decide
 simp only[h1,h2,h3,Bool.or_false,Wg,Ta]
 refine Qw (Oz y1 ?_)
 refine Qw (Rq ?_)
 unfold Builtin.List.listLengthHint
 refine Qw (Yn (hT _ y1) zUg ?_)
 show wpAny _ A.in1 (specialOf (Value.ref (n+4)) (Str.ofString "__length_hint__") >>= _) _ _ _
 refine Qw (Yn (hT _ y1) zUG ?_)
 refine Qo ?_
 show wpAny _ A.in1 (rule "list.extend.makes-room" >>= fun _=>Builtin.List.listTouch (.ref s.heap.objs.size) >>= fun _ =>
   again (.builtin "list.extend.loop" ⟨[.ref s.heap.objs.size,.ref (n+4),.ref s.heap.objs.size],[]⟩)) _ _ _
 refine Qw (Od ?_)
 have hS₁:(s.heap.push { cls:=.type "list",data:=.seq ([]:List Value).toArray }).get? s.heap.objs.size=some { cls:=.type "list",data:=.seq ([]:List Value).toArray }:=Qa _ rfl
 refine Qw ?_
 show wpAny _ A.in1 (updateSeq s.heap.objs.size (·.push .none) >>= fun _=>updateSeq s.heap.objs.size (·.pop)) _ _ _
 refine Qw (Tt hS₁ rfl ?_)
 have hS₂:=Wf (Obj.mapSeq (·.push Value.none)) hS₁ rfl
 refine Tt hS₂ rfl ?_
 have hS₃ := Wf (Obj.mapSeq (·.pop)) hS₂ rfl
 have oth:∀b o,b≠s.heap.objs.size->s.heap.get? b=some o ->
     (((s.heap.push { cls:=.type "list",data:=.seq ([]:List Value).toArray }).update s.heap.objs.size (Obj.mapSeq (·.push Value.none))).update s.heap.objs.size (Obj.mapSeq (·.pop))).get? b=some o :=
   fun b o hb e=>(Wz _ _ (Ne.symm hb)).trans ((Wz _ _ (Ne.symm hb)).trans (Qe _ e))
 have oth':∀b o,s.heap.get? b=some o->_:=fun b o e=>oth b o (We (Qy e)) e
 have I3:Inv X pins σ H0 { s with heap:=((s.heap.push { cls:=.type "list",data:=.seq ([]:List Value).toArray }).update s.heap.objs.size (Obj.mapSeq (·.push Value.none))).update s.heap.objs.size (Obj.mapSeq (·.pop)) }:=I.kept (t':=s.toks) oth'
 refine Qo ⟨El F.plain_extend_loop _,zQD (S:=s.heap.objs.size) (A:=A) hh ha ra hb rb hS hlen _ 0 _ H0 G0 _ _ [] I3 (fun d hd=>?_) (Step.refl hs) (yQ.mpr rfl) ⟨.inl ⟨oth' _ _ z1,_,_,oth' _ _ z3⟩,oth' _ _ z2,z4.at fun o e=>oth' _ o e,z5.at fun o e=>oth' _ o e⟩ hS₃ .nil (Nat.zero_add _) fun s' H' G' acc' c' vs' J st rv hv hg=>?_⟩
 · rcases Qz.mp hd with q | q
   · rw[q];exact I.fpOk (Qk _) (I.hok.fresh (Qk _))
   · exact hf d q
 · show wpAny _ A (load s.heap.objs.size >>= _) _ _ s'
   refine Qw (wpAny_load hg ?_)
   exact Qo (hQ s' H' G' acc' vs' J st rv hv)
open AutoSeq1 (wpAny_loadPart') in
theorem zVk {X:Cx}{pins:List (Addr×Obj)}{σ:St}{A:Around}{E:Value->Shared->Prop}{s:Shared}{Q:Value->Shared->Prop}(hh:A.handled=none){n a b:Addr}{G0 H0:Hp}{ds es:List D}{us ws:List V}
   (ha:SqL X.K G0 a us) (ra:Reps X.K G0 ds us) (hb:SqL X.K G0 b ws) (rb:Reps X.K G0 es ws) (hlen:(sL ds es).length<=1000) (I:Inv X pins σ H0 s) (hs:Same G0 H0) (hf:∀d∈[n+4,n+2,n+3,n,n+1],mN X pins H0 d)
   (z1:IsZip s.heap (n+4) (n+2) (n+3) .none) (z2:IsPair s.heap (n+2) (.ref n) (.ref (n+1))) (z3:IsPair s.heap (n+3) .none .none) (z4:s.heap.IsListIter n a 0) (z5:s.heap.IsListIter (n+1) b 0)
   (hQ:∀(s':Shared) (H' G':Hp) (acc:Array Value) (vs:List V),Inv X pins σ H' s'->Step G0 H0 G' H'->Reps X.K G' (sL ds es) vs->Vals vs acc.toList->Q (.ref s'.heap.objs.size) { s' with heap:=s'.heap.push { cls:=.type "tuple",data:=.seq acc } }) :
   codeAny (model X.prog X.w) A (.call (.builtin "tuple.__new__") ⟨[.type "tuple",.ref (n+4)],[]⟩) (wants Q E) s:=by
 refine codeAny_of_tree ?_
 show wpAny _ A.in1 (do checkBuiltinCall "tuple.__new__" ⟨[.type "tuple",.ref (n+4)],[]⟩;again (.builtin "tuple.__new__" ⟨[.type "tuple",.ref (n+4)],[]⟩)) _ _ s
 refine Qw (Ob (F.newCall_tuple_1 _) (Qo ⟨El F.plain_tuple_new _,Ez F.entry_tuple_new ?_⟩))
 rw[Wn F.plain_tuple_new _]
 have hsub:=sub_tuple_self
 have hinit:=init_tuple_lookup
 have hmh:=madeHere_tuple
 have hTI:s.TypeIs (.ref (n+4)) "zip":=⟨_,z1,rfl⟩
 have hh1:A.in1.handled=none:=by simp[hh]
 wp_walk using Og hTI,zUW (A:=A.in1) hh1 ha ra hb rb hlen I hs hf z1 z2 z3 z4 z5
 intro s' H' G' acc vs J st rv hv
 show wpAny _ _ (Builtin.Tuple.tupleExact acc.toList.toArray >>= fun v=>ret v) _ _ _
 unfold Builtin.Tuple.tupleExact
 have hsl:1001<=sizeLine:=Wd (wK (by decide))
 have h1:=hv.length
 have h2:=rv.length
 have h3:acc.toList.length=acc.size:=Tu
 refine Qw (Em ?_ (by show acc.toList.toArray.size<=sizeLine;simp only[Array.toArray_toList];omega))
 refine Qo ?_
 have e:acc.toList.toArray=acc:=by simp
 rw[e]
 exact hQ s' H' G' acc vs J st rv hv
theorem zVC {X:Cx}{pins:List (Addr×Obj)}{σ:St}{A:Around}{E:Value->Shared->Prop}{s:Shared}{Q:Value->Shared->Prop}(hh:A.handled=none){n a b:Addr}{G0 H0:Hp}{ds es:List D}{us ws:List V}
   (ha:SqL X.K G0 a us) (ra:Reps X.K G0 ds us) (hb:SqL X.K G0 b ws) (rb:Reps X.K G0 es ws) (hlen:(sL ds es).length<=1000) (I:Inv X pins σ H0 s) (hs:Same G0 H0) (hf:∀d∈[n+4,n+2,n+3,n,n+1],mN X pins H0 d)
   (z1:IsZip s.heap (n+4) (n+2) (n+3) .none) (z2:IsPair s.heap (n+2) (.ref n) (.ref (n+1))) (z3:IsPair s.heap (n+3) .none .none) (z4:s.heap.IsListIter n a 0) (z5:s.heap.IsListIter (n+1) b 0)
   (hQ:∀(s':Shared) (H' G':Hp) (acc:Array Value) (vs:List V),Inv X pins σ H' s'->Step G0 H0 G' H'->Reps X.K G' (sL ds es) vs->Vals vs acc.toList->Q (.ref s'.heap.objs.size) { s' with heap:=s'.heap.push { cls:=.type "tuple",data:=.seq acc } }) :
   wpAny (model X.prog X.w) A (call (.type "tuple") [.ref (n+4)]) Q E s:=by
 refine callType_codes (Q₁:=fun obj s₁=>s₁.TypeIs obj "tuple"/\Q obj s₁) F.called_tuple (F.typeCall_tuple_1 _) F.entry_object_init
   (zVk (by simp[hh]) ha ra hb rb hlen I hs hf z1 z2 z3 z4 z5 fun s' H' G' acc vs J st rv hv=>⟨⟨_,Qa _ rfl,rfl⟩,hQ s' H' G' acc vs J st rv hv⟩) fun obj s₁ h₁=>?_
 exact⟨h₁.1,F.args_object_init_2 obj _,object_init_meets F.called_tuple.init.lookup F.called_tuple.made (by decide) X.prog X.w A.in1 _ s₁ ⟨h₁.1,rfl,h₁.2⟩⟩
section
variable {X:Cx} {a b c e tg elt iter:Expr} {es ifs:List Expr} {fa fb fc:Ef} {ga gb gi:Lf} {ta tc:Tf} {pos p p2:Pos} {st:Stmt}
def zVQ (f g:Ef):Ef:=fun ρ=>(f ρ).bind fun x=>(g ρ).bind fun y=>match x,y with | .lst xs,.lst ys=>if (sL xs ys).length<=1000 then some (.tup (sL xs ys)) else none | _,_=>none
theorem zRR {pos':Pos}(hc:X.calm=true)(hg:Gl X "tuple")(hm:X.mg "tuple"=none)(hg':Gl X "zip")(hm':X.mg "zip"=none)(ha:PF X a fa)(hb:PF X b fb)(hs:starEach [a,b] X.env=[(false,eval a X.env),(false,eval b X.env)]:=by rfl)(hs2:starEach [b] X.env=[(false,eval b X.env)]:=by rfl)
   (hs3:starEach [Expr.Call (.Name "zip" p2) [a,b] [] pos'] X.env=[(false,eval (.Call (.Name "zip" p2) [a,b] [] pos') X.env)]:=by rfl) :
   PF X (.Call (.Name "tuple" p) [.Call (.Name "zip" p2) [a,b] [] pos'] [] pos) (zVQ fa fb):=by
 intro pins s σ H Q I q
 obtain⟨G0,H0,G,ρ,d,good,hf,kk⟩:=q
 unfold zVQ at hf
 obtain⟨x,h1,hf⟩:=Qq.mp hf
 obtain⟨y,h2,hf⟩:=Qq.mp hf
 cases x with
 | lst xs =>
   cases y with
   | lst ys =>
     dsimp only at hf
     split at hf
     · rename_i hz
       cases hf
       have hA:=yO ha (yO hb yE (by rw[hs2];rfl)) (by rw[hs,hs2]) pos' pins s σ H (fun vs H'=>∃a b us ws G',vs=[.ref a,.ref b]/\Step G H G' H'/\SqL X.K G' a us/\Reps X.K G' xs us/\SqL X.K G' b ws/\Reps X.K G' ys ws) I
         ⟨G0,H0,G,ρ,_,good,h1,fun v H1 G1 s1 r1=>⟨G0,H0,G1,ρ,_,good.step s1,h2,fun u H2 G2 s2 r2=>by
           obtain⟨a,us,rfl,q1,q2⟩:=xG.mp (r1.mono s2.gg)
           obtain⟨b,ws,rfl,q3,q4⟩:=xG.mp r2
           exact⟨a,b,us,ws,G2,rfl,s1.trans s2,q1,q2,q3,q4⟩⟩⟩
       refine Call_ (nS I hg hm (by rfl) (Ew (rest:=[]) ?_ (by rw[hs3];rfl) (by rfl)))
       rw[hs3]
       refine Oe (Call_ (nS I hg' hm' (by rfl) (Ew (thn hA fun us s1 ⟨vs,H1,I1,r1,l1,l2,ws,zs,G1,e1,st1,q1,q2,q3,q4⟩=>?_) (by rw[hs,hs2]) (by rw[hs2];rfl))))
       subst e1
       obtain⟨u,u',rfl,ru,ru'⟩:=zSK r1
       cases ru
       cases ru'
       obtain⟨its,rv,p1,_⟩:=I1.list (st1.sub.seq q1)
       obtain⟨jts,rv',p2,_⟩:=I1.list (st1.sub.seq q3)
       refine call_zip_2 p1.isList p2.isList fun h' z1 z2 z3 z4 z5 _ hk=>?_
       have I2:Inv X pins σ H1 { s1 with heap:=h' }:=I1.kept (t':=s1.toks) hk
       refine Oa ?_
       refine zVC (I.ok.hd hc) q1 q2 q3 q4 hz I2 st1.sub (fun d hd=>?_) z1 z2 z3 z4 z5 fun s' H' G' acc vs J st rv hv=>?_
       · have hb':s1.heap.objs.size<=d:=by
           simp only[Qz,Et,Yp] at hd
           rcases hd with z | z | z | z | z<;>(rw[z];first | exact Qk _ | exact Nat.le_add_right _ _)
         exact I1.fpOk hb' (I1.hok.fresh hb')
       · have hl:=rv.length
         have hsl:1001<=sizeLine:=Wd (wK (by decide))
         have I3:Inv X pins σ (upd H' s'.heap.objs.size (.tup vs)) { s' with heap:=s'.heap.push { cls:=.type "tuple",data:=.seq acc } } :=
           J.laid (t':=s'.toks) (fun b o e=>Qe _ e) (Qk _) (show ObjOk X.prog X.w _ _ _ (.tup vs) from⟨by omega,acc.toList,hv,by have:=IsTup.new s'.heap acc;simpa using this⟩)
         have fr:H' s'.heap.objs.size=none:=J.hok.fresh (Qk _)
         have s4:=Step.laid (o:=.tup vs) st.sub fr
         exact⟨.ref s'.heap.objs.size,_,I3,rfl,kk _ _ _ ((st1.trans st).trans s4) (xM.mpr ⟨_,_,rfl,.of zE,rv.mono s4.gg⟩)⟩
     · cases hf
   | _=>cases hf
 | _=>cases hf
def zV7 (x:Str)(l:Int):Str:=⟨((Builtin.Str.strSliceIndices (some l) none 2 x.length).filterMap (x.cps[·]?)).toArray⟩
def zS6 (f fl fs:Ef):Ef:=fun ρ=>(f ρ).bind fun d=>(mQ fl ρ).bind fun l=>(mQ fs ρ).bind fun k=>match d,l,k with | .str x,some i,some j=>if j=2/\(zV7 x i).length<=lim then some (.str (zV7 x i)) else none | _,_,_=>none
theorem zUI {lo st:Expr}{fl fs:Ef}(ha:PF X a fa)(hl:PF X lo fl)(hst:PF X st fs):PF X (.Subscript a (.Slice (some lo) none (some st) p2) pos) (zS6 fa fl fs):=by
 intro pins s σ H Q I q
 obtain⟨G0,H0,G,ρ,d,good,hf,kk⟩:=q
 unfold zS6 at hf
 obtain⟨x,h1,hf⟩:=Qq.mp hf
 obtain⟨l,h2,hf⟩:=Qq.mp hf
 obtain⟨k,h3,hf⟩:=Qq.mp hf
 cases x with
 | str z=>cases l with
  | none=>cases hf
  | some i=>cases k with
   | none=>cases hf
   | some j =>
    dsimp only at hf
    split at hf
    · rename_i hj
      obtain⟨rfl,hz⟩:=hj
      cases hf
      refine Subscript_ (thn (ha pins s σ H (fun v H1=>∃G1,Step G H G1 H1/\v = .str z) I ⟨G0,H0,G,ρ,_,good,h1,fun v H1 G1 s1 r1=>⟨G1,s1,yH.mp r1⟩⟩) fun v s1 ⟨x,H1,I1,r1,G1,st1,e1⟩=>?_)
      subst e1
      obtain⟨t,rfl⟩:=r1
      refine wpAny_Slice (thn (zXF hl pins s1 σ H1 (fun o H2=>∃G2,Step G H G2 H2/\o=some i) I1 ⟨G0,H0,G1,ρ,_,good.step st1,h2,fun H2 G2 s2=>⟨G2,st1.trans s2,rfl⟩⟩) fun vl s2 ⟨l',H2,I2,pl,G2,st2,e2⟩=>?_)
      subst e2
      rw[Ot]
      refine Qo (thn (zXF hst pins s2 σ H2 (fun o H3=>∃G3,Step G H G3 H3/\o=some 2) I2 ⟨G0,H0,G2,ρ,_,good.step st2,h3,fun H3 G3 s3=>⟨G3,st2.trans s3,rfl⟩⟩) fun vk s3 ⟨k',H3,I3,pk,G3,st3,e3⟩=>?_)
      subst e3
      cases pl with
      | int _ ti =>
        cases pk with
        | int _ tk =>
          have I4:Inv X pins σ H3 { s3 with heap:=s3.heap.push { cls:=.type "slice",data:=.fields #[.int i ti,.none,.int 2 tk] } }:=I3.kept (t':=s3.toks) fun b ob q=>Qe _ q
          have fin:∀t' k,EP X pins σ Q (.str (zV7 z i) t') { ({ s3 with heap:=s3.heap.push { cls:=.type "slice",data:=.fields #[.int i ti,.none,.int 2 tk] } }:Shared) with toks:=k }:=fun t' k=>⟨.str (zV7 z i),H3,I4.tok k,⟨t',rfl⟩,kk _ _ _ st3 (yH.mpr rfl)⟩
          show wpAny (model X.prog X.w) X.A (subscriptTail a (.Slice (some lo) none (some st) p2) (.str z t) (.ref s3.heap.objs.size)) (EP X pins σ Q) X.xe _
          refine tail_any (ops:=[.ref s3.heap.objs.size,.str z t]) (T:="str") (Ih _ z t) F.slot_str_getitem.lookup ?_ (by with_unfolding_all rfl)
          exact wpAny_getItem_str_slice (l:=some (i,ti)) (u:=none) (st:=some (2,tk)) ⟨_,Qa _ rfl,rfl,rfl⟩ rfl (show((Made.str (zV7 z i)).post _ _) from⟨Wd (wK hz),fin _ _⟩)
    · cases hf
 | _=>cases hf
end
end L2
namespace L2
open PySem PySem.Spec PyProof.Rows
section
variable {X:Cx}
end
open PySem.W
section
variable {prog:Program} {w:World} {A:Around} {E:Value->Shared->Prop} {h:Heap} {g:Array GenState} {d:Drawn} {t:Nat} {os:OsState} {a C:Addr} {o:Obj} {K:Frag}
theorem zPL {M:Model}{id:String}{rest:List Value}{Q:Unit->Shared->Prop}{n:String}(X:K.In h)(hx:h.get? a=some o)(hc:o.cls = .ref C)(hk:builtinKind id=some .slot)(hsp:splitId id=some ("BaseException",n))(g4:subIn K (.ref C) (.type "BaseException")=some true)
   (ha:argsOk id ⟨.ref a::rest,[]⟩) (hq:Q () ⟨h,g,d,t,os⟩):wpAny M A (checkBuiltinCall id ⟨.ref a::rest,[]⟩) Q E ⟨h,g,d,t,os⟩:=by
 have L4:=looks_subIn (M:=M) X g4
 simp only[checkBuiltinCall,hk,hsp]
 refine Qw ?_
 unfold isInstance
 repeat (first | (with_reducible refine Ws hx ?_;rw[hc]) | with_reducible refine L4.at ?_ | wp_step)
 cases hsig:Manifest.signature? id with
 | none=>exact Qo hq
 | some sig =>
   simp only[argsOk,hsig] at ha
   show wpAny M A (Bind.checkArgs id sig ⟨.ref a::rest,[]⟩) Q E _
   rw[show Bind.checkArgs id sig ⟨.ref a::rest,[]⟩=pure () from ha]
   exact Qo hq
theorem zPz:builtinKind "BaseException.__getattribute__"=some .slot:=by decide +kernel
theorem zQY:splitId "BaseException.__getattribute__"=some ("BaseException","__getattribute__"):=by decide +kernel
end
end L2
namespace L2
open PySem PySem.Spec PySem.W
section
variable {prog:Program} {w:World} {A:Around} {E:Value->Shared->Prop} {h:Heap} {g:Array GenState} {d:Drawn} {t:Nat} {os:OsState} {K:Frag}
variable {nm q:Str} {C N:Addr} {bs bm:List Value} {hdct:Bool} {sn:List Str} {sub:List Value} {ab:Bool} {col:Option Bool} {dd:Option Addr} {k0 k1 k2 k3 k5:Option Value}
theorem zQh {M:Model}{rest:List Value}{Q:Unit->Shared->Prop}(X:K.In h)(hC:h.get? C=some (excClassObj nm q C N bs bm hdct sn sub ab col dd k0 k1 k2 k3 k5 "ValueError.__new__"))(hb:bm.contains (.type "ValueError")=true)
   (hq:Q () ⟨h,g,d,t,os⟩):wpAny M A (checkBuiltinCall "ValueError.__new__" ⟨.ref C::rest,[]⟩) Q E ⟨h,g,d,t,os⟩:=by
 have hcont:(Value.ref C::bm).contains (.type "ValueError")=true:=by rw[Rz,hb,Bool.or_true]
 have hstar:=F.excBase_ValueError.noStar
 simp only[checkBuiltinCall,F.excBase_ValueError.newKind,F.excBase_ValueError.newSplit,F.excBase_ValueError.newRow]
 repeat (first | refine Ws hC ?_ | (refine Ym hC ?_;rw[hcont]) | refine wpAny_staticBase_exc hC ?_ | refine wpAny_madeBy_exc hC ?_ | simp only[bne_self_eq_false,Wg,Ta] | wp_step)
 exact hq
theorem zMl {R:Result->Shared->Prop}{rest:List Value}(hC:h.get? C=some (excClassObj nm q C N bs bm hdct sn sub ab col dd k0 k1 k2 k3 k5 "ValueError.__new__"))(hb:bm.contains (.type "ValueError")=true)(hA:bm.contains (.type "AttributeError")=false)(hN:bm.contains (.type "NameError")=false)
   (hq:R (.ok (.ret (.ref (h.objs.size+1)))) ⟨(h.push { cls:=.type "tuple",data:=.seq rest.toArray }).push { cls:=.ref C,data:=.fields #[.ref h.objs.size,.none,.none,.none,.bool false,.none] },g,d,t,os⟩) (hrest:rest.length<=sizeLine) :
   codeAny (model prog w) A (.builtin "ValueError.__new__" ⟨.ref C::rest,[]⟩) R ⟨h,g,d,t,os⟩:=by
 have hends:=F.excBase_ValueError.ends
 have cB:(Value.ref C::bm).contains (.type "ValueError")=true:=by rw[Rz,hb,Bool.or_true]
 have cA:(Value.ref C::bm).contains (.type "AttributeError")=false:=by rw[Rz,hA];rfl
 have cN:(Value.ref C::bm).contains (.type "NameError")=false:=by rw[Rz,hN];rfl
 refine codeAny_builtinAt F.excBase_ValueError.entry ?_
 unfold Builtin.«BaseException.__new__»
 refine wpAt_bind ?_
 show wpAt _ _ _ (stack >>= _) _ _ _
 refine wpAt_bind (wpAt_stack fun p below=>wpAt_of_wpAny ?_)
 wp_walk
 refine wpAt_of_wpAny ?_
 rw[F.excBase_ValueError.owner]
 repeat (first | with_reducible refine wpAny_madeHere_exc F.excBase_ValueError.canon hC ?_ | with_reducible refine Ws hC ?_ | (with_reducible refine Ym hC ?_;first | rw[cB] | rw[cA] | rw[cN]) | wp_step)
 show R _ _
 rw[Ek]
 exact hq
theorem zW7 {Q:Fin->Shared->Prop}{rest:List Value}{fI:Addr}{oI:Obj}(X:K.In h)(hC:h.get? C=some (excClassObj nm q C N bs bm hdct sn sub ab col dd k0 k1 k2 k3 k5 "ValueError.__new__"))(hb:bm.contains (.type "ValueError")=true)(hA:bm.contains (.type "AttributeError")=false)(hN:bm.contains (.type "NameError")=false)
   (hi:findIn K (.ref C) "__init__"=some (some (.ref fI))) (hfI:h.get? fI=some oI) (hfc:oI.cls = .type "function") (hrest:rest.length<=sizeLine)
   (hq:wpAny (model prog w) A (call (.ref fI) (.ref (h.objs.size+1)::rest)) (fun r s'=>r = .none/\Q (.done (.ret (.ref (h.objs.size+1)))) s') E ⟨(h.push { cls:=.type "tuple",data:=.seq rest.toArray }).push { cls:=.ref C,data:=.fields #[.ref h.objs.size,.none,.none,.none,.bool false,.none] },g,d,t,os⟩) :
   wpAny (model prog w) A (Builtin.«type.__call__» ⟨.ref C::rest,[]⟩) Q E ⟨h,g,d,t,os⟩:=by
 repeat (first | with_reducible refine Ws hC ?_ | with_reducible refine wpAny_madeBy_exc hC ?_ | wp_step)
 refine codeAny_call_builtin_code (Code.quiet_builtin _ F.excBase_ValueError.quiet) (zQh X hC hb ?_)
 refine zMl hC hb hA hN ?_ hrest
 show wpAny _ _ _ _ _ _
 have keep:∀b o,h.get? b=some o->((h.push { cls:=.type "tuple",data:=.seq rest.toArray }).push { cls:=.ref C,data:=.fields #[.ref h.objs.size,.none,.none,.none,.bool false,.none] }).get? b=some o:=fun b o e=>Qe _ (Qe _ e)
 have hC₁:=keep _ _ hC
 have L1:=(looks_findIn (M:=model prog w) X hi).keeps keep
 have hget:((h.push { cls:=.type "tuple",data:=.seq rest.toArray }).push { cls:=.ref C,data:=.fields #[.ref h.objs.size,.none,.none,.none,.bool false,.none] }).get? (h.objs.size+1)=some
     { cls:=.ref C,data:=.fields #[.ref h.objs.size,.none,.none,.none,.bool false,.none] }:=by heap_get
 have hcC:(Value.ref C::bm).contains (.ref C)=true:=by simp
 unfold isInstance
 repeat (first | with_reducible refine Ws hget ?_ | (with_reducible refine Ym hC₁ ?_;rw[hcC]) | wp_step)
 show wpAny _ _ (typeLookup (.ref C) _) _ _ _
 refine L1.at ?_
 refine Rq (Qw ?_)
 unfold bindSpecial
 refine Qw (Og (T:="function") ⟨_,keep _ _ hfI,hfc⟩ ?_)
 rw[Qx (by decide)]
 refine Qo (Qw (Rp hq (fun r s' hr=>?_) fun _ _ x=>x))
 obtain⟨rfl,hQ⟩:=hr
 wp_walk
 exact hQ
theorem zNJ {Q:Value->Shared->Prop}{rest:List Value}{fI:Addr}{oI:Obj}(X:K.In h)(hC:h.get? C=some (excClassObj nm q C N bs bm hdct sn sub ab col dd k0 k1 k2 k3 k5 "ValueError.__new__"))(hb:bm.contains (.type "ValueError")=true)(hA:bm.contains (.type "AttributeError")=false)(hN:bm.contains (.type "NameError")=false)
   (hi:findIn K (.ref C) "__init__"=some (some (.ref fI))) (hfI:h.get? fI=some oI) (hfc:oI.cls = .type "function") (hrest:rest.length<=sizeLine)
   (hq:wpAny (model prog w) (A.under (.builtin "type.__call__" ⟨.ref C::rest,[]⟩)) (call (.ref fI) (.ref (h.objs.size+1)::rest)) (fun r s'=>r = .none/\Q (.ref (h.objs.size+1)) s') E ⟨(h.push { cls:=.type "tuple",data:=.seq rest.toArray }).push { cls:=.ref C,data:=.fields #[.ref h.objs.size,.none,.none,.none,.bool false,.none] },g,d,t,os⟩) :
   wpAny (model prog w) A (call (.ref C) rest) Q E ⟨h,g,d,t,os⟩:=by
 have f1:=tc_lookup
 have f2:=tc_bind (.ref C)
 have hT:(⟨h,g,d,t,os⟩:Shared).TypeIs (.ref C) "type":=⟨_,hC,rfl⟩
 refine Ig (codeAny_of_tree ?_)
 show wpAny _ _ (callAny (.ref C) _) _ _ _
 repeat (any_goals (first | assumption | with_reducible refine Ws hC ?_ | wp_step))
 refine⟨rfl,?_⟩
 exact codeAny_call_builtin_at (Code.quiet_builtin _ (by decide +kernel)) entry_typeCall (wpAny_check_type_call_sub hC (zW7 X hC hb hA hN hi hfI hfc hrest hq))
end
end L2
namespace L2
open PySem PySem.Spec PySem.W
open Builtin Builtin.ObjectAttr
def sM:List Value->Bool
 | []=>false
 | v::r=>(v::r)==[.type "ValueError",.type "Exception",.type "BaseException",.type "object"]||match v with | .ref _=>sM r | _=>false
theorem cE (self:Value):∀l:List Value,sM l=true->refuseLoop self "__setattr__" l=pure ()
 | [],e=>by cases e
 | v::r,e=>by
   unfold sM at e
   rcases Bool.or_eq_true_iff.mp e with q | q
   · rw[Tq.mp q];exact F.store_ValueError.passes self
   · cases v with
     | ref a=>rw[Pu];exact cE self r q
     | _=>cases q
section
variable {prog:Program} {w:World} {A:Around} {E:Value->Shared->Prop} {h:Heap} {g:Array GenState} {d:Drawn} {t:Nat} {os:OsState} {K:Frag}
variable {nm q:Str} {C N x:Addr} {bs bm:List Value} {sn:List Str} {sub:List Value} {ab:Bool} {col:Option Bool} {dd:Option Addr} {k0 k1 k2 k3 k5:Option Value} {newId:String} {name:Str} {v:Value} {o:Obj}
theorem zPT {M:Model}{id owner n:String}{rest:List Value}{Q:Unit->Shared->Prop}(X:K.In h)(hx:h.get? x=some o)(hc:o.cls = .ref C)(hk:builtinKind id=some .slot)(hsp:splitId id=some (owner,n))(g4:subIn K (.ref C) (.type owner)=some true)
   (ha:argsOk id ⟨.ref x::rest,[]⟩) (hq:Q () ⟨h,g,d,t,os⟩):wpAny M A (checkBuiltinCall id ⟨.ref x::rest,[]⟩) Q E ⟨h,g,d,t,os⟩:=by
 have L4:=looks_subIn (M:=M) X g4
 simp only[checkBuiltinCall,hk,hsp]
 refine Qw ?_
 unfold isInstance
 repeat (first | (with_reducible refine Ws hx ?_;rw[hc]) | with_reducible refine L4.at ?_ | wp_step)
 cases hsig:Manifest.signature? id with
 | none=>exact Qo hq
 | some sig =>
   simp only[argsOk,hsig] at ha
   show wpAny M A (Bind.checkArgs id sig ⟨.ref x::rest,[]⟩) Q E _
   rw[show Bind.checkArgs id sig ⟨.ref x::rest,[]⟩=pure () from ha]
   exact Qo hq
theorem zPs {tk:Tok}{Q:Fin->Shared->Prop}(X:K.In h)(hC:h.get? C=some (excClassObj nm q C N bs bm true sn sub ab col dd k0 k1 k2 k3 k5 newId))(hp:sM bm=true)(hna:findIn K (.ref C) name=some none)
   (hx:h.get? x=some o) (hc:o.cls = .ref C) (hnc:∀c,o.data ≠ .cls c) (hdn:o.dict=none)
   (hq:∀h' tk',h'.get? x=some { cls:=o.cls,dict:=some h.objs.size,data:=o.data,slots:=o.slots }->h'.Ns1 h.objs.size (fun y=>if y=name then some v else none)->(∀b u,b≠x->h.get? b=some u->h'.get? b=some u)->Q (.done (.ret .none)) ⟨h',g,d,tk',os⟩) :
   wpAny (model prog w) A (Builtin.«object.__setattr__» ⟨[.ref x,.str name tk,v],[]⟩) Q E ⟨h,g,d,t,os⟩:=by
 have hpass:=cE (.ref x) bm hp
 have L1:=looks_findIn (M:=model prog w) X hna
 unfold Builtin.«object.__setattr__»
 repeat (first | rw[refuse_eq] | (rw[Pu,hpass]) | (with_reducible refine Ws hx ?_;rw[hc]) | with_reducible refine wpAny_mroOf_exc hC ?_ | with_reducible refine L1.at ?_ | wp_step)
 rw[hdn,Wy (by simp[typeHasDict])]
 split
 · rename_i hcd
   cases hcd
 split
 · rename_i c hcd
   exact absurd hcd (hnc c)
 · have hx₁:(h.push { cls:=.type "dict",data:=.dict #[] }).get? x=some o:=Qe _ hx
   have hxs:x≠h.objs.size:=We (Qy hx)
   refine Qw (wpAny_alloc' (Qw (wpAny_update' hx₁ (Qo ?_))))
   have hgd:((h.push { cls:=.type "dict",data:=.dict #[] }).update x fun o=>{ cls:=o.cls,dict:=some h.objs.size,data:=o.data,slots:=o.slots }).get? h.objs.size=some { cls:=.type "dict",data:=.dict #[] } :=
     (Heap.get?_update_ne _ _ _ _ hxs.symm).trans (Heap.get?_push_at rfl rfl)
   have hnd:((h.push { cls:=.type "dict",data:=.dict #[] }).update x fun o=>{ cls:=o.cls,dict:=some h.objs.size,data:=o.data,slots:=o.slots }).Ns h.objs.size (fun _=>none) :=
     ⟨_,#[],_,hgd,rfl,fun e he=>absurd he (by simp),fun _=>rfl⟩
   show wpAny _ _ (storeInDict h.objs.size (.str name tk) name v) _ _ _
   unfold storeInDict newKeyGuard
   refine Qw (Qo (Qw (wpAny_nsSet1 (Heap.Ns1.of_empty hnd) fun h' hn' hs=>?_)))
   obtain⟨oD,esD,epD,hoD,hdD,hcD⟩:=hn'.count (Within.cons name v Within.nil)
   refine Qw (Oh hoD (by rw[hdD];exact Oj (Wi hcD (by rw[Qi,Re,Uf];omega))) ?_)
   wp_walk
   refine hq h' _ ?_ hn' fun b u hbx hb=>(hs.2 b (We (Qy hb))).trans ((Heap.get?_update_ne _ _ _ _ hbx).trans (Qe _ hb))
   refine(hs.2 x hxs).trans (Wf _ hx₁ ?_)
   have hfr:=(Ui.mp hx).2
   obtain⟨oc,od,odt,osl⟩:=o
   cases odt<;>first | rfl | exact hfr
theorem zNx {tk:Tok}{Q:Fin->Shared->Prop}{dx:Addr}{mA:Str->Option Value}{ns:List Str}(X:K.In h)(hC:h.get? C=some (excClassObj nm q C N bs bm true sn sub ab col dd k0 k1 k2 k3 k5 newId))(hp:sM bm=true)(hna:findIn K (.ref C) name=some none)
   (hx:h.get? x=some o) (hc:o.cls = .ref C) (hdx:o.dict=some dx) (hne:dx≠x) (hns:h.Ns1 dx mA) (hw:Within mA ns) (hsz:ns.length<=1000)
   (hq:∀h' tk',h'.Ns1 dx (fun y=>if y=name then some v else mA y)->(∀b u,b≠dx->h.get? b=some u->h'.get? b=some u)->Q (.done (.ret .none)) ⟨h',g,d,tk',os⟩) :
   wpAny (model prog w) A (Builtin.«object.__setattr__» ⟨[.ref x,.str name tk,v],[]⟩) Q E ⟨h,g,d,t,os⟩:=by
 have hpass:=cE (.ref x) bm hp
 have L1:=looks_findIn (M:=model prog w) X hna
 have hsl:1001<=sizeLine:=Wd (wK (by decide))
 unfold Builtin.«object.__setattr__»
 repeat (first | rw[refuse_eq] | (rw[Pu,hpass]) | (with_reducible refine Ws hx ?_;rw[hc]) | with_reducible refine wpAny_mroOf_exc hC ?_ | with_reducible refine L1.at ?_ | wp_step)
 rw[hdx]
 refine Qo ?_
 show wpAny _ _ (storeInDict dx (.str name tk) name v) _ _ _
 unfold storeInDict newKeyGuard
 refine Qw (Qo (Qw (wpAny_nsSet1 hns fun h' hn' hs=>?_)))
 obtain⟨oD,esD,epD,hoD,hdD,hcD⟩:=hn'.count (Within.cons name v hw)
 refine Qw (Oh hoD (by rw[hdD];exact Oj (Wi hcD (by rw[Qi];omega))) ?_)
 wp_walk
 exact hq h' _ hn' fun b u hb e=>(hs.2 b hb).trans e
theorem zS8 {Q:Unit->Shared->Prop}(X:K.In h)(hx:h.get? x=some o)(hc:o.cls = .ref C)(g1:findIn K (.ref C) "__setattr__"=some (some (.builtin "object.__setattr__")))(g3:subIn K (.ref C) (.type "object")=some true)
   (hq:∀A':Around,wpAny (model prog w) A' (Builtin.«object.__setattr__» ⟨[.ref x,.str name t,v],[]⟩) (fun fin s'=>∃h' tk',fin = .done (.ret .none)/\s'=⟨h',g,d,tk',os⟩/\Q () ⟨h',g,d,tk',os⟩) (fun _ _=>False) ⟨h,g,d,t+1,os⟩) :
   wpAny (model prog w) A (setAttr (.ref x) name v) Q E ⟨h,g,d,t,os⟩:=by
 have L1:=looks_findIn (M:=model prog w) X g1
 have f3:=F.store_ValueError.slot.bind (.ref x)
 have ha:=F.store_ValueError.args (.ref x) (.str name t) v
 unfold setAttr callSpecial? specialOf
 repeat (any_goals (first | assumption | (with_reducible refine Ws hx ?_;rw[hc]) | with_reducible refine L1.at ?_ | wp_step))
 refine Ix F.store_ValueError.slot.plain F.store_ValueError.entry ?_
 refine zPT (id:="object.__setattr__") (owner:="object") (rest:=[.str name t,v]) X hx hc F.store_ValueError.kind F.store_ValueError.split g3 ha ?_
 refine Rp (hq _) (fun fin s' z=>?_) fun _ _ z=>z.elim
 obtain⟨h',tk',rfl,rfl,z⟩:=z
 exact Qo (Qo z)
end
section
variable {prog:Program} {w:World} {A:Around} {E:Value->Shared->Prop} {h:Heap} {g:Array GenState} {d:Drawn} {t:Nat} {os:OsState} {K:Frag} {a C dx:Addr} {o:Obj} {name:Str} {v:Value} {mA:Str->Option Value}
variable {nm q:Str} {N:Addr} {bs bm:List Value} {sn:List Str} {sub:List Value} {ab:Bool} {col:Option Bool} {dd:Option Addr} {k0 k1 k2 k3 k5:Option Value} {newId:String}
theorem zP6 {tk:Tok}{Q:Fin->Shared->Prop}(X:K.In h)(hC:h.get? C=some (excClassObj nm q C N bs bm true sn sub ab col dd k0 k1 k2 k3 k5 newId))(hx:h.get? a=some o)(hc:o.cls = .ref C)(hnc:∀c,o.data ≠ .cls c)(hna:findIn K (.ref C) name=some none)(hdx:o.dict=some dx)(hns:h.Ns1 dx mA)(hv:mA name=some v)(hq:Q (.done (.ret v)) ⟨h,g,d,t,os⟩) :
   wpAny (model prog w) A (Builtin.«object.__getattribute__» ⟨[.ref a,.str name tk],[]⟩) Q E ⟨h,g,d,t,os⟩:=by
 have L2:=looks_findIn (M:=model prog w) X hna
 have hn:=hns.ns
 unfold Builtin.«object.__getattribute__»
 repeat (first | (with_reducible refine Ws hx ?_;rw[hc]) | with_reducible refine L2.at ?_ | wp_step)
 split
 · rename_i c hcd
   exact absurd hcd (hnc c)
 unfold instanceDict
 repeat (first | (with_reducible refine Ws hx ?_;rw[hc]) | with_reducible refine Ws hC ?_ | wp_step)
 rw[hdx]
 repeat (first | (with_reducible refine wpAny_nsGet hn ?_;rw[hv]) | wp_step)
 exact hq
theorem zNE {tk:Tok}{R:Result->Shared->Prop}(X:K.In h)(hC:h.get? C=some (excClassObj nm q C N bs bm true sn sub ab col dd k0 k1 k2 k3 k5 newId))(hx:h.get? a=some o)(hc:o.cls = .ref C)(hnc:∀c,o.data ≠ .cls c)(hna:findIn K (.ref C) name=some none)(g4:subIn K (.ref C) (.type "BaseException")=some true)(hdx:o.dict=some dx)(hns:h.Ns1 dx mA)(hv:mA name=some v)
   (hq:R (.ok (.ret v)) ⟨h,g,d,t,os⟩):codeAny (model prog w) A (.call (.builtin "BaseException.__getattribute__") ⟨[.ref a,.str name tk],[]⟩) R ⟨h,g,d,t,os⟩:=by
 have ha:=F.args_bexc_ga (.ref a) (.str name tk)
 refine Ix F.excAttr_ValueError.ga.plain F.entry_bexc_ga ?_
 refine zPL (id:="BaseException.__getattribute__") (rest:=[.str name tk]) X hx hc zPz zQY g4 ha ?_
 exact zP6 X hC hx hc hnc hna hdx hns hv hq
theorem zNf {Q:Value->Shared->Prop}{b:Bool}(X:K.In h)(hC:h.get? C=some (excClassObj nm q C N bs bm true sn sub ab col dd k0 k1 k2 k3 k5 newId))(hx:h.get? a=some o)(hc:o.cls = .ref C)(hnc:∀c,o.data ≠ .cls c)(g1:findIn K (.ref C) "__getattribute__"=some (some (.builtin "BaseException.__getattribute__")))(g5:findIn K (.ref C) "__getattr__"=some none)
   (hna:findIn K (.ref C) name=some none) (g4:subIn K (.ref C) (.type "BaseException")=some true) (hdx:o.dict=some dx) (hns:h.Ns1 dx mA) (hv:mA name=some v) (hh:handedOut v=pure v)
   (hq:Q v ⟨h,g,d,t+1,os⟩):wpAny (model prog w) A (getAttr (.ref a) name b) Q E ⟨h,g,d,t,os⟩:=by
 have L1:=looks_findIn (M:=model prog w) X g1
 have L5:=looks_findIn (M:=model prog w) X g5
 have f3:=F.excAttr_ValueError.ga.bind (.ref a)
 have hx0:(b&&onTheHeap (Value.builtin "BaseException.__getattribute__"))=false:=by cases b<;>rfl
 unfold getAttr getAttrBy
 repeat (any_goals (first | assumption | (with_reducible refine Ws hx ?_;rw[hc]) | with_reducible refine L1.at ?_ | with_reducible refine L5.at ?_ | wp_step))
 refine zNE X hC hx hc hnc hna g4 hdx hns hv ?_
 repeat (any_goals (first | assumption | wp_step))
end
end L2
namespace L2
open PySem PySem.Spec PyProof.Rows
structure XKit (K:PySem.W.Frag)(C:Addr):Prop where
 cl:(PySem.W.clsIn K C).isSome=true
 ga:PySem.W.findIn K (.ref C) "__getattribute__"=some (some (.builtin "BaseException.__getattribute__"))
 gt:PySem.W.findIn K (.ref C) "__getattr__"=some none
 gc:PySem.W.findIn K (.ref C) "__class__"=some (some (.builtin "object.__class__"))
 so:PySem.W.subIn K (.ref C) (.type "object")=some true
 sb:PySem.W.subIn K (.ref C) (.type "BaseException")=some true
def zTC (K:PySem.W.Frag)(C:Addr):Prop:=∃nm q N bs bm sn sub ab col dd k0 k1 k2 k3 k5,K.lookup C=some (excClassObj nm q C N bs bm true sn sub ab col dd k0 k1 k2 k3 k5 "ValueError.__new__")/\sM bm=true
theorem sV (v:Value)(hv:∀a,v ≠ .ref a):∀ {l:List Value},sM l=true->l.contains v=[Value.type "ValueError",.type "Exception",.type "BaseException",.type "object"].contains v
 | [],e=>by cases e
 | u::r,e=>by
   unfold sM at e
   rcases Bool.or_eq_true_iff.mp e with q | q
   · rw[Tq.mp q]
   · cases u with
     | ref a =>
       rw[Rz,sV v hv q,Ei.mpr (hv a),Bool.false_or]
     | _=>cases q
def zTJ (K:PySem.W.Frag)(C:Addr):Bool:=PySem.W.isClsIn K C&&(PySem.W.findIn K (.ref C) "__getattribute__"==some (some (.builtin "BaseException.__getattribute__")))&&(PySem.W.findIn K (.ref C) "__getattr__"==some none) &&
 (PySem.W.findIn K (.ref C) "__class__"==some (some (.builtin "object.__class__")))&&(PySem.W.subIn K (.ref C) (.type "object")==some true)&&(PySem.W.subIn K (.ref C) (.type "BaseException")==some true)
theorem zSO {K:PySem.W.Frag}{C:Addr}(h:zTJ K C=true):XKit K C:=by
 unfold zTJ at h
 simp only[Qn,Tq] at h
 obtain⟨⟨⟨⟨⟨h1,h2⟩,h3⟩,h4⟩,h5⟩,h6⟩:=h
 exact⟨h1,h2,h3,h4,h5,h6⟩
def zTP (K:PySem.W.Frag)(C:Addr):Bool:=match K.lookup C with
 | some ⟨.type "type",_,.cls cd,sl⟩=>(match cd.mro,sl.toList with
   | .ref C'::bm,[_,_,_,_,some (.builtin n),_]=>C'==C&&n=="ValueError.__new__" && !cd.hasDel&&cd.hasDict&&sM bm
   | _,_=>false)
 | _=>false
theorem zTm {K:PySem.W.Frag}{C:Addr}(q:zTP K C=true):zTC K C:=by
 unfold zTP at q
 split at q
 · rename_i dd cd sl ho
   split at q
   · rename_i C' bm k0 k1 k2 k3 n k5 hm hs
     simp only[Qn,Tq,Bool.not_eq_true'] at q
     obtain⟨⟨⟨⟨rfl,rfl⟩,hdel⟩,hdt⟩,ht⟩:=q
     obtain⟨nm,bs,mro,ns,qn,hd,sn,sub,ab,col,del⟩:=cd
     dsimp only at hm hdel hdt
     subst hm hdel hdt
     have hsl:sl=#[k0,k1,k2,k3,some (.builtin "ValueError.__new__"),k5]:=by
       obtain⟨l⟩:=sl
       simp only at hs
       rw[hs]
     subst hsl
     exact⟨nm,qn,ns,bs,bm,sn,sub,ab,col,dd,k0,k1,k2,k3,k5,ho,ht⟩
   · cases q
 · cases q
section
variable {X:Cx} {a b c e tg elt iter:Expr} {es ifs:List Expr} {fa fb fc:Ef} {ga gb gi:Lf} {ta tc:Tf} {pos p:Pos} {st:Stmt}
def XfOk (K:PySem.W.Frag)(f:Str):List Str->Prop
 | []=>True
 | c::r=>(∃C,ClsAt K c C/\XKit K C/\zTC K C/\NoAttr K C f)/\XfOk K f r
theorem XfOk.at {K:PySem.W.Frag}{f:Str}:∀ {cs:List Str} {c:Str},XfOk K f cs->c∈cs->∃C,ClsAt K c C/\XKit K C/\zTC K C/\NoAttr K C f
 | [],_,_,h=>by cases h
 | n::r,c,⟨h1,h2⟩,h=>by
   rcases Qz.mp h with e | e
   · subst e;exact h1
   · exact h2.at e
theorem zKU {pins:List (Addr×Obj)}{σ:St}{H:Hp}{s:Shared}{a C:Addr}{od:Option Addr}{fs:List (Str×V)}{f:Str}{v:V}{A:Around}{E:Value->Shared->Prop}{Q:Value->Shared->Prop}{b:Bool}(I:Inv X pins σ H s)(e:H a=some (.ext (Xe C a od)))(xd:XD H od fs)
   (k:XKit X.K C) (o:zTC X.K C) (n:NoAttr X.K C f) (l:fs.lookup f=some v) (h:∀u s',Inv X pins σ H s'->RelV v u->Q u s'):wpAny (model X.prog X.w) A (getAttr (.ref a) f b) Q E s:=by
 cases od with
 | none =>
   have z:fs=[]:=xd
   subst z
   cases l
 | some dx =>
   obtain⟨⟨g,h2⟩,_⟩:=(show ObjOk X.prog X.w H s.heap a (.ext _) from I.hok a _ e)
   obtain⟨⟨mA,h3,r⟩,_⟩:=(show ObjOk X.prog X.w H s.heap dx (.ext _) from I.hok dx _ xd)
   obtain⟨u,hu,ru⟩:=RelO.some_of (v:=v) (o:=mA f) (by rw[←l];exact r f)
   obtain⟨nm,q,N,bs,bm,sn,sub,ab,col,dd,k0,k1,k2,k3,k5,hk,hr⟩:=o
   obtain⟨hh,g',d',t',os'⟩:=s
   exact zNf I.kIn (I.kIn _ _ hk) h2 rfl (fun c z=>nomatch z) k.ga k.gt n k.sb rfl h3 hu (PySem.W.handedOut_of (zX8 ru)) (h u _ (I.tok _) ru)
def tXF (K:PySem.W.Frag)(ta:TE)(f:Str):TE:=fun σ H Q=>ta σ H fun x H1=>∃a C od fs v,x = .ref a/\H1 a=some (.ext (Xe C a od))/\XD H1 od fs/\XKit K C/\zTC K C/\NoAttr K C f/\fs.lookup f=some v/\Q v H1
theorem zNi {f:Str}{ta:TE}(he:PE X e ta)(hb:attributeBase e f X.env (eval e X.env)=eval e X.env):PE X (.Attribute e f pos) (tXF X.K ta f):=by
 intro pins s σ H Q I h
 refine zSW hb (thn (he pins s σ H _ I h) fun u s1 ⟨x,H1,I1,rx,a,C,od,fs,v,ex,ea,xd,k,o,n,l,q⟩=>?_)
 subst ex
 obtain rfl:u=Value.ref a:=rx
 exact zKU I1 ea xd k o n l fun u' s2 I2 ru=>⟨v,H1,I2,ru,q⟩
def wQ (cs:List Str)(f:Str)(fa:Ef):Ef:=fun ρ=>(fa ρ).bind fun d=>match d with | .exc c ns ds=>if cs.contains c then(ns.zip ds).lookup f else none | _=>none
theorem oE {cs:List Str}{f:Str}(hok:XfOk X.K f cs)(ha:PF X a fa)(hb:attributeBase a f X.env (eval a X.env)=eval a X.env:=by rfl):PF X (.Attribute a f pos) (wQ cs f fa):=by
 refine PE.to (zNi ha hb) ?_
 rintro σ H Q ⟨G0,H0,G,ρ,d,good,hf,k⟩
 unfold wQ at hf
 obtain⟨x,h1,hf2⟩:=Qq.mp hf
 cases x with
 | exc c ns ds =>
   dsimp only at hf2
   split at hf2
   · rename_i hc
     obtain⟨C,hC,kit,ob,na⟩:=hok.at (Iw.mp hc)
     refine⟨G0,H0,G,ρ,_,good,h1,fun v H1 G1 s1 r1=>?_⟩
     obtain⟨C',q,od,vs,e0,rfl,e1,e2,e3,e4⟩:=iY.mp r1
     have ec:=hC.one e0
     subst ec
     obtain⟨u,e5,e6⟩:=fY e3 e4 hf2
     exact⟨q,_,od,ns.zip vs,u,rfl,s1.sub _ _ e1,e2.mono s1.sub,kit,ob,na,e5,k _ _ G1 s1 e6⟩
   · cases hf2
 | _=>cases hf2
theorem Xd.mono {dx:Addr}{fs:List (Str×V)}(h1 h2:Heap)(x:Xd dx fs h1)(k:∀o,h1.get? dx=some o->h2.get? dx=some o):Xd dx fs h2:=by
 obtain⟨mA,n,r⟩:=x
 exact⟨mA,n.at k,r⟩
theorem Xe.mono {C a:Addr}{od:Option Addr}(h1 h2:Heap)(x:Xe C a od h1)(k:∀o,h1.get? a=some o->h2.get? a=some o):Xe C a od h2:=by
 obtain⟨f,e⟩:=x
 exact⟨f,k _ e⟩
theorem zZH {f:Str}:∀ {fs:List (Str×V)},fs.lookup f≠none->f∈fs.map (·.1)
 | [],h=>absurd rfl h
 | (n,v)::r,h=>by
   rw[Er] at h
   cases hq:f==n with
   | true=>rw[Tq.mp hq];exact Qh
   | false=>rw[hq] at h;exact Qd _ (zZH h)
structure XSt (K:PySem.W.Frag)(C:Addr):Prop where
 kit:XKit K C
 ob:zTC K C
 sa:PySem.W.findIn K (.ref C) "__setattr__"=some (some (.builtin "object.__setattr__"))
def XW (H G H0:Hp)(p:Addr):Option Addr->List (Str×V)->Prop
 | none,fs=>fs=[]
 | some dx,fs=>H dx=some (.ext (Xd dx fs))/\G dx=none/\H0 dx=none/\dx≠p
end
section
variable {P:Program} {w:World} {K:PySem.W.Frag} {mg:Str->Option Value} {base:Heap} {x qual:Str} {st:Stmt} {f C:Addr} {fd:FuncData} {N ps ns:List Str} {k:Nat} {sf:Str}
end
structure XMk (K:PySem.W.Frag)(C f:Addr):Prop where
 ob:zTC K C
 init:PySem.W.findIn K (.ref C) "__init__"=some (some (.ref f))
 fn:PySem.W.isFn K (.ref f)=true
 kp:PySem.W.keepIn K (.ref C)=true
section
variable {X:Cx} {a b c e tg elt iter:Expr} {es ifs:List Expr} {fa fb fc:Ef} {ga gb gi:Lf} {ta tc:Tf} {pos p:Pos} {st:Stmt}
theorem zQi {K:PySem.W.Frag}{h:Heap}{f:Addr}(X:K.In h)(e:PySem.W.isFn K (.ref f)=true):∃o,h.get? f=some o/\o.cls = .type "function":=by
 unfold PySem.W.isFn PySem.W.typeIn at e
 obtain⟨o,ho,hc⟩:=Qu.mp (Tq.mp e)
 exact⟨o,X _ _ ho,hc⟩
def zTE (c:Str)(ns:List Str)(n:Nat)(f:List D->Option (List D))(g:Lf):Ef:=fun ρ=>(g ρ).bind fun ds=>if ds.length=n/\n<=1000 then(f ds).bind fun xs=>if ns.length=xs.length then some (.exc c ns xs) else none else none
end
section
variable {X:Cx} {pos p:Pos}
end
def zW3 (h:Heap)(e:Addr)(v:Value):Prop:=v = .none∨∃T oT ts,v = .ref T/\T≠e/\h.get? T=some oT/\oT.data = .fields ts/\ts[3]?=some .none
structure Flew (fs:List Addr)(e:Addr)(c:Value)(od:Option Addr)(vs:Array Value)(sl:Array (Option Value))(h h':Heap):Prop where
 obj:h'.get? e=some { cls:=c,dict:=od,data:=.fields (vs.setIfInBounds 1 (.ref h.objs.size)),slots:=sl }
 ne:h.objs.size≠e
 head:∃oT ts,h'.get? h.objs.size=some oT/\oT.data = .fields ts/\ts[3]?=some .none
 keep:∀b o,h.get? b=some o->b≠e->b∉fs->some (Value.ref b)≠vs[1]?->h'.get? b=some o
 slot:∀b o,h.get? b=some o->b≠e->b∈fs->some (Value.ref b)≠vs[1]?->∃z,h'.get? b=some { o with slots:=z }
section
variable {M:Model} {A:Around} {E:Value->Shared->Prop} {s:Shared}
theorem iO {a:Addr}{c x:Value}{od:Option Addr}{vs:Array Value}{sl:Array (Option Value)}{k:Nat}{Q:Unit->Shared->Prop}(ho:s.heap.get? a=some { cls:=c,dict:=od,data:=.fields vs,slots:=sl })(hk:k < vs.size)
   (h:∀h',h'.get? a=some { cls:=c,dict:=od,data:=.fields (vs.setIfInBounds k x),slots:=sl }->Heap.SameBut a s.heap h'->Q () { s with heap:=h' }):wpAny M A (setField (.ref a) k x) Q E s :=
 Pr ho rfl hk (h _ (Wf _ ho rfl) (Yb ..))
theorem zXq {base:Heap}{env:Env}{outer:List Env}{L e:Addr}{c:Value}{od:Option Addr}{vs:Array Value}{sl:Array (Option Value)}{hd:Value}{nx:Bool}{Q:Unit->Shared->Prop}
   (hfr:A.frames=some (env::outer)) (hl:s.heap.FunFrames base (env::outer)) (hf:env.frame=some L)
   (he:s.heap.get? e=some { cls:=c,dict:=od,data:=.fields vs,slots:=sl }) (hsz:1 < vs.size)
   (h:∀h',(h'.get? e=some { cls:=c,dict:=od,data:=.fields (vs.setIfInBounds 1 (.ref s.heap.objs.size)),slots:=sl }/\s.heap.objs.size≠e/\∃oT ts,h'.get? s.heap.objs.size=some oT/\oT.data = .fields ts/\ts[3]?=some .none) ->
     (∀b o,s.heap.get? b=some o->b≠e->b∉frs (env::outer)->h'.get? b=some o)->(∀b o,s.heap.get? b=some o->b≠e->b∈frs (env::outer)->∃z,h'.get? b=some { o with slots:=z })->Q () { s with heap:=h' }) :
   wpAny M A (do let a ←frameOf env;let pl ←entryPlaceOf L nx;let b ←EntryCells.newEntry hd a .none (rawInt L) .none pl;setField (.ref e) 1 b) (fun _ s'=>wpAny M A (setFlight (.ref e) none) Q E s') E s:=by
 have ne:e∉frs (env::outer):=fun z=>by
   obtain⟨_,o,q,n⟩:=hl.mem z
   rw[he] at q
   cases q
   exact n vs rfl
 refine Qw (wpAny_frameOf_fun hfr hl hf fun g1 k1=>Qw (wpAny_entryPlaceOf fun pl hp=>?_))
 unfold EntryCells.newEntry newFields
 refine Qw (Em ?_ (hp.sizeOk5 _ _ _ _ _))
 have e1:g1.get? e=some { cls:=c,dict:=od,data:=.fields vs,slots:=sl }:=(k1.2.1 e ne).trans he
 have ln:g1.objs.size≠e:=fun z=>Ww _ (z ▸ Qy e1)
 have hsz3:3 < ([hd,.ref L,.none,rawInt L,.none]++(if pl.isEmpty then List.replicate 6 Value.none else pl)).toArray.size:=by
   rw[Qs,Qb];show 3 < 5+_;omega
 generalize hts:([hd,.ref L,.none,rawInt L,.none]++(if pl.isEmpty then List.replicate 6 Value.none else pl)).toArray=ts at hsz3
 have e2:(g1.push { cls:=.type "traceback",data:=.fields ts }).get? e=some { cls:=c,dict:=od,data:=.fields vs,slots:=sl }:=Qe _ e1
 have t2:(g1.push { cls:=.type "traceback",data:=.fields ts }).get? g1.objs.size=some { cls:=.type "traceback",dict:=none,data:=.fields ts,slots:=#[] }:=Qa _ rfl
 refine iO e2 hsz fun g3 e3 k3=>?_
 have t3:g3.get? g1.objs.size=some { cls:=.type "traceback",dict:=none,data:=.fields ts,slots:=#[] }:=k3.extBut _ _ ln t2
 unfold setFlight
 refine Qw (Wb e3 rfl (x:=.ref g1.objs.size) (by simp[hsz]) ?_)
 rw[Qx (by simp)]
 refine iO t3 hsz3 fun g4 t4 k4=>h g4 (by rw[←k1.1];exact⟨k4.extBut _ _ (fun z=>ln z.symm) e3,ln,_,_,t4,rfl,by simp[hsz3]⟩) (fun b o q n1 n2=>?_) fun b o q n1 n2=>?_
 · have q1:g1.get? b=some o:=(k1.2.1 b n2).trans q
   exact k4.extBut _ _ (We (Qy q1)) (k3.extBut _ _ n1 (Qe _ q1))
 · obtain⟨w,q1⟩:=k1.2.2 b o q
   exact⟨w,k4.extBut _ _ (We (Qy q1)) (k3.extBut _ _ n1 (Qe _ q1))⟩
theorem zY6 {base:Heap}{env:Env}{outer:List Env}{L e:Addr}{c v:Value}{od:Option Addr}{vs:Array Value}{sl:Array (Option Value)}{Q:Unit->Shared->Prop}
   (hfr:A.frames=some (env::outer)) (hl:s.heap.FunFrames base (env::outer)) (hf:env.frame=some L)
   (he:s.heap.get? e=some { cls:=c,dict:=od,data:=.fields vs,slots:=sl }) (hv:vs[1]?=some v) (hh:zW3 s.heap e v)
   (h:∀h',Flew (frs (env::outer)) e c od vs sl s.heap h'->Q () { s with heap:=h' }):wpAny M A (noteFrame (.ref e) env) (fun _ s'=>wpAny M A (setFlight (.ref e) none) Q E s') E s:=by
 have hsz:1 < vs.size:=(Rf.mp hv).1
 unfold noteFrame
 simp only[hf]
 refine Qw (Wb he rfl hv ?_)
 rcases hh with rfl | ⟨T,oT,ts,rfl,ne,hT,hdT,h3⟩
 · rw[Wy (by decide)]
   exact zXq hfr hl hf he hsz fun h' a1 a2 a3=>h h' ⟨a1.1,a1.2.1,a1.2.2,fun b o q n1 n2 _=>a2 b o q n1 n2,fun b o q n1 n2 _=>a3 b o q n1 n2⟩
 · rw[Qx (by simp)]
   refine Qw (Wb hT hdT h3 ?_)
   rw[Wy (show ¬((Value.none==rawInt L)=true) by simp[rawInt])]
   obtain⟨cT,dT,daT,slT⟩:=oT
   dsimp only at hdT
   subst hdT
   refine Qw (iO hT (Rf.mp h3).1 fun g1 t1 k1=>?_)
   have up:∀b o,b≠T->s.heap.get? b=some o->g1.get? b=some o:=fun b o z q=>k1.extBut _ _ z q
   have nT:∀b o,s.heap.get? b=some o->(∀vs,o.data ≠ .fields vs)->b≠T:=fun b o q n z=>by
     rw[z,hT] at q
     cases q
     exact n ts rfl
   refine zXq hfr (hl.of_keeps fun b o q n=>⟨o,up b o (nT b o q n) q,rfl⟩) hf (up _ _ (fun z=>ne z.symm) he) hsz fun h' a1 a2 a3=>?_
   have es:g1.objs.size=s.heap.objs.size:=k1.1
   dsimp only at a1
   rw[es] at a1
   exact h h' ⟨a1.1,a1.2.1,a1.2.2,fun b o q n1 n2 n3=>a2 b o (up b o (fun z=>n3 (by rw[hv,z])) q) n1 n2,fun b o q n1 n2 n3=>a3 b o (up b o (fun z=>n3 (by rw[hv,z])) q) n1 n2⟩
theorem zVy {base:Heap}{env:Env}{outer:List Env}{L e:Addr}{c v:Value}{od:Option Addr}{vs:Array Value}{sl:Array (Option Value)}{Q:Unit->Shared->Prop}
   (hfr:A.frames=some (env::outer)) (hl:s.heap.FunFrames base (env::outer)) (hf:env.frame=some L)
   (he:s.heap.get? e=some { cls:=c,dict:=od,data:=.fields vs,slots:=sl }) (hv:vs[1]?=some v) (hh:zW3 s.heap e v)
   (h:∀h',Flew (frs (env::outer)) e c od vs sl s.heap h'->Q () { s with heap:=h' }):wpAny M A (leaving env (.ref e)) Q E s:=Qw (zY6 hfr hl hf he hv hh h)
theorem zU8 {a T:Addr}{o oT:Obj}{vs ts:Array Value}{Q:Unit->Shared->Prop}(ho:s.heap.get? a=some o)(hd:o.data = .fields vs)(hv:vs[1]?=some (.ref T))(hT:s.heap.get? T=some oT)(hdT:oT.data = .fields ts)(h3:ts[3]?=some .none)
   (h:∀h',(∀b u,s.heap.get? b=some u->h'.get? b=some u)->Q () { s with heap:=h' }):wpAny M A (setFlight (.ref a) none) Q E s:=by
 unfold setFlight
 refine Qw (Wb ho hd hv ?_)
 rw[Qx (by simp)]
 obtain⟨cT,dT,daT,slT⟩:=oT
 dsimp only at hdT
 subst hdT
 refine iO hT (Rf.mp h3).1 fun g q1 q2=>h g fun b u q=>?_
 by_cases hb:b=T
 · subst hb
   rw[hT] at q
   cases q
   rw[q1]
   have:ts.setIfInBounds 3 ((none:Option Addr).elim Value.none fun f=>rawInt f)=ts:=by
     apply Array.ext_getElem?
     intro k
     rw[Array.getElem?_setIfInBounds]
     split
     · rename_i z
       subst z
       split
       · exact h3.symm
       · rename_i z;rw[Array.getElem?_eq_none (by omega)]
     · rfl
   rw[this]
 · exact q2.extBut _ _ hb q
end
structure Fly (h:Heap)(H:Hp)(h0:Heap)(C a:Addr):Prop where
 ob:∃vs v,h.get? a=some { cls:=.ref C,dict:=none,data:=.fields vs,slots:=#[] }/\vs[1]?=some v/\zW3 h a v/\∀T,v = .ref T->H T=none/\h0.get? T=none
 free:H a=none
 new:h0.get? a=none
section
variable {P:Program} {w:World} {K:PySem.W.Frag} {mg:Str->Option Value} {base:Heap} {N:List Str} {qual:Str} {scope:Scope} {f:Addr} {cd:Value} {A:Around} {outer:List Env} {s₀ s:Shared} {H₀ H:Hp} {E:XK} {pins:List (Addr×Obj)} {σ:St} {C a:Addr}
end
section
variable {X:Cx} {E:XK} {C:Addr} {c:Str} {p cpos pos:Pos} {e:Expr} {es:List Expr} {t:TA}
end
theorem zZI {α:Type}(p:α->Bool):∀(l:List α) (i:Nat),(∀x,l[i]?=some x->p x=false)->(l.eraseIdx i).find? p=l.find? p
 | [],_,_=>rfl
 | x::r,0,h=>by
   have q:=h x rfl
   rw[List.eraseIdx_cons_zero,Uq,q]
 | x::r,i+1,h=>by
   rw[Yd,Uq,Uq,zZI p r i fun y e=>h y (by simpa using e)]
theorem zPo {k:Value}{x y:Str}(h:k.isStr x=true)(ne:y≠x):k.isStr y=false:=by
 cases k<;>simp_all [Value.isStr]
 rename_i z t
 intro q
 exact ne q.symm
section
variable {M:Model} {A:Around} {E:Value->Shared->Prop} {s:Shared}
theorem zLT {a:Addr}{m:Str->Option Value}{n:Str}{Q:Bool->Shared->Prop}(hn:s.heap.Ns a m)
   (hQ:∀h' m',h'.Ns a m'->(∀x,x≠n->m' x=m x)->Heap.SameBut a s.heap h'->Q (m n).isSome { s with heap:=h' }):wpAny M A (nsDel a n) Q E s:=by
 obtain⟨⟨c,d,dt,sl⟩,es,ep,ho,hd,hk,hm⟩:=id hn
 dsimp only at hd
 subst hd
 have noref:es.any (·.refKey)=false:=Array.any_eq_false'.mpr fun e he=>by
   obtain⟨w,t,q⟩:=hk e he
   simp[DictEntry.refKey,q]
 have hh:nsHas n ⟨c,d,.dict es ep,sl⟩=pure (es.any (·.key.isStr n)):=by
   rw[nsHas_eq]
   unfold nsHasByArray
   show(if (es.any fun x=>x.key.isStr n)=true then _ else _)=_
   cases es.any fun x=>x.key.isStr n<;>simp[noref]
 have hs:(m n).isSome=es.any (·.key.isStr n):=by
   rw[←hm n]
   unfold nsFind findBy
   rw[Option.isSome_map,Yo,Array.find?_isSome,Array.any_eq_true']
 unfold nsDel
 refine Qw (wpAny_loadPart ho ?_)
 rw[hh]
 refine Qw (Qo ?_)
 rw[←hs]
 cases hb:(m n).isSome with
 | false =>
   have:=hQ s.heap m hn (fun _ _=>rfl) (.refl ..)
   rw[hb] at this
   exact Qo this
 | true =>
   refine Qw (wpAny_updatePart ho (Qo ?_))
   rw[hb] at hs
   obtain⟨k,hk1,hk2⟩:=Array.any_eq_true'.mp hs.symm
   cases hi:es.findIdx? (·.key.isStr n) with
   | none =>
     have:=Array.findIdx?_eq_none_iff.mp hi k hk1
     rw[this] at hk2;cases hk2
   | some i =>
     have hd':Obj.dropName n ⟨c,d,.dict es ep,sl⟩=⟨c,d,.dict (es.eraseIdxIfInBounds i) (ep+1),sl⟩:=by
       rw[Obj.dropName_eq];unfold Obj.dropNameByArray;dsimp only;rw[hi]
     have hg:=Wf (Obj.dropName n) ho (by rw[hd'];rfl)
     rw[hd'] at hg
     have:=hQ _ (nsFind (es.eraseIdxIfInBounds i)) ⟨_,_,_,hg,rfl,hk.erase i,fun _=>rfl⟩ (fun x ne=>?_) (Yb ..)
     · rw[hb] at this;exact this
     · rw[←hm x]
       unfold nsFind findBy
       congr 1
       have hi2:=Array.findIdx?_eq_some_iff_getElem.mp hi
       obtain⟨hlt,hp,_⟩:=hi2
       rw[←Ow,←Ow,show(es.eraseIdxIfInBounds i).toList=es.toList.eraseIdx i by simp[Array.eraseIdxIfInBounds,hlt]]
       refine zZI _ _ _ fun y e=>zPo (x:=n) ?_ ne
       rw[Qp (by simpa using hlt)] at e
       cases e
       simpa using hp
end
section
variable {X:Cx} {pins:List (Addr×Obj)} {σ:St} {H:Hp} {s:Shared}
theorem Inv.gone {i:Nat}{n:Str}{h':Heap}{m m':Str->Option Value}{t':Nat}(I:Inv X pins σ H s)(hN:X.N.Nodup)(hi:X.N[i]?=some n)(hm:s.heap.Ns X.env.locals m)(hm':h'.Ns X.env.locals m')(e:∀x,x≠n->m' x=m x)(sb:Heap.SameBut X.env.locals s.heap h') :
   Inv X pins (σ.set i none) H { s with heap:=h',toks:=t' }:=by
 have keep:∀b o,b≠X.env.locals->s.heap.get? b=some o->h'.get? b=some o:=fun b o ne q=>sb.extBut _ _ ne q
 have neL:∀b o,X.s₀.heap.get? b=some o->b≠X.env.locals:=fun b o q=>We (Qm (Qy q) I.ok.above)
 obtain⟨m0,hn0,hl⟩:=I.loc
 have em:∀x,m0 x=m x:=fun x=>by
   obtain⟨o,es,ep,q1,q2,_,q3⟩:=hn0
   obtain⟨o',es',ep',r1,r2,_,r3⟩:=hm
   rw[q1] at r1;cases r1
   rw[q2] at r2;cases r2
   rw[←q3,←r3]
 refine⟨I.ok,I.os,I.bare,⟨fun b o q n hb hx=>keep b o (neL b o q) (I.base.keep b o q n hb hx),fun b o q n hb hx=>?_,I.base.free,fun b o q hx=>?_,I.base.tups,I.base.frzs,I.base.tbls⟩,⟨m',hm',fun j x v hj hσ hv=>?_⟩,fun x c q=>?_,I.free,I.freeC,fun p hp=>?_,fun b o q=>?_,?_⟩
 · obtain⟨z,y⟩:=I.base.slot b o q n hb hx
   exact⟨z,keep b _ (neL b o q) y⟩
 · obtain⟨z,y⟩:=I.base.there b o q hx
   exact⟨z,keep b _ (neL b o q) y⟩
 · have ji:j≠i:=fun z=>by
     subst z
     by_cases hl':j < σ.length
     · rw[Eg hl'] at hσ;cases hσ
     · rw[Rx (by rw[Tg];omega)] at hσ;cases hσ
   rw[Wt (Ne.symm ji)] at hσ
   obtain⟨u,r,lk⟩:=hl j x v hj hσ hv
   have xn:x≠n:=fun z=>ji (by
     subst z
     exact(List.getElem?_inj (Ql.mp hj).1 hN).mp (hj.trans hi.symm))
   refine⟨u,r,?_⟩
   rcases lk with⟨k1,k2⟩ | ⟨k1,c,k2,ob,k3,k4⟩
   · exact .inl ⟨k1,by rw[e x xn,←em];exact k2⟩
   · exact .inr ⟨k1,c,k2,ob,keep c ob (I.cne x c k2) k3,k4⟩
 · obtain⟨v,ob,k1,k2⟩:=I.cell x c q
   exact⟨v,ob,keep c ob (I.cne x c q) k1,k2⟩
 · obtain⟨p1,p2,p3,p4⟩:=I.pin p hp
   exact⟨keep _ _ p3 p1,p2,p3,p4⟩
 · refine(I.hok b o q).stay (fun b' u hb' q'=>keep b' u (fun z=>?_) q') (fun _ z=>z) (fun _ _ z=>z)
   have fr:=I.free
   rcases hb' with y | y
   · rw[←z,y,q] at fr;cases fr
   · rw[←z,y] at fr;cases fr
 · rw[Tg];exact I.len
theorem zSn {M:Model}{A:Around}{E:Value->Shared->Prop}{i:Nat}{n:Str}{pos:Pos}{Q:Unit->Shared->Prop}(I:Inv X pins σ H s)(hN:X.N.Nodup)(hi:X.N[i]?=some n)(hk:X.env.kindOf n=some .local)(hx:Loc X.env.scope n)
   (h:∀s',Inv X pins (σ.set i none) H s'->Q () s') (hf:X.fn n=true∨X.env.scope.names.lookup n=some .local):wpAny M A (do bindName X.env n .none;unbindBehindTheSuite X.env n pos) Q E s:=by
 refine Qw (wpAny_bindName (bX (v:=.non) I hN hi hx rfl (fun s1 I1 _=>?_) hf))
 have hp:(X.env.scope.kind == .class||(X.env.scope.kind == .module&&X.env.locals != X.env.globals))=false:=by rw[I.ok.kind];rfl
 obtain⟨m1,hn1,hl1⟩:=I1.loc
 unfold unbindBehindTheSuite
 refine Uh ?_
 unfold unbindName
 refine Qw (wpAny_point (Qw ?_))
 unfold deleteName
 simp only[hk,hp]
 rw[Wy (by decide)]
 have hii:i < σ.length:=by rw[I.len];exact(Ql.mp hi).1
 obtain⟨u,_,lk⟩:=hl1 i n .non hi (Eg hii) (.inl (show X.env.scope.names.lookup n=some .local from hk))
 have hs:(m1 n).isSome=true:=by
   rcases lk with⟨_,k2⟩ | ⟨k1,_⟩
   · rw[k2];rfl
   · rw[hk] at k1;rcases k1 with z | z<;>cases z
 refine Qw (zLT hn1 fun h2 m2 q1 q2 q3=>?_)
 rw[hs]
 rw[Wy (by decide)]
 refine Qo (wpAny_point ?_)
 have J:=I1.gone (t':=s1.toks) hN hi hn1 q1 q2 q3
 rw[List.set_set] at J
 exact h _ J
end
abbrev Cx.marked (X:Cx)(a:Addr)(R:Value->Shared->Prop):Cx:={ X with A:=X.A.mark (some (.ref a)),calm:=false,xe:=R }
theorem Cx.Ok.marked {X:Cx}(ok:X.Ok)(a:Addr)(R:Value->Shared->Prop):(X.marked a R).Ok :=
 ⟨ok.mod,ok.kind,ok.glob,ok.blt,ok.above,ok.inj,ok.has,ok.cab,(fun z=>by cases z),ok.frames,ok.stk,ok.exf,ok.bs,ok.bsz,ok.noex,ok.exfs,ok.funs,ok.frf⟩
theorem Inv.marked {X:Cx}{pins:List (Addr×Obj)}{σ:St}{H:Hp}{s:Shared}(I:Inv X pins σ H s)(a:Addr)(R:Value->Shared->Prop):Inv (X.marked a R) pins σ H s:=⟨I.ok.marked a R,I.os,I.bare,I.base,I.loc,I.cell,I.free,I.freeC,I.pin,I.hok,I.len⟩
theorem Inv.unmarked {X:Cx}{pins:List (Addr×Obj)}{σ:St}{H:Hp}{s:Shared}{a:Addr}{R:Value->Shared->Prop}(ok:X.Ok)(I:Inv (X.marked a R) pins σ H s):Inv X pins σ H s:=⟨ok,I.os,I.bare,I.base,I.loc,I.cell,I.free,I.freeC,I.pin,I.hok,I.len⟩
section
variable {X:Cx} {pins:List (Addr×Obj)} {σ:St}
end
section
variable {X:Cx} {E:XK} {a b e:Expr} {es:List Expr} {ga:Lf} {tt:Tf} {f:Sf} {x xa xb:List B->Option Str} {pos p cpos:Pos} {st:Stmt} {sts rest:List Stmt}
end
section
variable {P:Program} {w:World} {K:PySem.W.Frag} {mg:Str->Option Value} {base:Heap} {x qual:Str} {st:Stmt} {f:Addr} {fd:FuncData} {N ps:List Str} {k:Nat}
end
theorem zP4 {M:Model}{A:Around}{st:Stmt}{env:Env}{Q:Flow->Shared->Prop}{R:Value->Shared->Prop}{s:Shared}(h:wpAny M A (exec st env) (fun _ _=>False) R s):wpAny M A (execs [st] env) Q R s:=Uk (Rp h (fun _ _ z=>z.elim) fun _ _ z=>z)
section
variable {X:Cx} {a b e:Expr} {es:List Expr} {ga:Lf} {tt:Tf} {xa xb:List B->Option Str} {pos p cpos:Pos} {st st':Stmt}
theorem Good.setNo {K:PySem.W.Frag}{G0 H0 G H:Hp}{σ:St}{ρ:List B}(g:Good K G0 H0 G H σ ρ)(i:Nat):Good K G0 H0 G H (σ.set i none) (ρ.set i .no):=by
 refine⟨g.st,Paired.set .no i g.vals,fun j k a ds es h1 h2 h3 h4=>?_⟩
 have nj:j≠i:=fun z=>by
   subst z
   by_cases hl:j < ρ.length
   · rw[Eg hl] at h1;cases h1
   · rw[Rx (by rw[Tg];omega)] at h1;cases h1
 have nk:k≠i:=fun z=>by
   subst z
   by_cases hl:k < ρ.length
   · rw[Eg hl] at h2;cases h2
   · rw[Rx (by rw[Tg];omega)] at h2;cases h2
 rw[Wt (Ne.symm nj)] at h1 h3
 rw[Wt (Ne.symm nk)] at h2 h4
 exact g.apart j k a ds es h1 h2 h3 h4
end
section
variable {prog:Program} {w:World} {A:Around} {E:Value->Shared->Prop} {s:Shared}
structure Z3 (z TI TO i1 i2 i3 l1 l2 l3:Addr):Prop where
 TIz:TI≠z
 TOz:TO≠z
 i1z:i1≠z
 i2z:i2≠z
 i3z:i3≠z
 TITO:TI≠TO
 TIi1:TI≠i1
 TIi2:TI≠i2
 TIi3:TI≠i3
 TOi1:TO≠i1
 TOi2:TO≠i2
 TOi3:TO≠i3
 i12:i1≠i2
 i13:i1≠i3
 i23:i2≠i3
 a1:l1≠z
 a2:l1≠TO
 a3:l1≠i1
 a4:l1≠i2
 a5:l1≠i3
 b1:l2≠z
 b2:l2≠TO
 b3:l2≠i1
 b4:l2≠i2
 b5:l2≠i3
 c1:l3≠z
 c2:l3≠TO
 c3:l3≠i1
 c4:l3≠i2
 c5:l3≠i3
end
section
variable {X:Cx} {a b c e tg elt iter:Expr} {fa fb fc:Ef} {ga:Lf} {pos p:Pos}
end
section
variable {X:Cx} {a b c e:Expr} {es:List Expr} {fa fb fc:Ef} {ga gb:Lf} {pos p:Pos}
def zWR (fa fb:Ef):Ef:=fun ρ=>(fa ρ).bind fun x=>(fb ρ).bind fun y=>match x,y with | .int i,.int j=>some (.int (if j < i then j else i)) | _,_=>none
theorem zPX (hc:X.calm=true)(hg:Gl X "min")(hm:X.mg "min"=none)(ha:PF X a fa)(hb:PF X b fb)(hs:starEach [a,b] X.env=[(false,eval a X.env),(false,eval b X.env)]:=by rfl)(hs2:starEach [b] X.env=[(false,eval b X.env)]:=by rfl) :
   PF X (.Call (.Name "min" p) [a,b] [] pos) (zWR fa fb):=by
 refine PE.to (rJ (zRW hc) hg hm (by rfl) (yO ha (yO hb yE (by rw[hs2];rfl)) (by rw[hs,hs2])) (by decide) (by decide) (by rw[hs,hs2]) (by rw[hs2];rfl)) ?_
 rintro σ H Q ⟨G0,H0,G,ρ,d,good,hf,k⟩
 unfold zWR at hf
 obtain⟨x,h1,hf⟩:=Qq.mp hf
 obtain⟨y,h2,hf⟩:=Qq.mp hf
 split at hf
 · rename_i i j _h
   cases hf
   exact⟨G0,H0,G,ρ,_,good,h1,fun v H1 G1 s1 r1=>⟨G0,H0,G1,ρ,_,good.step s1,h2,fun u H2 G2 s2 r2=>⟨i,j,by rw[zH.mp r1,zH.mp r2],k _ _ G2 (s1.trans s2) (zH.mpr rfl)⟩⟩⟩
 · cases hf
theorem cQ:∀ {ns:List Int} {its:List Value},Vals (ns.map V.int) its->∃ps:List (Int×Tok),its=ps.map (fun p=>Value.int p.1 p.2)/\ps.map (·.1)=ns
 | [],_,h=>by cases h;exact⟨[],rfl,rfl⟩
 | n::ns,_,h=>by
   cases h with
   | cons h1 h2 =>
     obtain⟨t,rfl⟩:=h1
     obtain⟨ps,rfl,rfl⟩:=cQ h2
     exact⟨(n,t)::ps,rfl,rfl⟩
end
section
variable {prog:Program} {w:World} {A:Around} {E:Value->Shared->Prop} {s:Shared}
end
section
variable {X:Cx} {a b c e:Expr} {es:List Expr} {fa fb fc:Ef} {ga gb:Lf} {pos p:Pos}
def zNY (i:Nat)(fb:Ef):Ef:=fun ρ=>match ρ[i]? with | some (.ow ds)=>(fb ρ).bind (fun y=>match y with | .int k=>atI ds k | _=>none) | _=>none
theorem zMC (i:Nat){x:Str}{p1:Pos}(hb:PF X b fb)(hN:X.N[i]?=some x:=by rfl)(hv:Vis X.env.scope x:=by first | exact Or.inl rfl | exact Or.inr (Or.inl rfl) | exact Or.inr (Or.inr rfl))(hd:(x==("__debug__":Str))=false:=by decide)(hcd:(x==("__classdict__":Str))=false:=by decide)(hs:aF b:=by exact fun _ _=>rfl) :
   PF X (.Subscript (.Name x p1) b pos) (zNY i fb):=by
 refine PE.to (zQM zSy (oY hN hv hd hcd) hb hs) ?_
 rintro σ H Q ⟨G0,H0,G,ρ,d,good,hf,k⟩
 unfold zNY at hf
 split at hf
 · rename_i ds hi
   obtain⟨q,vs,e1,e2,e3,e4,e5⟩:=good.addr hi
   obtain⟨y,h2,hf⟩:=Qq.mp hf
   cases y with
   | int m =>
     refine⟨.ref q,e1,G0,H0,G,ρ,_,good,h2,fun v H2 G2 s2 r2=>?_⟩
     obtain⟨w,e,rw'⟩:=zYZ (e5.mono s2.gg) hf
     exact⟨q,vs,m,w,rfl,zH.mp r2,.of (s2.hh _ _ e2),e,k _ _ G2 s2 rw'⟩
   | _=>cases hf
 · cases hf
end
section
variable {prog:Program} {w:World} {A:Around} {E:Value->Shared->Prop} {s:Shared}
theorem zU0:typeLookup (.type "list_reverseiterator") "__len__"=pure none:=by rw[Ys,Rl];kernel_rfl
theorem zQA:typeLookup (.type "list_reverseiterator") "__length_hint__"=pure (some (.builtin "list_reverseiterator.__length_hint__")):=by rw[Ys,Rl];kernel_rfl
theorem zPV {it l:Addr}{i:Int}{Q:Bool->Shared->Prop}(hit:s.heap.IsRevIter it l i)(h:Q false s):wpAny (model prog w) A (Builtin.List.listLengthHint (.ref it)) Q E s:=by
 unfold Builtin.List.listLengthHint
 refine Qw (Yn hit.typeIs zU0 ?_)
 refine Ex (fun hab=>absurd hab (by decide)) (fun _=>?_)
 refine Ex (fun hab=>absurd hab (by decide)) (fun _=>?_)
 refine Qw (Yn hit.typeIs zQA ?_)
 generalize hid:("list_reverseiterator.__length_hint__":String)=id0
 wp_delta
 rw[show splitId id0=some ("list_reverseiterator","__length_hint__") from by subst hid;decide +kernel]
 subst hid
 refine Qw (Uz (T:="list_reverseiterator") (b:=true) hit.typeIs (by rw[isSubtype_type];kernel_rfl) ?_)
 refine Ex (fun hab=>absurd hab (by decide)) (fun _=>?_)
 refine Ex (fun _=>?_) (fun hab=>absurd (by decide +kernel) hab)
 refine Ex (fun hab=>absurd hab (by decide +kernel)) (fun _=>?_)
 exact Qo h
theorem zTu {R:Result->Shared->Prop}{it l S:Addr}{items:Array Value}{res:Value}{c₀:Nat}(hh:A.handled=none)(hit:s.heap.IsRevIter it l ((items.size:Int) - 1))(hl:s.heap.IsList l items)(hli:l≠it)(hSi:S≠it)(hSl:S≠l)(hlen:items.size<=sizeLine)
   (hS:s.heap.get? S=some { cls:=.type "list",data:=.seq #[] c₀ })
   (hR:∀h' tk acc' c',(∀b o,b≠S->b≠it->s.heap.get? b=some o->h'.get? b=some o)->h'.get? S=some { cls:=.type "list",dict:=none,data:=.seq acc' c',slots:=#[] } ->
     ItemsOf (fun i v=>items[items.size - 1 - i]?=some v) acc' items.size->R (.ok (.ret res)) { s with heap:=h',toks:=tk }) :
   wpAny (model prog w) A.in1 (Builtin.List.listExtendWith (.ref S) (.ref it) res)
     (fun fin s'=>match fin with | .done f=>R (.ok f) s' | .again c'=>c'.quiet=true/\codeAny (model prog w) A c' R s') (fun e s'=>R (.error e) s') s:=by
 have hSf:S∉[it,l]:=fun hm=>by
   rcases Qz.mp hm with e | hm
   · exact hSi e
   · exact hSl (Wh.mp hm)
 have W:=(Walks.listRev (prog:=prog) (w:=w) (A:=A.in1) hh it l hli items).toS
 unfold Builtin.List.listExtendWith
 refine Qw (Og hit.typeIs ?_)
 have h1:Builtin.List.listSameRef (.ref S) (.ref it)=false:=by simp[Builtin.List.listSameRef,hSi]
 have h2:(Value.type "list_reverseiterator"==Value.type "list")=false:=by decide
 have h3:(Value.type "list_reverseiterator"==Value.type "tuple")=false:=by decide
 simp only[h1,h2,h3,Bool.or_false,Wg,Ta]
 refine Qw (wpAny_pyIter_revIter hit ?_)
 refine Qw (Rq (zPV hit ?_))
 refine Ex (fun hab=>absurd hab (by decide +kernel)) (fun _=>Qo ⟨El F.plain_extend_loop _,?_⟩)
 refine codeAny_extend_loopS W hlen S hSf res items.size 0 _ #[] c₀ rfl (Ye _) ⟨Ye _,by simpa using hit,hl⟩ hS (ItemsOf.nil _) fun s' acc' c' hm hS' hacc=>?_
 rw[Moved.eq_with hm]
 refine hR s'.heap s'.toks acc' c' (fun b o hb hb' e=>hm.heap b o (fun hmem=>?_) e) hS' hacc
 rcases Qz.mp hmem with e' | hmem
 · exact hb e'
 · exact hb' (Wh.mp hmem)
theorem zYg {R:Result->Shared->Prop}{it l S:Addr}{items:Array Value}(hh:A.handled=none)(hit:s.heap.IsRevIter it l ((items.size:Int) - 1))(hl:s.heap.IsList l items)(hli:l≠it)(hSi:S≠it)(hSl:S≠l)(hlen:items.size<=sizeLine)
   (hS:s.heap.get? S=some { cls:=.type "list",data:=.seq #[] })
   (hR:∀h' tk acc' c',(∀b o,b≠S->b≠it->s.heap.get? b=some o->h'.get? b=some o)->h'.get? S=some { cls:=.type "list",dict:=none,data:=.seq acc' c',slots:=#[] } ->
     ItemsOf (fun i v=>items[items.size - 1 - i]?=some v) acc' items.size->R (.ok (.ret .none)) { s with heap:=h',toks:=tk }) :
   wpAny (model prog w) A.in1 (Builtin.«list.__init__» ⟨[.ref S,.ref it],[]⟩)
     (fun fin s'=>match fin with | .done f=>R (.ok f) s' | .again c'=>c'.quiet=true/\codeAny (model prog w) A c' R s') (fun e s'=>R (.error e) s') s:=by
 show wpAny _ _ (do let old ←Builtin.List.listItems (.ref S);Builtin.List.listUpdate (.ref S) (fun _=>#[]);letGo old.toList.reverse;Builtin.List.listExtendWith (.ref S) (.ref it) .none) _ _ s
 refine Qw ?_
 unfold Builtin.List.listItems
 refine Qw (Ee hS rfl (Qo ?_))
 show wpAny _ _ (updateSeq S (fun _=>#[]) >>= fun _=>letGo (#[]:Array Value).toList.reverse >>= fun _=>Builtin.List.listExtendWith (.ref S) (.ref it) .none) _ _ s
 refine Qw (Tt hS rfl ?_)
 have hS₂:=Wf (Obj.mapSeq (fun _=>(#[]:Array Value))) hS rfl
 have oth:∀b o,b≠S->s.heap.get? b=some o->(s.heap.update S (Obj.mapSeq (fun _=>(#[]:Array Value)))).get? b=some o :=
   fun b o hb e=>(Wz _ _ (Ne.symm hb)).trans e
 refine Qw (Yg ?_)
 refine zTu hh (hit.at fun o e=>oth _ _ (Ne.symm hSi) e) (hl.at fun o e=>oth _ _ (Ne.symm hSl) e) hli hSi hSl hlen hS₂ fun h' tk acc' c' hk hS' hacc=>?_
 exact hR h' tk acc' c' (fun b o hb hb' e=>hk b o hb hb' (oth b o hb e)) hS' hacc
theorem zYa {Q:Value->Shared->Prop}{it l:Addr}{items:Array Value}(hh:A.handled=none)(hit:s.heap.IsRevIter it l ((items.size:Int) - 1))(hl:s.heap.IsList l items)(hli:l≠it)(hlen:items.size<=sizeLine)
   (hQ:∀h' tk acc' c',(∀b o,b≠it->s.heap.get? b=some o->h'.get? b=some o) ->
     h'.get? s.heap.objs.size=some { cls:=.type "list",dict:=none,data:=.seq acc' c',slots:=#[] }->ItemsOf (fun i v=>items[items.size - 1 - i]?=some v) acc' items.size->Q (.ref s.heap.objs.size) { s with heap:=h',toks:=tk }) :
   wpAny (model prog w) A (call (.type "list") [.ref it]) Q E s:=by
 refine callType_codes (Q₁:=fun obj s₁=>obj = .ref s.heap.objs.size/\s₁={ s with heap:=s.heap.push { cls:=.type "list",data:=.seq #[] } }) F.called_list (F.typeCall_list_1 _) F.entry_list_init
   (code_list_new _ ⟨rfl,rfl⟩) fun obj s₁ h₁=>?_
 obtain⟨rfl,rfl⟩:=h₁
 have hS:(s.heap.push { cls:=.type "list",data:=.seq #[] }).get? s.heap.objs.size=some { cls:=.type "list",data:=.seq #[] }:=Qa _ rfl
 have n1:s.heap.objs.size≠it:=fun z=>by obtain⟨o,e,_⟩:=hit;exact absurd (Qy e) (by rw[z];exact Ww _)
 have n2:s.heap.objs.size≠l:=fun z=>by obtain⟨o,e,_⟩:=hl;exact absurd (Qy e) (by rw[z];exact Ww _)
 refine⟨⟨_,hS,rfl⟩,F.args_list_init_2 _ _,zYg (A:=A.in1) hh (hit.at fun o e=>Qe _ e) (hl.at fun o e=>Qe _ e) hli n1 n2 hlen hS fun h' tk acc' c' hk hS' hacc=>?_⟩
 exact⟨rfl,hQ h' tk acc' c' (fun b o hb e=>hk b o (We (Qy e)) hb (Qe _ e)) hS' hacc⟩
end
theorem zRv {its acc:List Value}(h:ItemsOf (fun i v=>its.toArray[its.toArray.size - 1 - i]?=some v) acc.toArray its.toArray.size):acc=its.reverse:=by
 obtain⟨h1,h2⟩:=h
 simp only[Qs] at h1 h2
 refine List.ext_getElem (by rw[h1,Yr]) fun i hi hi'=>?_
 have q:=h2 i acc[i] (by simp[hi])
 rw[List.getElem_reverse]
 simp only[Ie] at q
 rw[Qp (by omega)] at q
 exact(Wp q).symm
theorem Reps.reverse {K:PySem.W.Frag}{G:Hp}:∀ {ds:List D} {vs:List V},Reps K G ds vs->Reps K G ds.reverse vs.reverse
 | [],_,h=>by rw[yQ] at h;subst h;exact yQ.mpr rfl
 | d::r,_,h=>by
   obtain⟨v,vr,rfl,h1,h2⟩:=yZ.mp h
   rw[Ej,Ej]
   exact h2.reverse.snoc h1
section
variable {X:Cx} {a b c e tg elt iter:Expr} {es:List Expr} {fa fb fc:Ef} {ga gb:Lf} {pos p:Pos}
def zWG (g:Lf):Lf:=fun ρ=>(g ρ).map List.reverse
theorem zY4 {p2 pos':Pos}(hc:X.calm=true)(hg:Gl X "list")(hm:X.mg "list"=none)(hg':Gl X "reversed")(hm':X.mg "reversed"=none)(h:zW9 X a ga)(hs:starEach [a] X.env=[(false,eval a X.env)]:=by rfl)
   (hs3:starEach [Expr.Call (.Name "reversed" p2) [a] [] pos'] X.env=[(false,eval (.Call (.Name "reversed" p2) [a] [] pos') X.env)]:=by rfl) :
   PFr X (.Call (.Name "list" p) [.Call (.Name "reversed" p2) [a] [] pos'] [] pos) (zWG ga):=by
 intro pins s σ H Q I q
 obtain⟨G0,H0,G,ρ,es,good,hf,kk⟩:=q
 unfold zWG at hf
 obtain⟨ds,h1,rfl⟩:=Qu.mp hf
 have hA:=yO h yE (by rw[hs];rfl) pos' pins s σ H (fun vs H'=>∃l us G',vs=[.ref l]/\Step G H G' H'/\SqL X.K G' l us/\Reps X.K G' ds us) I
   ⟨G0,H0,G,ρ,_,good,h1,fun l us H1 G1 s1 q1 q2=>⟨l,us,G1,rfl,s1,q1,q2⟩⟩
 refine Call_ (nS I hg hm (by rfl) (Ew (rest:=[]) ?_ (by rw[hs3];rfl) (by rfl)))
 rw[hs3]
 refine Oe (Call_ (nS I hg' hm' (by rfl) (Ew (thn hA fun us s1 ⟨vs,H1,I1,r1,l,ws,G1,e1,st1,q1,q2⟩=>?_) (by rw[hs];rfl) (by rfl))))
 subst e1
 obtain⟨u,rfl,ru⟩:=oV r1
 cases ru
 obtain⟨its,rv,p1,hz⟩:=I1.list (st1.sub.seq q1)
 have hll:l < s1.heap.objs.size:=by obtain⟨o,e,_⟩:=p1.isList;exact Qy e
 refine call_reversed_list p1.isList ?_
 refine Oa ?_
 have hrev:(s1.heap.push (revObj l ((its.toArray.size:Int) - 1))).IsRevIter s1.heap.objs.size l ((its.toArray.size:Int) - 1):=⟨_,Qa _ rfl,rfl,rfl⟩
 refine zYa (I.ok.hd hc) hrev (p1.isList.at fun o e=>Qe _ e) (We hll) (by rw[Qs];exact rv.length ▸ hz) fun h' tk acc c' hk hS hacc=>?_
 have hsz:(s1.heap.push (revObj l ((its.toArray.size:Int) - 1))).objs.size=s1.heap.objs.size+1:=Ek ..
 have hacc':acc.toList=its.reverse:=zRv (acc:=acc.toList) (by simpa using hacc)
 have hT:s1.heap.objs.size<=(s1.heap.push (revObj l ((its.toArray.size:Int) - 1))).objs.size:=by rw[hsz];exact Td _
 have fr:H1 (s1.heap.push (revObj l ((its.toArray.size:Int) - 1))).objs.size=none:=I1.hok.fresh hT
 have I3:=I1.laid (t':=tk) (h':=h') (a:=(s1.heap.push (revObj l ((its.toArray.size:Int) - 1))).objs.size) (o:=.lst ws.reverse) (fun b o e=>hk b o (We (Qy e)) (Qe _ e)) hT
   (show ObjOk X.prog X.w _ h' _ (.lst ws.reverse) from⟨by rw[Yr];exact hz,acc.toList,c',by rw[hacc'];exact rv.reverse,hS⟩)
 exact⟨.ref _,_,I3,rfl,kk _ ws.reverse _ G1 (st1.trans (Step.own st1.sub fr)) (st1.hh.free fr) zE (st1.sub.free fr) q2.reverse⟩
def zSX (_ j:Int):Bool:=decide (0 < j)&&decide (j.natAbs.log2 < 9000)
abbrev eF:=eI zSX (fun i j=>i / j)
theorem zQd:OpR X (binaryOp .FloorDiv) (rI (fun _ j=>0 < j/\j.natAbs.log2 < 9000) fun i j=>.int (i / j)):=opI fun i j _ _ _ _ _ hc q=>by
 have h1:(0:Int) < j:=hc.1
 exact floordiv_int (by omega) (by rw[Ue i (by omega)];exact q) (.inl (PyProof.noPylong_of_log2 hc.2))
theorem zWQ (ha:PF X a fa)(hb:PF X b fb):PF X (.BinOp a .FloorDiv b pos) (eF fa fb):=zTW zQd (fun i j h=>by
 unfold zSX at h
 simp only[Qn,Wo] at h
 exact h) ha hb
def bB (i j:Int):Bool:=decide (Builtin.Int.intBits i<=2097152)&&decide (Builtin.Int.intBits j<=2097152)
abbrev oK:=eI bB (fun i j=>i*j)
theorem iP (ha:PF X a fa)(hb:PF X b fb):PF X (.BinOp a .Mult b pos) (oK fa fb):=zTW zO3 (fun i j h=>by
 unfold bB at h
 simp only[Qn,Wo] at h
 exact mulOk_of_bits h.1 h.2 (by decide)) ha hb
end
end L2
namespace L2
open PySem PySem.Spec PyProof.Rows
theorem cD:fillsNumberSlot (.type "tuple") "mul"=pure false :=
 PySem.fillsNumberSlot_seq (id:="tuple.__mul__") (r:=some (.builtin "tuple.__rmul__")) F.slot_tuple_mul.lookup (by decide +kernel) (by rw[Ys,Rl];kernel_rfl) (by decide +kernel)
theorem aK:typeLookup (.type "tuple") "__rmul__"=pure (some (.builtin "tuple.__rmul__")):=by rw[Ys,Rl];kernel_rfl
theorem zWh:seqRepeat? (.type "tuple")=pure (some (.builtin "tuple.__mul__")):=by
 unfold seqRepeat?
 rw[PySem.seqSlot_of (T:="tuple") (name:="__mul__") (id:="tuple.__mul__") F.slot_tuple_mul.lookup (by decide +kernel),PySem.seqSlot_of (T:="tuple") (name:="__rmul__") (id:="tuple.__rmul__") aK (by decide +kernel)]
 rfl
theorem zYL (a:Int)(t:Tok)(l:Addr)(items:Array Value)(n:Nat)(dd:Option Addr)(sl:Array (Option Value)) :
   Meets (Builtin.«int.__rmul__» ⟨[.int a t,.ref l],[]⟩) (fun _ R s=>s.heap.get? l=some { cls:=.type "tuple",dict:=dd,data:=.seq items n,slots:=sl }/\R (.ok (.ret Value.notImplemented)) s) :=
 .of_wp fun prog w A R s h=>by obtain⟨hp,g,d,tk,os⟩:=s;obtain⟨hl,h⟩:=h;wp_walk;exact⟨_,rfl,h⟩
open AutoSeq1 (wpAny_loadPart') in
theorem zUa (l:Addr)(items:Array Value)(n:Nat)(dd:Option Addr)(sl:Array (Option Value))(x:Int)(u:Tok)(c1:¬((decide (x < -2^63)||decide (x≥2^63))=true))(c2:¬((items.isEmpty||x==1)=true))(c3:¬((decide (x<=0)||items.isEmpty)=true))
   (c4:¬(items.size:Int)*x > (2^63 - 1) / 8) (c5:¬Builtin.Tuple.tupleTooMany ((items.size:Int)*x)=true) (hsz:(List.foldl (fun x1 x2=>x1++x2) #[] (List.replicate x.toNat items)).size<=sizeLine) :
   Meets (Builtin.«tuple.__mul__» ⟨[.ref l,.int x u],[]⟩) (fun _ R s=>s.heap.get? l=some { cls:=.type "tuple",dict:=dd,data:=.seq items n,slots:=sl }/\R (.ok (.ret (Value.ref s.heap.objs.size))) { s with heap:=s.heap.push { cls:=Value.type "tuple",data:=Data.seq (List.foldl (fun x1 x2=>x1++x2) #[] (List.replicate x.toNat items)) },toks:=s.toks }) :=
 .of_wp fun prog w A R s h=>by
   obtain⟨hp,g,d,tk,os⟩:=s;obtain⟨hl,h⟩:=h
   have f1:=AutoSeq1.idx_int
   have f2:=AutoSeq1.sub_tuple_tuple
   wp_walk using wpAny_loadPart' hl
   have ht:IsTup (Shared.heap ⟨hp,g,d,tk,os⟩) l items:=⟨_,hl,rfl,n,rfl⟩
   refine Ex (fun hab=>absurd hab c1) (fun _=>?_)
   refine Qw (tupleItemsOf_ ht ?_)
   refine Ex (fun hab=>absurd hab c2) (fun _=>?_)
   refine Ex (fun hab=>absurd hab c3) (fun _=>?_)
   refine Ex (fun hab=>absurd hab c4) (fun _=>?_)
   refine Ex (fun hab=>absurd hab c5) (fun _=>?_)
   exact Qw (m:=Builtin.Tuple.tupleExact _) (Em (Qo ⟨_,rfl,h⟩) hsz)
section
variable {X:Cx} {a b c e tg elt iter:Expr} {es:List Expr} {fa fb fc:Ef} {ga gb:Lf} {pos p:Pos}
def zKG (K:PySem.W.Frag):R2:=fun x y H Q=>∃l k xs,x = .ref l/\y = .int k/\SqT K H l xs/\xs≠[]/\2<=k/\k<=1000/\xs.length<=90/\∀p,H p=none->Q (.ref p) (upd H p (.tup (List.replicate k.toNat xs).flatten))
theorem zOi:OpR X (binaryOp .Mult) (zKG X.K):=by
 intro pins s σ H x y v u Q I rx ry h
 obtain⟨l,k,xs,rfl,rfl,hx,hne,h1,h2,hl,q⟩:=h
 cases rx
 obtain⟨t,rfl⟩:=ry
 obtain⟨its,r,ht,hz⟩:=I.tuple hx
 have hlen:=r.length
 have hne':its≠[]:=fun z=>hne (r.nil_iff.mp z)
 obtain⟨⟨cls,dd,data,sl⟩,ho,hc,n,hd⟩:=id ht
 simp only at hc hd
 subst hc hd
 have hnew:List.foldl (fun x1 x2=>x1++x2) #[] (List.replicate k.toNat its.toArray)=(List.replicate k.toNat its).flatten.toArray:=by
   have:=cF its k.toNat []
   rw[Eo] at this
   exact this
 have hsl:100000 < sizeLine:=wK (by decide)
 have hb:its.length*k.toNat<=90*1000:=Tc (by omega) (by omega)
 have hb2:(its.toArray.size:Int)*k=((its.length*k.toNat:Nat):Int):=by
   rw[Qs,Tk,Int.toNat_of_nonneg (by omega)]
 have hfl:(List.replicate k.toNat its).flatten.length=k.toNat*its.length:=by simp
 refine Pw (T:="tuple") (U:="int") (by decide) ⟨_,ho,rfl⟩ (fun s'=>Os s' k t) cD F.fills_int_mul F.slot_int_rmul zWh F.slot_int_index.lookup
   (Yy F.slot_int_rmul (Os s k t) F.entry_int_rmul (F.args_int_rmul_2 _ _) (zYL k t l its.toArray n dd sl)
     ⟨ho,rfl,⟨_,ho,rfl⟩,Yy F.slot_tuple_mul ⟨_,ho,rfl⟩ F.entry_tuple_mul (F.args_tuple_mul_2 _ _) (zUa l its.toArray n dd sl k t ?_ ?_ ?_ ?_ ?_ ?_) ⟨ho,?_⟩⟩)
 · simp;omega
 · simp[hne'];omega
 · simp[hne'];omega
 · rw[hb2]
   generalize its.length*k.toNat=m at hb
   omega
 · unfold Builtin.Tuple.tupleTooMany
   rw[hb2,Wo]
   generalize its.length*k.toNat=m at hb
   omega
 · rw[hnew,Qs,hfl,Ev];omega
 · rw[hnew]
   have hw:(List.replicate k.toNat xs).flatten.length<=sizeLine:=by
     have:(List.replicate k.toNat xs).flatten.length=k.toNat*xs.length:=by simp
     rw[this,Ev,hlen];omega
   refine⟨.ref s.heap.objs.size,_,I.laid (t':=s.toks) (o:=.tup (List.replicate k.toNat xs).flatten) (fun b ob q=>Qe _ q) (Qk _) ?_,rfl,q _ (I.hok.fresh (Qk _))⟩
   exact⟨hw,_,r.rep k.toNat,IsTup.new _ _⟩
def zSY (fa fb:Ef):Ef:=fun ρ=>(fa ρ).bind fun x=>(fb ρ).bind fun y=>match x,y with | .tup xs,.int k=>if xs≠[]/\2<=k/\k<=1000/\xs.length<=90 then some (.tup (List.replicate k.toNat xs).flatten) else none | _,_=>none
theorem zNU (ha:PF X a fa)(hb:PF X b fb):PF X (.BinOp a .Mult b pos) (zSY fa fb):=by
 refine PE.to (zYK zOi ha hb) ?_
 rintro σ H Q ⟨G0,H0,G,ρ,d,good,hf,k⟩
 unfold zSY at hf
 obtain⟨x,h1,hf1⟩:=Qq.mp hf
 obtain⟨y,h2,hf2⟩:=Qq.mp hf1
 cases x with
 | tup xs =>
   cases y with
   | int m =>
     dsimp only at hf2
     split at hf2
     · rename_i hc
       obtain⟨c0,c1,c2,c3⟩:=hc
       cases hf2
       refine⟨G0,H0,G,ρ,_,good,h1,fun v H1 G1 s1 r1=>⟨G0,H0,G1,ρ,_,good.step s1,h2,fun u H2 G2 s2 r2=>?_⟩⟩
       obtain⟨q,vs,rfl,q1,q2⟩:=xM.mp (r1.mono s2.gg)
       have e1:=q2.length
       refine⟨q,m,vs,rfl,zH.mp r2,s2.sub.tup q1,fun z=>c0 (List.length_eq_zero_iff.mp (by rw[e1,z];rfl)),c1,c2,by omega,fun p hp=>?_⟩
       have s4:=Step.laid (o:=.tup (List.replicate m.toNat vs).flatten) s2.sub hp
       exact k _ _ _ ((s1.trans s2).trans s4) (xM.mpr ⟨p,_,rfl,.of zE,(zZz q2 m.toNat).mono s4.gg⟩)
     · cases hf2
   | _=>cases hf2
 | _=>cases hf2
theorem zQc {α β:Type}{f:α->Option β}{g:α->β}:∀ {l:List α},(∀x∈l,f x=some (g x))->l.filterMap f=l.map g
 | [],_=>rfl
 | x::r,h=>by rw[Yw,h x Qh,Qj,zQc fun y hy=>h y (Qd _ hy)]
theorem zYj (its:List Value):slicePick its.toArray none none (some (-1))=its.reverse.toArray:=by
 unfold slicePick
 have hb:sliceBounds none none (some (-1)) its.toArray.size=((its.length:Int) - 1,-1,-1):=by simp[sliceBounds]
 rw[hb]
 congr 1
 have hr:sliceRange ((its.length:Int) - 1) (-1) (-1)=(List.range its.length).map fun k=>its.length - 1 - k:=by
   unfold sliceRange
   have hc:(if (-1:Int) > 0 then(if (its.length:Int) - 1 < -1 then(-1 - ((its.length:Int) - 1) + -1 - 1) / -1 else 0) else if (its.length:Int) - 1 > -1 then((its.length:Int) - 1 - -1 - -1 - 1) / (- -1) else 0).toNat=its.length:=by
     rw[Wy (by decide)]
     by_cases h:its.length=0
     · rw[Wy (by omega),h];rfl
     · rw[Qx (by omega),show(- -1:Int)=1 from rfl,Int.ediv_one];omega
   simp only[hc]
   refine Ti fun k hk=>?_
   have:=To.mp hk
   omega
 rw[hr,List.filterMap_map]
 rw[zQc (g:=fun k=>its.reverse.getD k .none) fun k hk=>by
   have hk:=To.mp hk
   show its.toArray[its.length - 1 - k]?=some (its.reverse.getD k .none)
   rw[Ie,Wq,List.getElem?_reverse hk,Qp (by omega)]
   rfl]
 refine List.ext_getElem (by simp) fun i hi hi'=>?_
 rw[List.getElem_map,List.getElem_range,Wq,Qp hi']
 rfl
def zOY (g:Lf)(fs:Ef):Lf:=fun ρ=>(g ρ).bind fun ds=>(mQ fs ρ).bind fun k=>if k=some (-1) then some ds.reverse else none
theorem zNo {st:Expr}{fs:Ef}{p2:Pos}(h:zW9 X a ga)(hst:PF X st fs):PFr X (.Subscript a (.Slice none none (some st) p2) pos) (zOY ga fs):=by
 intro pins s σ H Q I q
 obtain⟨G0,H0,G,ρ,es,good,hf,kk⟩:=q
 unfold zOY at hf
 obtain⟨ds,h1,hf1⟩:=Qq.mp hf
 obtain⟨k,h2,hf2⟩:=Qq.mp hf1
 by_cases hk:k=some (-1)
 · rw[Qx hk] at hf2
   subst hk
   cases hf2
   refine Subscript_ (thn (h pins s σ H (fun v H1=>∃l us G1,v = .ref l/\Step G H G1 H1/\SqL X.K G1 l us/\Reps X.K G1 ds us) I ⟨G0,H0,G,ρ,_,good,h1,fun l us H1 G1 s1 q1 q2=>⟨l,us,G1,rfl,s1,q1,q2⟩⟩) fun v s1 ⟨x,H1,I1,r1,l,us,G1,e1,st1,q1,q2⟩=>?_)
   subst e1
   cases r1
   refine wpAny_Slice ?_
   rw[Ot]
   refine Qo ?_
   refine Qo (thn (zXF hst pins s1 σ H1 (fun o H3=>∃G3,Step G1 H1 G3 H3/\o=some (-1)) I1 ⟨G0,H0,G1,ρ,_,good.step st1,h2,fun H3 G3 s3=>⟨G3,s3,rfl⟩⟩) fun vk s3 ⟨k',H3,I3,pk,G3,st3,e3⟩=>?_)
   subst e3
   have I4:Inv X pins σ H3 { s3 with heap:=s3.heap.push { cls:=.type "slice",data:=.fields #[.none,.none,vk] } }:=I3.kept (t':=s3.toks) fun b ob q=>Qe _ q
   have st13:=st1.trans st3
   obtain⟨its,rv,p1,hz⟩:=I4.list (st3.sub.seq (st3.gg.seq q1))
   have hlen:=rv.length
   show wpAny (model X.prog X.w) X.A (subscriptTail a (.Slice none none (some st) p2) (.ref l) (.ref s3.heap.objs.size)) (EP X pins σ Q) X.xe _
   refine tail_any (ops:=[.ref l,.ref s3.heap.objs.size]) (T:="list") p1.isList.typeIs slot_list_getitem.lookup ?_ (by with_unfolding_all rfl)
   refine wpAny_getItem_list_slice (lo:=none) (hi:=none) (st:=some (-1)) p1.isList ⟨_,Qa _ rfl,rfl,rfl⟩ .none .none pk (by simp) ?_ (by rw[Qs];omega)
   rw[zYj]
   have fr:H3 (s3.heap.push { cls:=.type "slice",data:=.fields #[.none,.none,vk] }).objs.size=none:=I4.hok.fresh (Qk _)
   refine⟨.ref _,_,I4.laid (t':=s3.toks) (o:=.lst us.reverse) (fun b ob q=>Qe _ q) (Qk _) ?_,rfl,kk _ us.reverse _ G3 (st13.trans (Step.own st13.sub fr)) (st13.hh.free fr) zE (st13.sub.free fr) (q2.mono st3.gg).reverse⟩
   exact⟨by rw[Yr];exact hz,_,0,rv.reverse,Qa _ rfl⟩
 · rw[Wy hk] at hf2;cases hf2
theorem uJ {st:Stmt}:PFS X st (fun _=>none):=by
 intro pins s σ H D I q
 obtain⟨G0,H0,G,ρ,o,good,hf,k⟩:=q
 cases hf
end
end L2
namespace Att
open PySem PySem.W PySem.Spec PyProof.Rows
theorem zU5 {ns:List Int}(h:WData.layableAll [WData.list (ns.map WData.int)]=true):∀n∈ns,Builtin.Int.intBits n<=1048576:=by
 unfold WData.layableAll WData.layable at h
 rw[Ug,List.all_nil,Bool.and_true,Qn,Wo] at h
 have hw:=h.2
 unfold WData.weight at hw
 have key:∀l:List Int,∀n∈l,Builtin.Int.intBits n<=WData.weightAll (l.map WData.int):=by
   intro l
   induction l with
   | nil=>intro n hn;cases hn
   | cons x r ih =>
     intro n hn
     rw[Qj]
     unfold WData.weightAll
     rcases Qz.mp hn with e | e
     · subst e
       have:WData.weight (WData.int n)=Builtin.Int.intBits n:=by unfold WData.weight Builtin.Int.intBits;rfl
       omega
     · have:=ih n e
       omega
 intro n hn
 have:=key ns n hn
 have e:(2:Nat)^20=1048576:=by decide
 omega
end Att
namespace Att
open PySem PySem.W PySem.Calls PyProof.Rows
theorem attach_bits {l:OpenLaw}{n:Nat}{q:Program}{loose:List Str}{XP:(Str->Option Value)->Heap->Prop}{YP:World->Heap->Prop}{d:DefRec}
   (hn:l.most=some n) (hdf:d.params.defaults=[])
   (run:∀(w:World) (s₀ s₁:Shared) (mg mb:Str->Option Value) (fa:Addr) (o:Obj) (pm cd doc:Value) (a:Addr) (vs:List Value) (ns:List Int),
     Ground q loose [] XP w s₀ mg mb s₁.heap->YP w s₁.heap ->
     s₁.heap.get? fa=some o->o.data = .func (docDef d.name d.params d.body d.scope pm cd doc)->s₁.heap.CodeRec cd d.name->mg d.name=some (.ref fa) ->
     s₁.heap.get? a=some { cls:=.type "list",data:=.seq vs.toArray }->IntsAre vs ns->ns.length<=n->(∀n∈ns,Builtin.Int.intBits n<=1048576)->s₁.gens=#[] ->
     codeAny (model l.prog w) callerA (.call (.ref fa) ⟨[.ref a],[]⟩) (fun r s'=>r = .ok (.ret (.bool true))/\OldK s₁.heap s'.heap/\s'.os=s₁.os/\AllBare s'.gens) s₁) :
   WalkO q loose XP YP l.row.toRowW d [] (fun f vs=>PySem.call f vs):=by
 intro w s₀ s₁ mg mb G Y fa o pm cd doc dV kV ho hd hcd hD hmg hg args vals as hpre hlay hrd hwl hlo
 obtain rfl:dV = .none:=Dflts.none hD hdf
 obtain rfl:kV = .none:=Dflts.noKw hD
 obtain⟨a,vs,ns,rfl,rfl,hobj,hints,hlen⟩:=zRl hn hpre hwl
 refine enter_call (Ut (run w s₀ s₁ mg mb fa o pm cd doc a vs ns G Y ho (fd_plain hd) hcd hmg hobj hints hlen (zU5 hlay) hg) fun r s' hq=>?_)
 obtain⟨rfl,h2,h3,h4⟩:=hq
 exact⟨.inl ⟨.bool true,.bool true,[],rfl,fun _=>rfl,.bool true,zRo l _,fun _=>⟨List.Pairwise.nil,fun _ hm=>(nomatch hm)⟩⟩,h2,h3,h4⟩
end Att
namespace L2
open PySem PySem.Spec PyProof.Rows
theorem zSl {l:PySem.W.OpenLaw}{n k:Nat}{q:Program}{loose:List Str}{XP:(Str->Option Value)->Heap->Prop}{YP:World->Heap->Prop}{d:DefRec}{K:Params->PySem.W.Frag}{CX:World->CXT}{sp:World->Sp}{x:Str}
   (hn:l.most=some n) (hn2:n<=sizeLine) (hdf:d.params.defaults=[]) (hr:Room k callerA)
   (hY:∀(w:World) (h:Heap),YP w h->(K w.params).In h)
   (F:∀(w:World) (mg:Str->Option Value) (fa:Addr) (h:Heap),(K w.params).In h->h.Ns mainGlobals mg->mg d.name=some (.ref fa) ->
     ∃fd:FuncData,(∀(s:Shared) (u:Value),BindsTo s fd ⟨[u],[]⟩ [(x,u)]) /\
       ∀base:Heap,(K w.params).In base->base.Ns mainGlobals mg->FnOk l.prog w (K w.params) mg base (CX w) k fa fd [x] (sp w))
   (hsp:∀(w:World) (H:Hp) (a:Addr) (ns:List Int),ns.length<=n->(∀n∈ns,Builtin.Int.intBits n<=1048576)->zLZ H->SqL (K w.params) H a (ns.map V.int)->sp w [.ref a] H (fun v _=>v = .bl true) fun _ _ _=>False)
   (hCX:∀(w:World) (H:Hp) (s:Shared) (e:Value) (s':Shared),CX w [] H s (fun _ _ _=>False) e s'->False) :
   PySem.W.WalkO q loose XP YP l.row.toRowW d [] (fun f vs=>PySem.call f vs):=by
 refine Att.attach_bits hn hdf fun w s₀ s₁ mg mb fa o pm cd doc a vs ns G Y ho hd hcd hmg hobj hints hlen hbits hg=>?_
 have KX:=hY w _ Y
 obtain⟨fd,hb,hF⟩:=F w mg fa _ KX G.T.g hmg
 exact zOV KX G.T.g G.T.b G.T.builtins G.T.nolimit hg hobj hints (Wi hlen hn2) hr hF hb (fun H hO hS=>hsp w H a ns hlen hbits hO hS) fun H e s'=>hCX w H s₁ e s'
section
variable {X:Cx} {a b c e:Expr} {fa fb fc:Ef} {pos:Pos}
theorem zX2 {op op':CmpOp}{g g':D->D->Option Bool}(hc1:CmR X op g)(hc2:CmR X op' g')(ha:PF X a fa)(hb:PF X b fb)(hc:PF X c fc)(hm:lastMarks [op,op'] [b,c]=false:=by with_unfolding_all rfl):PFT X (.Compare a [op,op'] [b,c] pos) (eB3 g g' fa fb fc):=by
 obtain⟨r,ho,hr⟩:=hc1
 obtain⟨r',ho',hr'⟩:=hc2
 refine PT.to (zQ0 ho ho' ha hb hc hm) ?_
 rintro σ H Q ⟨G0,H0,G,ρ,b',good,hf2,k⟩
 unfold eB3 at hf2
 obtain⟨x,h1,hf2⟩:=Qq.mp hf2
 obtain⟨y,h2,hf2⟩:=Qq.mp hf2
 obtain⟨kk,h3,hf2⟩:=Qq.mp hf2
 refine⟨G0,H0,G,ρ,_,good,h1,fun u H1 G1 s1 r1=>⟨G0,H0,G1,ρ,_,good.step s1,h2,fun v H2 G2 s2 r2=>?_⟩⟩
 refine hr x y kk G2 H2 u v _ h3 s2.sub (r1.mono s2.gg) r2 fun H3 G3 s3=>⟨kk,rfl,?_⟩
 split at hf2
 · rename_i hk
   rw[Qx hk]
   obtain⟨z,h4,hf3⟩:=Qq.mp hf2
   refine⟨G0,H0,G3,ρ,_,((good.step s1).step s2).step s3,h4,fun w' H4 G4 s4 r4=>?_⟩
   exact hr' y z b' G4 H4 v w' _ hf3 s4.sub ((r2.mono s3.gg).mono s4.gg) r4 fun H5 G5 s5=>⟨b',rfl,k _ G5 ((((s1.trans s2).trans s3).trans s4).trans s5)⟩
 · rename_i hk
   rw[Wy hk];cases hf2
   exact⟨false,rfl,k _ G3 ((s1.trans s2).trans s3)⟩
end
section
variable {X:Cx} {e:Expr} {es:List Expr} {fa:Ef} {p q:List B->Bool} {pos:Pos} {k:Nat}
end
section
variable {X:Cx} {a b c e:Expr} {es:List Expr} {fa:Ef} {pos p:Pos}
end
section
variable {X:Cx} {E:XK} {e:Expr} {es:List Expr} {fa:Ef} {p q:List B->Bool} {pos:Pos} {x:List B->Option Str}
end
section
variable {P:Program} {w:World} {K:PySem.W.Frag} {mg:Str->Option Value} {base:Heap} {N:List Str} {qual:Str} {scope:Scope} {f:Addr} {cd:Value} {A:Around} {outer:List Env} {s₀:Shared} {H₀:Hp} {E:XK}
theorem zKn {X:Cx}:∀e s,¬X.nox.xe e s:=fun _ _ z=>z
end
section
variable {X:Cx} {E:XK} {a e:Expr} {es:List Expr} {ga:Lf} {tt:Tf} {x xa xb:List B->Option Str} {pos p cpos:Pos} {st st':Stmt} {sts rest:List Stmt}
def ExOk (K:PySem.W.Frag)(Y:Addr):List Str->Prop
 | []=>True
 | c::r=>(∃C,ClsAt K c C/\PySem.W.exmOne K (.ref C) (.ref Y)=some true)/\ExOk K Y r
theorem ExOk.at {K:PySem.W.Frag}{Y:Addr}:∀ {cs:List Str} {c:Str},ExOk K Y cs->cs.contains c=true->∃C,ClsAt K c C/\PySem.W.exmOne K (.ref C) (.ref Y)=some true
 | [],c,_,h=>by cases h
 | n::r,c,⟨h1,h2⟩,h=>by
   rw[Rz,Tj] at h
   rcases h with h | h
   · have e:=Tq.mp h
     subst e
     exact h1
   · exact h2.at h
end
section
variable {P:Program} {w:World} {K:PySem.W.Frag} {mg:Str->Option Value} {base:Heap} {x qual:Str} {st:Stmt} {f:Addr} {fd:FuncData} {N ps:List Str} {k:Nat}
theorem PFSs.nox {X:Cx}{sts:List Stmt}{g:Sf}(h:PFSs X.nox sts g):PFSs X sts g:=fun pins s σ H D I hw =>
 Rp (h pins s σ H D (I.wish _) hw) (fun _ _ q=>q.unwish) fun _ _ z=>False.elim z
end
structure FlyV (h:Heap)(H:Hp)(h0:Heap)(C a:Addr)(od:Option Addr):Prop where
 ob:∃vs v,h.get? a=some { cls:=.ref C,dict:=od,data:=.fields vs,slots:=#[] }/\vs[1]?=some v/\zW3 h a v/\∀T,v = .ref T->H T=none/\h0.get? T=none
 tr:H a=some (.ext (Xe C a od))
 new:h0.get? a=none
def CXv (P:Program)(w:World):CXT:=fun outer H s E e s'=>∃C a od H',e = .ref a/\s'.os=s.os/\AllBare s'.gens/\Un (frs outer) [] H H' s.heap s'.heap/\HOk P w H' s'.heap/\FlyV s'.heap H' s.heap C a od/\E (.ref a) none H'
section
variable {P:Program} {w:World} {K:PySem.W.Frag} {mg:Str->Option Value} {base:Heap} {N:List Str} {qual:Str} {scope:Scope} {f:Addr} {cd:Value} {A:Around} {outer:List Env} {s₀ s:Shared} {H₀ H:Hp} {E:XK} {pins:List (Addr×Obj)} {σ:St} {C a:Addr} {od:Option Addr}
theorem zTB {h:Heap}{vs:Array Value}(e:h.get? a=some { cls:=.ref C,dict:=od,data:=.fields vs,slots:=#[] }):ObjOk P w H h a (.ext (Xe C a od)):=by
 exact⟨⟨vs,e⟩,⟨_,e⟩,fun h1 h2 x k=>Xe.mono h1 h2 x k⟩
theorem zQS (I:Inv (kX (CXv P w) P w K mg base N qual scope f cd A outer s₀ H₀ E) pins σ H s)(fl:FlyV s.heap H s₀.heap C a od)(hE:E (.ref a) none H) :
   (kX (CXv P w) P w K mg base N qual scope f cd A outer s₀ H₀ E).xe (.ref a) s:=by
 obtain⟨vs,v,ho,hv,hh,hT⟩:=fl.ob
 have hfr:=I.ok.frames
 have hst:=I.stack
 have hfree:=I.stkFree
 show wpAny (model P w) (A.deeper (envOfC qual scope s₀.heap.objs.size f cd)) (leaving (envOfC qual scope s₀.heap.objs.size f cd) (.ref a)) _ _ s
 refine zVy (base:=base) hfr hst rfl ho hv hh fun h' fw=>?_
 have old:∀b o,s₀.heap.get? b=some o->b≠a/\some (Value.ref b)≠vs[1]?/\b≠s₀.heap.objs.size:=fun b o q=>by
   refine⟨fun z=>?_,fun z=>?_,fun z=>Ww _ (z ▸ Qy q)⟩
   · rw[z,fl.new] at q;cases q
   · rw[hv] at z
     have:=(hT b (Wp z).symm).2
     rw[this] at q;cases q
 have inF:∀b,b∈frs (envOfC qual scope s₀.heap.objs.size f cd::outer)↔b=s₀.heap.objs.size∨b∈frs outer:=fun b=>by
   show b∈List.filterMap (·.frame) (_::outer)↔_
   rw[Yw]
   show b∈s₀.heap.objs.size::frs outer↔_
   exact Qz
 have U:=I.base
 refine⟨C,a,od,H,rfl,I.os,I.bare,⟨fun b o q n hb hx=>?_,fun b o q n hb hx=>?_,fun b o q n hx=>U.free b o q n hx,fun b o q hx=>?_,U.tups,U.frzs,U.tbls⟩,fun b o q=>?_,⟨⟨_,_,fw.obj,by rw[Ir (Rf.mp hv).1],.inr ?_,fun T z=>?_⟩,fl.tr,fl.new⟩,hE⟩
 · obtain⟨n1,n2,n3⟩:=old b o q
   exact fw.keep b o (U.keep b o q n hb hx) n1 (fun z=>((inF b).mp z).elim n3 hb) n2
 · obtain⟨n1,n2,n3⟩:=old b o q
   obtain⟨z,q1⟩:=U.slot b o q n hb hx
   obtain⟨z',q2⟩:=fw.slot b _ q1 n1 ((inF b).mpr (.inr hb)) n2
   exact⟨z',q2⟩
 · obtain⟨n1,n2,n3⟩:=old b o q
   obtain⟨o1,q1⟩:=U.there b o q hx
   by_cases hb:b∈frs (envOfC qual scope s₀.heap.objs.size f cd::outer)
   · obtain⟨z,q2⟩:=fw.slot b o1 q1 n1 hb n2
     exact⟨_,q2⟩
   · exact⟨o1,fw.keep b o1 q1 n1 hb n2⟩
 · by_cases hba:b=a
   · subst hba
     rw[fl.tr] at q
     cases q
     exact zTB fw.obj
   refine(I.hok b o q).stay (fun b' u hb' q'=>?_) (fun _ z=>z) (fun _ _ z=>z)
   have tr:H b'≠none:=by
     rcases hb' with z | z
     · rw[z,q];exact fun y=>nomatch y
     · rw[z];exact fun y=>nomatch y
   refine fw.keep b' u q' (fun z=>?_) (fun z=>tr (hfree b' z)) fun z=>?_
   · rcases hb' with y | y
     · exact hba (y.symm.trans z)
     · rw[z,fl.tr] at y;cases y
   rw[hv] at z
   exact tr (hT b' (Wp z).symm).1
 · obtain⟨oT,ts,h1,h2,h3⟩:=fw.head
   exact⟨_,oT,ts,rfl,fw.ne,h1,h2,h3⟩
 · cases z
   refine⟨I.fresh,?_⟩
   cases y:s₀.heap.get? s.heap.objs.size with
   | none=>rfl
   | some o=>exact absurd (Qy y) (Nat.not_lt.mpr I.sz)
theorem zLa {E':XK}(h:∀(a:Addr) (H:Hp),E' (.ref a) none H->E (.ref a) none H):lV (CXv P w) (kX (CXv P w) P w K mg base N qual scope f cd A outer s₀ H₀ E) E':=by
 intro pins σ H s e s' I hx
 obtain⟨C,a,od,H',rfl,os,bare,un,hok,fl,he⟩:=hx
 have I':Inv (kX (CXv P w) P w K mg base N qual scope f cd A outer s₀ H₀ E) pins σ H' s':=I.call' (ch:=[]) os un hok bare (fun b z=>absurd z (by simp))
 obtain⟨vs,v,ho,hv,hh,hT⟩:=fl.ob
 have back:∀b,s.heap.get? b=none->s₀.heap.get? b=none:=fun b z=>by
   cases y:s₀.heap.get? b with
   | none=>rfl
   | some o =>
     obtain⟨o',q⟩:=I.base.there b o y (fun z=>nomatch (show b∈([]:List Addr) from z))
     rw[z] at q;cases q
 exact zQS I' ⟨⟨vs,v,ho,hv,hh,fun T z=>⟨(hT T z).1,back T (hT T z).2⟩⟩,fl.tr,back a fl.new⟩ (h a H' he)
end
def Xn (C a:Addr)(od:Option Addr):Heap->Prop:=fun h=>∃fs,h.get? a=some { cls:=.ref C,dict:=od,data:=.fields fs }/\fs[1]?=some .none
theorem Xn.mono {C a:Addr}{od:Option Addr}(h1 h2:Heap)(x:Xn C a od h1)(k:∀o,h1.get? a=some o->h2.get? a=some o):Xn C a od h2:=by
 obtain⟨f,e,q⟩:=x
 exact⟨f,k _ e,q⟩
section
variable {X:Cx} {a b c e tg elt iter:Expr} {es ifs:List Expr} {fa fb fc:Ef} {ga gb gi:Lf} {ta tc:Tf} {pos p:Pos} {st:Stmt}
def zMN (H:Hp)(a C:Addr)(f:Str)(y:V)(R:Hp->Prop):Option Addr->Prop
 | none=>∀dx,H dx=none->dx≠a->R (upd (upd H dx (.ext (Xd dx [(f,y)]))) a (.ext (Xn C a (some dx))))
 | some dx=>dx≠a/\∃fs,H dx=some (.ext (Xd dx fs))/\fs.length < 1000/\R (upd H dx (.ext (Xd dx (mV f y fs))))
def zKx (K:PySem.W.Frag)(ta tv:TE)(f:Str):TS:=fun D σ H=>tv σ H fun y H1=>ta σ H1 fun x H2=>∃a C od,x = .ref a/\H2 a=some (.ext (Xn C a od))/\XSt K C/\NoAttr K C f/\zMN H2 a C f y (fun H3=>D.nx σ H3) od
theorem zO1 {pins:List (Addr×Obj)}{σ:St}{H:Hp}{s:Shared}{a C:Addr}{od:Option Addr}{f:Str}{y:V}{u:Value}{A:Around}{E:Value->Shared->Prop}{R:Hp->Prop}{Q:Unit->Shared->Prop}(I:Inv X pins σ H s)(e:H a=some (.ext (Xn C a od)))(k:XSt X.K C)(n:NoAttr X.K C f)(ry:RelV y u)
   (h:zMN H a C f y R od)
   (hq:∀H' s',Inv X pins σ H' s'->R H'->Q () s'):wpAny (model X.prog X.w) A (setAttr (.ref a) f u) Q E s:=by
 obtain⟨⟨g,h2,hg1⟩,_⟩:=(show ObjOk X.prog X.w H s.heap a (.ext _) from I.hok a _ e)
 obtain⟨nm,q,N,bs,bm,sn,sub,ab,col,dd,k0,k1,k2,k3,k5,hk,hr⟩:=k.ob
 cases od with
 | none =>
   have sz:s.heap.objs.size<=s.heap.objs.size:=Qk _
   have fr:H s.heap.objs.size=none:=I.hok.fresh sz
   have hne:s.heap.objs.size≠a:=(yJ e fr).symm
   have hR:=h _ fr hne
   obtain⟨hh,g',d',t',os'⟩:=s
   refine zS8 I.kIn h2 rfl k.sa k.kit.so fun A'=>zPs I.kIn (I.kIn _ _ hk) hr n h2 rfl (fun c z=>nomatch z) rfl fun h' tk' e1 e2 e3=>⟨h',tk',rfl,rfl,?_⟩
   obtain⟨oD,eD⟩:∃o,h'.get? hh.objs.size=some o:=let ⟨o,_,_,e',_⟩:=e2;⟨o,e'⟩
   have pD:(hh.push oD).get? hh.objs.size=some oD:=Qa hh (Ui.mp eD).2
   have rel:∀f',RelO ([(f,y)].lookup f') (if f'=f then some u else none):=fun f'=>by
     by_cases z:f'=f
     · subst z;rw[Qx rfl,Er,Tb];exact ry
     · rw[Wy z,Er,Ei.mpr z];exact True.intro
   have I1:=I.laid (a:=hh.objs.size) (o:=.ext (Xd hh.objs.size [(f,y)])) (h':=hh.push oD) (t':=tk') (fun b v z=>Qe _ z) sz
     ⟨⟨_,e2.at fun o z=>by rw[eD] at z;cases z;exact pD,rel⟩,⟨_,pD⟩,Xd.mono⟩
   have ea:upd H hh.objs.size (.ext (Xd hh.objs.size [(f,y)])) a=some (.ext (Xn C a none)):=by rw[yP hne.symm];exact e
   have I2:=I1.write (x:=a) (e:=a) (o:=.ext (Xn C a (some hh.objs.size))) (h':=h') (t':=tk') (by rw[ea];exact True.intro) (.inl rfl) (fun b v hb z=>by
     by_cases hs:b=hh.objs.size
     · subst hs
       have z:(hh.push oD).get? hh.objs.size=some v:=z
       rw[pD] at z;cases z;exact eD
     · have z:(hh.push oD).get? b=some v:=z
       refine e3 b v hb ?_
       obtain⟨z1,z2⟩:=Ui.mp z
       have hlt:b < hh.objs.size:=by
         have q:=Qy z
         rw[Ek] at q
         exact Nat.lt_of_le_of_ne (Nat.le_of_lt_succ q) hs
       refine Ui.mpr ⟨?_,z2⟩
       rw[←z1]
       cases hh
       simp[Heap.push,Array.getElem?_push_lt,hlt,Array.getElem?_push,We hlt]) ⟨_,e1⟩ ⟨⟨_,e1,hg1⟩,⟨_,e1⟩,Xn.mono⟩
   exact hq _ _ I2 hR
 | some dx =>
   obtain⟨hne,fs,ed,hl,hR⟩:=h
   obtain⟨⟨mA,h3,r⟩,_⟩:=(show ObjOk X.prog X.w H s.heap dx (.ext _) from I.hok dx _ ed)
   have hw:PySem.Within mA (fs.map (·.1)):=fun z hz=>zZH fun q=>hz (RelO.none_of (by rw[←q];exact r z))
   obtain⟨hh,g',d',t',os'⟩:=s
   refine zS8 I.kIn h2 rfl k.sa k.kit.so fun A'=>zNx I.kIn (I.kIn _ _ hk) hr n h2 rfl rfl hne h3 hw (by rw[Qg];omega) fun h' tk' e2 e3=>⟨h',tk',rfl,rfl,?_⟩
   obtain⟨oD,eD⟩:∃o,h'.get? dx=some o:=let ⟨o,_,_,e',_⟩:=e2;⟨o,e'⟩
   refine hq _ _ (I.write (x:=dx) (e:=dx) (o:=.ext (Xd dx (mV f y fs))) (h':=h') (t':=tk') (by rw[ed];exact True.intro) (.inl rfl) e3 ⟨_,eD⟩ ⟨⟨_,e2,fun f'=>?_⟩,⟨_,eD⟩,Xd.mono⟩) hR
   rw[jT]
   by_cases z:f'=f
   · rw[Qx z,Qx z];exact ry
   · rw[Wy z,Wy z];exact r f'
theorem zQK {o value:Expr}{f:Str}{ta tv:TE}{pos':Pos}(ha:PE X o ta)(hv:PE X value tv)(hs:swapsWith value (some (.Attribute o f pos')) pos.line X.env=pure false):PS X (.Assign [.Attribute o f pos'] value pos) (zKx X.K ta tv f):=by
 intro pins s σ H D I h
 refine Op (thn (hv pins s σ H _ I h) fun u s1 ⟨y,H1,I1,ry,q⟩=>thn (ha pins s1 σ H1 _ I1 q) fun ov s2 ⟨x,H2,I2,rx,a,C,od,ex,ea,c,n,q2⟩=>?_) hs
 subst ex
 obtain rfl:ov=Value.ref a:=rx
 exact zO1 (R:=fun H3=>D.nx σ H3) I2 ea c n ry q2 fun H3 s3 I3 q3=>⟨σ,_,I3,q3⟩
def zTh (K:PySem.W.Frag)(C:Addr)(ns:List Str)(g:Lf):TS:=fun DD σ H=>∃(G0 H0 G:Hp) (ρ:List B) (p:Addr) (od:Option Addr) (pre:List Str) (us:List V) (xs ds:List D),
 Good K G0 H0 G H σ ρ/\zZJ ρ/\σ[0]?=some (some (.ref p))/\H p=some (.ext (Xn C p od))/\G p=none/\H0 p=none/\XW H G H0 p od (pre.zip us)/\pre.length=us.length/\(pre++ns).Nodup/\(pre++ns).length<=900/\Reps K G xs us/\g ρ=some ds /\
 ∀H' G' vs od',Step G0 H0 G' H'->H' p=some (.ext (Xn C p od'))->G' p=none->XW H' G' H0 p od' ((pre++ns).zip vs)->Reps K G' (xs++ds) vs->DD.nx σ H'
theorem zQt {C:Addr}:PSs X [] (zTh X.K C [] zR):=by
 intro pins s σ H D I h
 refine zW6 pins s σ H D I ?_
 obtain⟨G0,H0,G,ρ,p,od,pre,us,xs,ds,good,now,hs,hp,gp,h0,xw,hl,nd,hz,rs,hg,k⟩:=h
 cases hg
 rw[Wa] at k
 exact k H G us od good.st hp gp xw (by rw[Wa];exact rs)
theorem bU {C:Addr}{f x:Str}{ns:List Str}{g:Lf}{rest:List Stmt}{pos' p1:Pos}(hcl:XSt X.K C)(hn:NoAttr X.K C f)(hself:X.N[0]?=some x)(hvis:Vis X.env.scope x)(he:PF X e fa)(hr:PSs X rest (zTh X.K C ns g))(hd:(x==("__debug__":Str))=false:=by decide)(hcd:(x==("__classdict__":Str))=false:=by decide)
   (hs:swapsWith e (some (.Attribute (.Name x p1) f pos')) pos.line X.env=pure false:=by rfl):PSs X (.Assign [.Attribute (.Name x p1) f pos'] e pos::rest) (zTh X.K C (f::ns) (zY fa g)):=by
 intro pins s σ H D I h
 refine kB (zQK (oY hself hvis hd hcd) he hs) hr pins s σ H D I ?_
 obtain⟨G0,H0,G,ρ,p,od,pre,us,xs,ds,good,now,hself,hp,gp,h0,xw,hl,nd,hz,rs,hg,k⟩:=h
 obtain⟨d,dr,h1,h2,rfl⟩:=dB hg
 have hlp:pre.length < 1000:=by rw[Qb] at hz;omega
 have hnp:f∉pre:=fun z=>(Yh.mp nd).2.2 f z f Qh rfl
 have e1:pre++f::ns=(pre++[f])++ns:=by simp
 refine⟨G0,H0,G,ρ,d,good,h1,fun v H1 G1 s1 r1=>⟨.ref p,hself,p,C,od,rfl,s1.hh _ _ hp,hcl,hn,?_⟩⟩
 have hne:H p≠none:=by rw[hp];exact fun z=>nomatch z
 have gp1:G1 p=none:=(s1.new p hne).trans gp
 have good1:=good.step s1
 have fin:∀H' G' vs od',Step G0 H0 G' H'->H' p=some (.ext (Xn C p od'))->G' p=none->XW H' G' H0 p od' (((pre++[f])++ns).zip vs)->Reps X.K G' ((xs++[d])++dr) vs->D.nx σ H':=fun H' G' vs od' st q1 q2 q3 q4=>by
   refine k H' G' vs od' st q1 q2 (by rw[e1];exact q3) ?_
   rw[show xs++d::dr=(xs++[d])++dr by simp]
   exact q4
 cases od with
 | none =>
   intro dx hdx hdp
   have hg1:G1 dx=none:=good1.sub.free hdx
   have hh0:H0 dx=none:=good1.st.hh.free hdx
   have ez:pre=[]/\us=[]:=by
     have z:pre.zip us=[]:=xw
     cases pre with
     | nil=>cases us with
       | nil=>exact⟨rfl,rfl⟩
       | cons _ _=>cases hl
     | cons _ _=>cases us with
       | nil=>cases hl
       | cons _ _=>cases z
   obtain⟨rfl,rfl⟩:=ez
   refine⟨G0,H0,G1,ρ,p,some dx,[]++[f],[]++[v],xs++[d],dr,(good1.wrX now hg1 hh0).wrX now gp1 h0,now,hself,zE,gp1,h0,⟨by rw[yP hdp,zE];rfl,hg1,hh0,hdp⟩,rfl,by rw[←e1];exact nd,by rw[←e1];exact hz,(rs.mono s1.gg).snoc r1,h2,fin⟩
 | some dx =>
   obtain⟨x1,x2,x3,x4⟩:=xw
   have hned:H dx≠none:=by rw[x1];exact fun z=>nomatch z
   have gd1:G1 dx=none:=(s1.new dx hned).trans x2
   refine⟨x4,pre.zip us,s1.hh _ _ x1,by rw[List.length_zip];omega,?_⟩
   refine⟨G0,H0,G1,ρ,p,some dx,pre++[f],us++[v],xs++[d],dr,good1.wrX now gd1 x3,now,hself,by rw[yP x4.symm];exact s1.hh _ _ hp,gp1,h0,⟨by rw[zE,zZa hl hnp],gd1,x3,x4⟩,by rw[Qb,Qb,hl];rfl,by rw[←e1];exact nd,by rw[←e1];exact hz,(rs.mono s1.gg).snoc r1,h2,fin⟩
end
def spN (K:PySem.W.Frag)(C:Addr)(ns:List Str)(n:Nat)(f:List D->Option (List D)):Sp:=fun vs H Q _=>∃(p:Addr) (rest:List V) (G H0:Hp) (ds xs:List D),vs = .ref p::rest/\H=upd H0 p (.ext (Xn C p none))/\H0 p=none/\Same G H0/\Reps K G ds rest/\ds.length=n/\f ds=some xs /\
 ∀H' G' us od',Step G H0 G' H'->H' p=some (.ext (Xn C p od'))->G' p=none->XW H' G' H0 p od' (ns.zip us)->Reps K G' xs us->Q .non H'
section
variable {P:Program} {w:World} {K:PySem.W.Frag} {mg:Str->Option Value} {base:Heap} {x qual:Str} {st:Stmt} {f C:Addr} {fd:FuncData} {N ps ns:List Str} {k:Nat} {sf:Str}
theorem zPW {g:Lf}(F:Fun K x qual st f fd)(S:FnScope N (sf::ps) (zU st))(hnd:ns.Nodup)(hlen:ns.length<=900)
   (hb:∀(cdv:Value) (A:Around) (outer:List Env) (s:Shared) (H:Hp) (E:XK),Room k (A.deeper (envOfC qual (zU st) s.heap.objs.size f cdv))->PSs (kX CX0 P w K mg base N qual (zU st) f cdv A outer s H E).nox (zI st) (zTh K C ns g)) :
   FnOk P w K mg base CX0 (k+1) f fd (sf::ps) (spN K C ns ps.length fun ds=>g (lX N.length ds)):=by
 refine F.ok S (fun vs H Q E h=>?_) (fun cdv A outer s H vs Q E hr h=>⟨_,hb cdv A outer s H E hr,?_⟩)
 · obtain⟨p,rest,G,H0,ds,xs,rfl,_,_,_,rs,hl,_⟩:=h
   rw[Qi,Qi,←rs.length,hl]
 · obtain⟨p,rest,G,H0,ds,xs,rfl,rfl,h1,sub,rs,hl,hf,k⟩:=h
   have st2:Step G H0 G (upd H0 p (.ext (Xn C p none))):=Step.own sub h1
   have good:Good K G H0 G (upd H0 p (.ext (Xn C p none))) (oG N (.ref p::rest)) (lX N.length ds):=by
     refine⟨st2,?_,fun i j a es es' q1=>absurd q1 ((zZY _ ds).1 i es)⟩
     unfold oG lX
     rw[Qj,Qi,Ep,←rs.length]
     exact .cons .no (cM _ rs)
   refine⟨G,H0,G,_,p,none,[],[],[],xs,good,zZY _ ds,rfl,zE,sub.free h1,h1,rfl,rfl,hnd,hlen,yQ.mpr rfl,hf,fun H' G' us od' s' q1 q2 q3 q4=>k H' G' us od' s' q1 q2 q3 q4⟩
end
section
variable {X:Cx}
theorem zRE {CX:CXT}{k:Nat}{f C:Addr}{fd:FuncData}{ps:List Str}{sp:Sp}{E:XK}{pins:List (Addr×Obj)}{σ:St}{H:Hp}{s:Shared}{Q:VK}{us:List Value}{vs:List V}(M:XMk X.K C f)(F:FnOk X.prog X.w X.K X.mg X.base CX k f fd ps sp)(hr:Room (k+1) X.A)(hb:Binds X.K fd ps [])
   (hx:lV CX X E) (I:Inv X pins σ H s) (r:Vals vs us) (hlen:vs.length<=1000)
   (h:∀x,H x=none->s.heap.get? x=none->sp (.ref x::vs) (upd H x (.ext (Xn C x none))) (fun v H2=>v = .non/\Q (.ref x) H2) E) :
   wpAny (model X.prog X.w) X.A (call (.ref C) us) (EP X pins σ Q) X.xe s:=by
 have nw:s.heap.get? (s.heap.objs.size+1)=none:=by
   cases y:s.heap.get? (s.heap.objs.size+1) with
   | none=>rfl
   | some o=>exact absurd (Qy y) (Nat.not_lt.mpr (Td _))
 have hq:=h (s.heap.objs.size+1) (I.hok.fresh (Td _)) nw
 obtain⟨nm,q,N,bs,bm,sn,sub,ab,col,dd,k0,k1,k2,k3,k5,hk,hrf⟩:=M.ob
 obtain⟨oI,hoI,hfc⟩:=zQi I.kIn M.fn
 have hsl:1001<=sizeLine:=Wd (wK (by decide))
 have hl0:=r.length
 have I2:Inv X pins σ (upd H (s.heap.objs.size+1) (.ext (Xn C (s.heap.objs.size+1) none))) { s with heap:=(s.heap.push { cls:=.type "tuple",data:=.seq us.toArray }).push { cls:=.ref C,data:=.fields #[.ref s.heap.objs.size,.none,.none,.none,.bool false,.none] } }:=by
   have e2:((s.heap.push { cls:=.type "tuple",data:=.seq us.toArray }).push { cls:=.ref C,data:=.fields #[.ref s.heap.objs.size,.none,.none,.none,.bool false,.none] }).get? (s.heap.objs.size+1)=some { cls:=.ref C,data:=.fields #[.ref s.heap.objs.size,.none,.none,.none,.bool false,.none] }:=by
     have:=Qa (s.heap.push { cls:=.type "tuple",data:=.seq us.toArray }) (o:={ cls:=.ref C,data:=.fields #[.ref s.heap.objs.size,.none,.none,.none,.bool false,.none] }) rfl
     rwa[Ek] at this
   exact I.laid (t':=s.toks) (fun b u z=>Qe _ (Qe _ z)) (Td _) ⟨⟨_,e2,rfl⟩,⟨_,e2⟩,Xn.mono⟩
 have r2:Vals (V.ref (s.heap.objs.size+1)::vs) (Value.ref (s.heap.objs.size+1)::us):=.cons rfl r
 have hl:(Value.ref (s.heap.objs.size+1)::us++[]).length=ps.length:=by
   rw[Wa,←r2.length,F.len _ _ _ _ hq]
 have hbt:=hb _ (Value.ref (s.heap.objs.size+1)::us) I2.kIn hl
 rw[Wa] at hbt
 have hb1:bm.contains (.type "ValueError")=true:=by rw[sV _ (fun a z=>by cases z) hrf];decide
 have hb2:bm.contains (.type "AttributeError")=false:=by rw[sV _ (fun a z=>by cases z) hrf];decide
 have hb3:bm.contains (.type "NameError")=false:=by rw[sV _ (fun a z=>by cases z) hrf];decide
 have run:=F.run _ X.stack _ _ ⟨Value.ref (s.heap.objs.size+1)::us,[]⟩ (Value.ref (s.heap.objs.size+1)::us) _ _ E (hr.make C us []) (I2.env0.make C us []) hbt r2 hq
 have fin:wpAny (model X.prog X.w) (X.A.under (.builtin "type.__call__" ⟨.ref C::us,[]⟩)) (call (.ref f) (.ref (s.heap.objs.size+1)::us)) (fun r s'=>r = .none/\EP X pins σ Q (.ref (s.heap.objs.size+1)) s') X.xe { s with heap:=(s.heap.push { cls:=.type "tuple",data:=.seq us.toArray }).push { cls:=.ref C,data:=.fields #[.ref s.heap.objs.size,.none,.none,.none,.bool false,.none] } }:=by
   refine Ig (Ut run fun r s' hq'=>?_)
   cases r with
   | error e=>exact hx pins σ _ _ e s' I2 hq'
   | ok fl =>
     cases fl with
     | ret u =>
       obtain⟨v,H',I3,rv,ev,q3⟩:=I2.after hq'
       subst ev
       exact⟨rv,⟨V.ref (s.heap.objs.size+1),H',I3,rfl,q3⟩⟩
     | next=>exact False.elim hq'
     | brk=>exact False.elim hq'
     | cont=>exact False.elim hq'
 obtain⟨hh,g',d',t',os'⟩:=s
 exact zNJ I.kIn (I.kIn _ _ hk) hb1 hb2 hb3 M.init hoI hfc (by omega) fin
end
theorem Step.wrV {G H G' H':Hp}{p:Addr}{o:HO}(s:Step G H G' H')(hp:H p=none)(g':G' p=none):Step G H G' (upd H' p o) :=
 ⟨fun b u e=>by rw[yP (yJ e hp)];exact s.hh b u e,s.gg,fun b u e=>by rw[yP (yJ e g')];exact s.sub b u e,s.new⟩
def zS2 (X:Cx)(E:XK):Prop:=∀(pins:List (Addr×Obj)) (σ:St) (H:Hp) (s:Shared) (C a:Addr) (od:Option Addr),Inv X pins σ H s->FlyV s.heap H X.s₀.heap C a od->E (.ref a) none H->X.xe (.ref a) s
section
variable {P:Program} {w:World} {K:PySem.W.Frag} {mg:Str->Option Value} {base:Heap} {N:List Str} {qual:Str} {scope:Scope} {f:Addr} {cd:Value} {A:Around} {outer:List Env} {s₀:Shared} {H₀:Hp} {E:XK}
theorem zOu:zS2 (kX (CXv P w) P w K mg base N qual scope f cd A outer s₀ H₀ E) E:=fun pins σ H s C a od I fl hE=>zQS I fl hE
theorem zNy:lV (CXv P w) (kX (CXv P w) P w K mg base N qual scope f cd A outer s₀ H₀ E) E:=zLa fun _ _ h=>h
end
section
variable {M:Model} {A:Around} {E:Value->Shared->Prop} {s:Shared} {env:Env} {nm q:Str} {C N:Addr} {bs bm:List Value} {hdct:Bool} {sn:List Str} {sub:List Value} {ab:Bool} {col:Option Bool} {dd:Option Addr} {k0 k1 k2 k3 k5:Option Value} {newId:String}
theorem zSf {x:Sem Value}{Q:Flow->Shared->Prop}(hbase:bm.contains (.type "BaseException")=true)(hh:A.handled=none)
   (h:wpAny M A x (fun v s₁=>∃e od fs,v = .ref e/\s₁.heap.get? C=some (excClassObj nm q C N bs bm hdct sn sub ab col dd k0 k1 k2 k3 k5 newId) /\
     s₁.heap.get? e=some { cls:=.ref C,dict:=od,data:=.fields fs }/\fs[1]?=some .none/\E (.ref e) s₁) E s) :
   wpAny M A (raiseStmt env (some x) none) Q E s:=by
 have hcB:(Value.ref C::bm).contains (.type "BaseException")=true:=by rw[Rz,hbase,Bool.or_true]
 unfold raiseStmt
 refine Qw (Rp h (fun v s₁ h₁=>?_) fun _ _ x=>x)
 obtain⟨e,od,fs,rfl,hC,he,hf,hE⟩:=h₁
 obtain⟨hp,g,d,tk,os⟩:=s₁
 repeat (first | with_reducible refine Wb he rfl hf ?_ | with_reducible refine Ws he ?_ | with_reducible refine Ws hC ?_ | (with_reducible refine Ym hC ?_;rw[hcB]) | wp_step)
 exact wpAny_raiseNew_none hh hE
end
def tVS (K:PySem.W.Frag)(E:XK)(x:Ef):TS:=fun _ σ H=>∃G0 H0 G ρ t,Good K G0 H0 G H σ ρ/\x ρ=some t/\∀a H' G',Step G0 H0 G' H'->Rep K G' t (.ref a)->E (.ref a) none H'
def PVS (X:Cx)(E:XK)(st:Stmt)(x:Ef):Prop:=PS X st (tVS X.K E x)
def zT6 (X:Cx)(E:XK)(sts:List Stmt)(x:Ef):Prop:=PSs X sts (tVS X.K E x)
def tVE (K:PySem.W.Frag)(E:XK)(x:Ef):TE:=fun σ H _=>∃G0 H0 G ρ t,Good K G0 H0 G H σ ρ/\x ρ=some t/\∀a H' G',Step G0 H0 G' H'->Rep K G' t (.ref a)->E (.ref a) none H'
def PVE (X:Cx)(E:XK)(e:Expr)(x:Ef):Prop:=PE X e (tVE X.K E x)
def spV (K:PySem.W.Frag)(n:Nat)(d:List D->Option D)(x:List D->Option D):Sp:=fun vs H Q E=>∃G ds,Same G H/\Reps K G ds vs/\ds.length=n /\
 ((∃r,d ds=some r/\∀v H' G',Step G H G' H'->Rep K G' r v->Q v H')∨∃t,x ds=some t/\∀a H' G',Step G H G' H'->Rep K G' t (.ref a)->E (.ref a) none H')
def zZp:Ef:=fun _=>none
def vIf (tt:Tf)(xa xb:Ef):Ef:=fun ρ=>(tt ρ).bind fun c=>if c=true then xa ρ else xb ρ
def zXT (x:Ef)(f:Sf)(y:Ef):Ef:=fun ρ=>match x ρ with
 | some t=>some t
 | none=>(f ρ).bind fun o=>match o with | .nx ρ'=>y ρ' | _=>none
def fnV (n:Nat)(x:Ef):List D->Option D:=fun ds=>x (sN n ds)
section
variable {X:Cx} {E:XK} {a b e:Expr} {es:List Expr} {ga:Lf} {tt:Tf} {f:Sf} {x y xa xb:Ef} {pos p cpos:Pos} {st:Stmt} {sts rest:List Stmt}
theorem zQ7 {k n:Nat}{C fI:Addr}{fd:FuncData}{ps ns:List Str}{c:Str}{f:List D->Option (List D)}(hC:ClsAt X.K c C)(M:XMk X.K C fI)(F:FnOk X.prog X.w X.K X.mg X.base CX0 k fI fd ps (spN X.K C ns n f))(hx:X.ex=[])(hr:Room (k+1) X.A)(hm:X.mg c=some (.ref C))(hb:Binds X.K fd ps [])(hg:Gl X c)(hc:X.calm=true)(th:zS2 X E)(ha:PFA X (e::es) ga)
   (hdb:(c==("__debug__":Str))=false:=by decide) (he:starEach (e::es) X.env=(false,eval e X.env)::starEach es X.env:=by rfl) (hpl:(backTo cpos (starEach es X.env)).any (·.1)=false:=by rfl) :
   PVS X E (.Raise (some (.Call (.Name c p) (e::es) [] cpos)) none pos) (zTE c ns n f ga):=by
 intro pins s σ H D I h
 obtain⟨G0,H0,G,ρ,t,good,hf,kk⟩:=h
 unfold zTE at hf
 obtain⟨ds,h1,hf⟩:=Qq.mp hf
 split at hf
 · rename_i hl
   obtain⟨hl,hn1⟩:=hl
   obtain⟨xs,h2,hf⟩:=Qq.mp hf
   split at hf
   · rename_i hn
     cases hf
     obtain⟨nm,q,N,bs,bm,sn,sub,ab,col,dd,k0,k1,k2,k3,k5,hk,hrf⟩:=M.ob
     have hb1:bm.contains (.type "BaseException")=true:=by rw[sV _ (fun a z=>by cases z) hrf];decide
     rw[arm_exec_Raise]
     refine Qw (Ud (zSf (C:=C) (nm:=nm) (q:=q) (N:=N) (bs:=bs) (bm:=bm) (hdct:=true) (sn:=sn) (sub:=sub) (ab:=ab) (col:=col) (dd:=dd) (k0:=k0) (k1:=k1) (k2:=k2) (k3:=k3) (k5:=k5) (newId:="ValueError.__new__") hb1 (I.ok.hd hc) ?_))
     refine Qw (thn ?_ fun v s1 q=>Qw (Ud (Qo q)))
     refine Rh (iG I hg hm ?_ hdb)
     refine Uy (h₀:=X.base) I.ok.mod.kin M.kp (thn (ha cpos pins s σ H (fun vs H1=>∃G1,Step G H G1 H1/\Reps X.K G1 ds vs) I ⟨G0,H0,G,ρ,ds,good,h1,fun vs H1 G1 s1 r1=>⟨G1,s1,r1⟩⟩) fun us s1 ⟨vs,H1,I1,r,G1,st1,r1⟩=>⟨I1.kIn,?_⟩) he hpl
     rw[Eo]
     refine thn (zRE (E:=E0) (Q:=fun v H2=>∃x G' us od',v = .ref x/\H1 x=none/\s1.heap.get? x=none/\Step G1 H1 G' H2/\H2 x=some (.ext (Xn C x od'))/\G' x=none/\XW H2 G' H1 x od' (ns.zip us)/\Reps X.K G' xs us) M F hr hb zSP I1 r (by rw[←r1.length];omega) fun x hx nw=>⟨x,vs,G1,H1,ds,xs,rfl,rfl,hx,st1.sub,r1,hl,h2,fun H' G' us od' s' q1 q2 q3 q4=>⟨rfl,x,G',us,od',rfl,hx,nw,s',q1,q2,q3,q4⟩⟩) fun v s2 ⟨v',H2,I2,rv,x,G',us',od',ev,hx1,nw,s',q1,q2,q3,q4⟩=>?_
     subst ev
     obtain rfl:v=Value.ref x:=rv
     obtain⟨⟨fs,e,hf1⟩,_⟩:=(show ObjOk X.prog X.w H2 s2.heap x (.ext _) from I2.hok x _ q1)
     have I3:Inv X pins σ (upd H2 x (.ext (Xe C x od'))) s2:=I2.write (x:=x) (e:=x) (o:=.ext (Xe C x od')) (h':=s2.heap) (t':=s2.toks) (by rw[q1];exact True.intro) (.inl rfl) (fun b u _ z=>z) ⟨_,e⟩ (zTB e)
     refine⟨x,od',fs,rfl,I2.kIn _ _ hk,e,hf1,th pins σ _ s2 C x od' I3 ⟨⟨fs,_,e,hf1,.inl rfl,fun T z=>nomatch z⟩,zE,?_⟩ ?_⟩
     · cases z:X.s₀.heap.get? x with
       | none=>rfl
       | some o =>
         obtain⟨u,y⟩:=I1.base.there x o z (by rw[hx];simp)
         rw[nw] at y;cases y
     · have sw:Step G1 H1 G' (upd H2 x (.ext (Xe C x od'))):=s'.wrV hx1 q2
       cases od' with
       | none =>
         exact kk _ _ _ (good.st.trans (st1.trans (sw.frz hx1 zE q2))) (iY.mpr ⟨C,x,none,us',hC,rfl,zE,q3,hn,q4.mono (Same.new q2)⟩)
       | some dx =>
         obtain⟨y1,y2,y3,y4⟩:=q3
         have sa:=sw.frz y3 ((yP y4).trans y1) y2
         have gx:upd G' dx (.ext (Xd dx (ns.zip us'))) x=none:=by rw[yP y4.symm];exact q2
         have sb:=sa.frz hx1 zE gx
         refine kk _ _ _ (good.st.trans (st1.trans sb)) (iY.mpr ⟨C,x,some dx,us',hC,rfl,zE,?_,hn,(q4.mono (Same.new y2)).mono (Same.new gx)⟩)
         show upd (upd G' dx _) x _ dx=_
         rw[yP y4,zE]
   · cases hf
 · cases hf
theorem zKR (ht:PFT X a tt)(h1:zT6 X E sts xa)(h2:zT6 X E rest xb):PVS X E (.If a sts rest pos) (vIf tt xa xb):=by
 intro pins s σ H D I h
 obtain⟨G0,H0,G,ρ,t,good,hq,k⟩:=h
 obtain⟨v,hv,hq⟩:=Qq.mp hq
 refine zMQ ht h1 h2 pins s σ H D I ⟨G0,H0,G,ρ,v,good,hv,fun H1 G1 st=>?_⟩
 cases v with
 | true =>
   rw[Qx rfl] at hq
   exact⟨G0,H0,G1,ρ,t,good.step st,hq,k⟩
 | false =>
   rw[Wy (by decide)] at hq
   exact⟨G0,H0,G1,ρ,t,good.step st,hq,k⟩
theorem zXi:PVS X E st zZp:=fun pins s σ H D I h=>by
 obtain⟨_,_,_,_,_,_,z,_⟩:=h;cases z
theorem zWA (h:PVS X E st x):zT6 X E (st::rest) x:=by
 intro pins s σ H D I q
 refine kB (u:=fun _ _ _=>False) h (fun pins s σ H D I z=>z.elim) pins s σ H D I ?_
 exact q
theorem bW (h1:PVS X E st x)(hf:PFS X st f)(h2:zT6 X E rest y):zT6 X E (st::rest) (zXT x f y):=by
 intro pins s σ H D I q
 obtain⟨G0,H0,G,ρ,t,good,hq,k⟩:=q
 unfold zXT at hq
 split at hq
 · rename_i t' hx
   cases hq
   exact zWA h1 pins s σ H D I ⟨G0,H0,G,ρ,t,good,hx,k⟩
 · obtain⟨o,ho,hq⟩:=Qq.mp hq
   split at hq
   · rename_i ρ'
     exact kB hf h2 pins s σ H D I ⟨G0,H0,G,ρ,.nx ρ',good,ho,fun σ' H' G' sg g'=>⟨G0,H0,G',ρ',t,g',hq,k⟩⟩
   · cases hq
theorem zL6 (h:PVE X E e x):PVS X E (.Return (some e) pos) x:=fun pins s σ H D I q=>zXc h pins s σ H D I q
theorem zN3 {k n:Nat}{fad:Addr}{fd:FuncData}{ps:List Str}{y:Str}{d xf:List D->Option D}(F:FnOk X.prog X.w X.K X.mg X.base (CXv X.prog X.w) k fad fd ps (spV X.K n d xf))(hp:lV (CXv X.prog X.w) X E)(hr:Room k X.A)(hm:X.mg y=some (.ref fad))(hk:PySem.W.keepIn X.K (.ref fad)=true)(hb:Binds X.K fd ps [])(hg:Gl X y)
   (ha:PFA X (e::es) ga) (hdb:(y==("__debug__":Str))=false:=by decide) (he:starEach (e::es) X.env=(false,eval e X.env)::starEach es X.env:=by rfl) (hpl:(backTo pos (starEach es X.env)).any (·.1)=false:=by rfl) :
   PVE X E (.Call (.Name y p) (e::es) [] pos) (zL n xf ga):=by
 intro pins s σ H Q I h
 obtain⟨G0,H0,G,ρ,t,good,hq,k⟩:=h
 unfold zL at hq
 obtain⟨ds,h1,hq⟩:=Qq.mp hq
 split at hq
 · rename_i hl
   refine zZN (E:=E) F hr hg hm hk hb .nil hp ha hdb he hpl pins s σ H Q I ⟨G0,H0,G,ρ,_,good,h1,fun vs H1 G1 s1 r1=>?_⟩
   show spV X.K n d xf (vs++[]) H1 Q E
   rw[Wa]
   exact⟨G1,ds,s1.sub,r1,hl,.inr ⟨t,hq,fun a H' G' st r=>k a H' G' (good.st.trans (s1.trans st)) r⟩⟩
 · cases hq
theorem zYC {k n:Nat}{fad:Addr}{fd:FuncData}{ps:List Str}{y:Str}{d xf:List D->Option D}(F:FnOk X.prog X.w X.K X.mg X.base (CXv X.prog X.w) k fad fd ps (spV X.K n d xf))(hr:Room k X.A)(hm:X.mg y=some (.ref fad))(hk:PySem.W.keepIn X.K (.ref fad)=true)(hb:Binds X.K fd ps [])(hg:Gl X y)
   (ha:PFA X (e::es) ga) (hdb:(y==("__debug__":Str))=false:=by decide) (he:starEach (e::es) X.env=(false,eval e X.env)::starEach es X.env:=by rfl) (hpl:(backTo pos (starEach es X.env)).any (·.1)=false:=by rfl) :
   PF X (.Call (.Name y p) (e::es) [] pos) (zL n d ga):=by
 refine PE.to (zZN (E:=E0) F hr hg hm hk hb .nil (fun pins σ H s e s' I h=>by obtain⟨_,_,_,_,_,_,_,_,_,_,z⟩:=h;exact z.elim) ha hdb he hpl) ?_
 rintro σ H Q ⟨G0,H0,G,ρ,r,good,hf,k⟩
 unfold zL at hf
 obtain⟨ds,h1,hf⟩:=Qq.mp hf
 split at hf
 · rename_i hl
   refine⟨G0,H0,G,ρ,_,good,h1,fun vs H1 G1 s1 r1=>?_⟩
   show spV X.K n d xf (vs++[]) H1 Q E0
   rw[Wa]
   exact⟨G1,ds,s1.sub,r1,hl,.inl ⟨r,hf,fun v H' G' st rr=>k v H' G' (s1.trans st) rr⟩⟩
 · cases hf
end
section
variable {P:Program} {w:World} {K:PySem.W.Frag} {mg:Str->Option Value} {base:Heap} {x qual:Str} {st:Stmt} {f:Addr} {fd:FuncData} {N ps:List Str} {k:Nat}
theorem zPZ {body:Sf}{xb:Ef}(F:Fun K x qual st f fd)(S:FnScope N ps (zU st))
   (hb:∀(cdv:Value) (A:Around) (outer:List Env) (s:Shared) (H:Hp) (E:XK),Room k (A.deeper (envOfC qual (zU st) s.heap.objs.size f cdv))->PFSs (kX (CXv P w) P w K mg base N qual (zU st) f cdv A outer s H E).nox (zI st) body)
   (hx:∀(cdv:Value) (A:Around) (outer:List Env) (s:Shared) (H:Hp) (E:XK),Room k (A.deeper (envOfC qual (zU st) s.heap.objs.size f cdv))->zT6 (kX (CXv P w) P w K mg base N qual (zU st) f cdv A outer s H E) E (zI st) xb) :
   FnOk P w K mg base (CXv P w) (k+1) f fd ps (spV K ps.length (fnF N.length body) (fnV N.length xb)):=by
 obtain⟨oc,od,kV,doc,pm,an,cdv,ct,osl,rfl,lk,hcd⟩:=F.ex
 refine zMI lk hcd S (fun vs H Q E h=>?_) fun A outer s H vs Q E hr h=>?_
 · obtain⟨G,ds,sub,rs,hl,_⟩:=h
   rw[←rs.length];exact hl
 · obtain⟨G,ds,sub,rs,hl,h | ⟨t,hc,k⟩⟩:=h
   · obtain⟨d,hf,k⟩:=h
     refine⟨_,(hb cdv A outer s H E hr).nox,?_⟩
     unfold fnF at hf
     obtain⟨o,h1,h2⟩:=Qq.mp hf
     refine⟨G,H,G,_,o,lR sub rs,h1,?_⟩
     cases o with
     | nx ρ=>cases h2;exact fun σ' H' G' s' g'=>k .non H' G' g'.st (uW.mpr rfl)
     | rt e=>cases h2;exact fun v H' G' s' r=>k v H' G' s' r
     | rl es=>cases h2;exact fun p us H' G' s' hn hp gp r=>k _ H' (upd G' p (.lst us)) (s'.frz hn hp gp) (xG.mpr ⟨p,us,rfl,.of zE,r.mono (Same.new gp)⟩)
     | bk ρ=>cases h2
     | ct ρ=>cases h2
   · exact⟨_,hx cdv A outer s H E hr,⟨G,H,G,_,t,lR sub rs,hc,k⟩⟩
end
section
variable {X:Cx} {pins:List (Addr×Obj)} {σ:St}
theorem Inv.caughtV {H2 H':Hp}{s2 s':Shared}{g:Heap}{C a:Addr}{od:Option Addr}{t':Nat}(I2:Inv X pins σ H2 s2)(os:s'.os=s2.os)(bare:AllBare s'.gens)(un:Un (frs X.stack) [] H2 H' s2.heap s'.heap)(hok:HOk X.prog X.w H' s'.heap)(fa:H' a=some (.ext (Xe C a od)))(na:s2.heap.get? a=none)
   (k1:∀b o,s'.heap.get? b=some o->b≠a->(H' b≠none∨∃o',s2.heap.get? b=some o')->b∉frs X.stack->g.get? b=some o) (k2:∀b o,s'.heap.get? b=some o->(∃o',s2.heap.get? b=some o')->b∈frs X.stack->∃z,g.get? b=some { o with slots:=z })
   (oa:∃fs,g.get? a=some { cls:=.ref C,dict:=od,data:=.fields fs }):Inv X pins σ H' { s' with heap:=g,toks:=t' }:=by
 have I':Inv X pins σ H' s':=I2.call' (ch:=[]) os un hok bare (fun b z=>nomatch z)
 have nea:∀b o,s2.heap.get? b=some o->b≠a:=fun b o q z=>by rw[z,na] at q;cases q
 refine I2.call' (s':={ s' with heap:=g,toks:=t' }) (ch:=[]) os ⟨fun b o q n hb hx=>k1 b o (un.keep b o q n hb hx) (nea b o q) (.inr ⟨o,q⟩) hb,fun b o q n hb hx=>?_,un.free,fun b o q hx=>?_,un.tups,un.frzs,un.tbls⟩ (fun b o q=>?_) bare (fun b z=>nomatch z)
 · obtain⟨z,y⟩:=un.slot b o q n hb hx
   obtain⟨z',y'⟩:=k2 b _ y ⟨o,q⟩ hb
   exact⟨z',y'⟩
 · obtain⟨o1,y⟩:=un.there b o q hx
   by_cases hb:b∈frs X.stack
   · obtain⟨z,y'⟩:=k2 b o1 y ⟨o,q⟩ hb
     exact⟨_,y'⟩
   · exact⟨o1,k1 b o1 y (nea b o q) (.inr ⟨o,q⟩) hb⟩
 · by_cases hb:b=a
   · subst hb
     rw[fa] at q
     cases q
     obtain⟨fs,e⟩:=oa
     exact zTB e
   · have fr:=I'.stkFree
     refine(hok b o q).stay (fun b' u hb' q'=>?_) (fun _ z=>z) (fun _ _ z=>z)
     have tr:H' b'≠none:=by
       rcases hb' with z | z
       · rw[z,q];exact fun y=>nomatch y
       · rw[z];exact fun y=>nomatch y
     refine k1 b' u q' (fun z=>?_) (.inl tr) fun z=>tr (fr b' z)
     rcases hb' with y | y
     · exact hb (y.symm.trans z)
     · rw[z,fa] at y;cases y
theorem zRz {H2 H':Hp}{s2 s':Shared}{C a Y:Addr}{od:Option Addr}{D:Ends}{i:Nat}{n y:Str}{yp hp:Pos}{b₀:Stmt}{suite:List Stmt}{t:TS}(I2:Inv X pins σ H2 s2)(os:s'.os=s2.os)(bare:AllBare s'.gens)(un:Un (frs X.stack) [] H2 H' s2.heap s'.heap)(hok:HOk X.prog X.w H' s'.heap)
   (fl:FlyV s'.heap H' s2.heap C a od) (hst:X.stack=X.env::X.outer) (hef:X.env.frame=some X.env.locals) (hg:Gl X y) (hm:X.mg y=some (.ref Y)) (hdb:(y==("__debug__":Str))=false) (hx:PySem.W.exmOne X.K (.ref C) (.ref Y)=some true)
   (hN:X.N.Nodup) (hi:X.N[i]?=some n) (hk:X.env.kindOf n=some .local) (hl:Loc X.env.scope n) (hf:X.fn n=true∨X.env.scope.names.lookup n=some .local)
   (hs:PSs (X.marked a fun _ _=>False) (b₀::suite) t) (ht:t { nx:=fun σ' H''=>D.nx (σ'.set i none) H'',rt:=fun _ _=>False } (σ.set i (some (.ref a))) H') :
   wpAny (model X.prog X.w) X.A (noteFrame (.ref a) X.env) (fun _ s3=>wpAny (model X.prog X.w) X.A (setFlight (.ref a) none) (fun _ s4=>wpAny (model X.prog X.w) X.A (handleBy (.ref a) X.env [.ExceptHandler (some (.Name y yp)) (some n) (b₀::suite) hp]) (SP X pins D) X.xe s4) X.xe s3) X.xe s':=by
 have I':Inv X pins σ H' s':=I2.call' (ch:=[]) os un hok bare (fun b z=>nomatch z)
 obtain⟨vs,v,ho,hv,hh,hT⟩:=fl.ob
 have hfr:X.A.frames=some (X.env::X.outer):=by rw[←hst];exact I2.ok.frames
 have hfun:s'.heap.FunFrames X.base (X.env::X.outer):=by rw[←hst];exact I'.stack
 refine zY6 (base:=X.base) hfr hfun hef ho hv hh fun h3 fw=>?_
 rw[←hst] at fw
 have old:∀b o',s2.heap.get? b=some o'->b≠a/\some (Value.ref b)≠vs[1]?:=fun b o' q=>by
   refine⟨fun z=>?_,fun z=>?_⟩
   · rw[z,fl.new] at q;cases q
   · rw[hv] at z
     have:=(hT b (Wp z).symm).2
     rw[this] at q;cases q
 have J:∀tk,Inv X pins σ H' { s' with heap:=h3,toks:=tk }:=fun tk=>I2.caughtV os bare un hok fl.tr fl.new (fun b o q ne hb hn=>by
     rcases hb with z | ⟨o',z⟩
     · refine fw.keep b o q ne hn fun e=>z ?_
       rw[hv] at e
       exact(hT b (Wp e).symm).1
     · exact fw.keep b o q (old b o' z).1 hn (old b o' z).2) (fun b o q ⟨o',z⟩ hb=>fw.slot b o q (old b o' z).1 hb (old b o' z).2) ⟨_,fw.obj⟩
 have J:=J s'.toks
 have hsz:1 < vs.size:=(Rf.mp hv).1
 obtain⟨oT,ts,hT1,hT2,hT3⟩:=fw.head
 have cls:PySem.W.Looks (model X.prog X.w) h3 (typeOf (.ref a)) (.ref C):=(PySem.W.Looks.ld fw.obj).andThen .now
 refine wpAny_handleBy_cons (codeAny_handlers_test ?_) (by intro q;cases q)
 refine iG (X:=X.marked a fun _ _=>False) (J.marked a _) hg hm ?_ hdb
 have kx:X.K.In h3:=J.kIn
 refine(PySem.W.exm_one kx cls hx) (X.A.mark (some (.ref a))) _ _ _ (fun _ _ q=>q) ?_
 show codeAny _ _ _ _ _
 refine codeAny_handlers_suite_as ?_
 refine zU8 fw.obj rfl (by rw[Ir hsz]) hT1 hT2 hT3 fun h4 k4=>?_
 have J4:Inv X pins σ H' { s' with heap:=h4 }:=J.kept (t':=s'.toks) k4
 refine zYD J4 hN hi hl (v:=.ref a) rfl (fun s6 I6=>?_) hf
 refine Rp (hs pins s6 _ _ _ (I6.marked a _) ht) (fun f s7 h7=>?_) fun _ _ z=>z.elim
 cases f with
 | next =>
   obtain⟨σ',H'',I7,q7⟩:=h7
   exact zSn (I7.unmarked I2.ok) hN hi hk hl (fun s8 I8=>⟨_,H'',I8,q7⟩) hf
 | brk=>obtain⟨_,_,_,z⟩:=h7;exact False.elim z
 | cont=>obtain⟨_,_,_,z⟩:=h7;exact False.elim z
 | ret u=>obtain⟨_,_,_,_,_,z⟩:=h7;exact False.elim z
end
def XV (K:PySem.W.Frag)(t:D)(G2 H2:Hp):XK:=fun v _ H'=>∃G' a,Step G2 H2 G' H'/\v = .ref a/\Rep K G' t (.ref a)
def zKC (X:Cx)(e:Expr)(xb:Ef):Prop:=∀(pins:List (Addr×Obj)) (s:Shared) (σ:St) (H:Hp) (R:Value->Shared->Prop) (G0 H0 G:Hp) (ρ:List B) (t:D),Inv X pins σ H s->Good X.K G0 H0 G H σ ρ->xb ρ=some t ->
 (∀s2 H2 G2 e s',Inv X pins σ H2 s2->Step G H G2 H2->CXv X.prog X.w X.stack H2 s2 (XV X.K t G2 H2) e s'->R e s')->wpAny (model X.prog X.w) X.A (eval e X.env) (fun _ _=>False) R s
def PVB (X:Cx)(st:Stmt)(xb:Ef):Prop:=∀(pins:List (Addr×Obj)) (s:Shared) (σ:St) (H:Hp) (R:Value->Shared->Prop) (G0 H0 G:Hp) (ρ:List B) (t:D),Inv X pins σ H s->Good X.K G0 H0 G H σ ρ->xb ρ=some t ->
 (∀s2 H2 G2 e s',Inv X pins σ H2 s2->Step G H G2 H2->CXv X.prog X.w X.stack H2 s2 (XV X.K t G2 H2) e s'->R e s')->wpAny (model X.prog X.w) X.A (exec st X.env) (fun _ _=>False) R s
section
variable {X:Cx} {a b e:Expr} {es:List Expr} {ga:Lf} {tt:Tf} {xa xb:Ef} {pos p cpos:Pos} {st st':Stmt}
theorem zOI {k n:Nat}{fad:Addr}{fd:FuncData}{ps:List Str}{y:Str}{d xf:List D->Option D}(hno:∀e s,¬X.xe e s)(F:FnOk X.prog X.w X.K X.mg X.base (CXv X.prog X.w) k fad fd ps (spV X.K n d xf))(hr:Room k X.A)(hm:X.mg y=some (.ref fad))(hk:PySem.W.keepIn X.K (.ref fad)=true)(hb:Binds X.K fd ps [])(hg:Gl X y)
   (ha:PFA X (e::es) ga) (hdb:(y==("__debug__":Str))=false:=by decide) (he:starEach (e::es) X.env=(false,eval e X.env)::starEach es X.env:=by rfl) (hpl:(backTo cpos (starEach es X.env)).any (·.1)=false:=by rfl) :
   zKC X (.Call (.Name y p) (e::es) [] cpos) (zL n xf ga):=by
 intro pins s σ H R G0 H0 G ρ t I good hq k
 unfold zL at hq
 obtain⟨ds,h1,hq⟩:=Qq.mp hq
 split at hq
 · rename_i hl
   refine Rh (iG I hg hm ?_ hdb)
   refine Uy (h₀:=X.base) I.ok.mod.kin hk (Rp (ha cpos pins s σ H (fun vs H1=>∃G1,Step G H G1 H1/\Reps X.K G1 ds vs) I ⟨G0,H0,G,ρ,ds,good,h1,fun vs H1 G1 s1 r1=>⟨G1,s1,r1⟩⟩) (fun us s1 ⟨vs,H1,I1,r,G1,st1,r1⟩=>⟨I1.kIn,?_⟩) fun e s z=>(hno e s z).elim) he hpl
   have wq:spV X.K n d xf vs H1 (fun _ _=>False) (XV X.K t G1 H1):=⟨G1,ds,st1.sub,r1,hl,.inr ⟨t,hq,fun a H' G' z rr=>⟨G',a,z,rfl,rr⟩⟩⟩
   have hlen:us.length=ps.length:=by
     rw[←r.length]
     exact F.len vs H1 (fun _ _=>False) (XV X.K t G1 H1) wq
   rw[Eo]
   refine Ig (Ut (F.run X.A X.stack s1 H1 ⟨us,[]⟩ us vs (fun _ _=>False) (XV X.K t G1 H1) hr I1.env0 (by have:=hb s1 us I1.kIn (by rw[Wa];exact hlen);rwa[Wa] at this) r wq) fun r s' hq=>?_)
   cases r with
   | error e=>exact k s1 H1 G1 e s' I1 st1 hq
   | ok fl =>
     cases fl with
     | ret u=>obtain⟨_,_,_,_,_,_,_,z⟩:=hq;exact z.elim
     | next=>exact False.elim hq
     | brk=>exact False.elim hq
     | cont=>exact False.elim hq
 · cases hq
theorem zNS {y:Str}{pos':Pos}(h:zKC X e xb)(hs:swapsWith e (some (.Name y pos')) pos.line X.env=pure false:=by rfl):PVB X (.Assign [.Name y pos'] e pos) xb:=fun pins s σ H R G0 H0 G ρ t I good hq k =>
 wpAny_Assign_Name (Rp (h pins s σ H R G0 H0 G ρ t I good hq k) (fun _ _ z=>z.elim) fun _ _ z=>z) hs
theorem PVB.nox (h:PVB X.nox st xb):PVB X st xb:=fun pins s σ H R G0 H0 G ρ t I good hq k=>h pins s σ H R G0 H0 G ρ t (I.wish _) good hq fun s2 H2 G2 e s' I2 st hx=>k s2 H2 G2 e s' I2.unwish st hx
def zVH (cs:List Str)(xb:Ef)(fb:Sf)(i:Nat)(f:Sf):Sf:=fun ρ=>match xb ρ with
 | some (.exc c ns ds)=>if cs.contains c then(f (ρ.set i (.fz (.exc c ns ds)))).bind fun o=>match o with | .nx ρ'=>some (.nx (ρ'.set i .no)) | _=>none else none
 | some _=>none
 | none=>(fb ρ).bind fun o=>match o with | .nx ρ'=>some (.nx ρ') | _=>none
theorem zOc {cs:List Str}{Y:Addr}{i:Nat}{n y:Str}{yp hp:Pos}{b₀:Stmt}{suite:List Stmt}{f fb:Sf}(ok:ExOk X.K Y cs)(hb:PVB X.nox st xb)(hfb:PFS X.nox st fb)
   (hst:X.stack=X.env::X.outer) (hef:X.env.frame=some X.env.locals) (hg:Gl X y) (hm:X.mg y=some (.ref Y)) (hN:X.N.Nodup) (hh:∀a,PFSs (X.marked a fun _ _=>False) (b₀::suite) f)
   (hi:X.N[i]?=some n:=by rfl) (hk:X.env.kindOf n=some .local:=by rfl) (hl:Loc X.env.scope n:=by first | exact .inl rfl | exact .inr rfl) (hf:X.fn n=true∨X.env.scope.names.lookup n=some .local:=by first | exact .inl rfl | exact .inr rfl) (hdb:(y==("__debug__":Str))=false:=by decide) :
   PFS X (.Try [st] [.ExceptHandler (some (.Name y yp)) (some n) (b₀::suite) hp] [] [] pos) (zVH cs xb fb i f):=by
 intro pins s σ H D I q
 obtain⟨G0,H0,G,ρ,o,good,hq,k⟩:=q
 unfold zVH at hq
 split at hq
 · rename_i c ns ds hc
   split at hq
   · rename_i hcc
     obtain⟨C,hCC,hx1⟩:=ok.at hcc
     obtain⟨o1,ho1,hq⟩:=Qq.mp hq
     split at hq
     · rename_i ρ'
       cases hq
       refine wpAny_Try_except (zP4 (hb.nox pins s σ H _ G0 H0 G ρ _ I good hc fun s2 H2 G2 e s' I2 st2 hx=>?_))
       obtain⟨C',a,od,H',rfl,os,bare,un,hok,fl,G',a',st',ea,rp⟩:=hx
       cases ea
       obtain⟨C2,a2,od2,vs2,c1,c2,c3,_⟩:=iY.mp rp
       have e1:=hCC.one c1
       subst e1
       cases c2
       have e2:C2=C':=by
         obtain⟨vs,v,ho,_⟩:=fl.ob
         obtain⟨⟨fs,h2⟩,_⟩:=(show ObjOk X.prog X.w H' s'.heap a (.ext _) from hok a _ (st'.sub _ _ c3))
         rw[ho] at h2
         injection h2 with h2
         injection h2 with h2
         injection h2 with h2
         exact h2.symm
       subst e2
       have g1:Good X.K G0 H0 G' H' σ ρ:=(good.step st2).step st'
       refine zRz I2 os bare un hok fl hst hef hg hm hdb hx1 hN hi hk hl hf (hh a) ⟨G0,H0,_,_,.nx ρ',g1.setF i rp,ho1,fun σ' H'' G'' sg g3=>?_⟩
       exact k _ H'' G'' ((st2.gg.trans st'.gg).trans sg) (g3.setNo i)
     · cases hq
   · cases hq
 · cases hq
 · obtain⟨o1,ho1,hq⟩:=Qq.mp hq
   split at hq
   · rename_i ρ'
     cases hq
     refine wpAny_Try_except (Uk (Rp (hfb pins s σ H { nx:=D.nx,rt:=fun _ _=>False } (I.wish _) ⟨G0,H0,G,ρ,.nx ρ',good,ho1,k⟩) (fun f s1 h1=>?_) fun _ _ z=>z.elim))
     cases f with
     | next =>
       obtain⟨σ',H',I1,q1⟩:=h1
       exact Yi (Yi ⟨σ',H',I1.unwish,q1⟩)
     | brk=>obtain⟨_,_,_,z⟩:=h1;exact False.elim z
     | cont=>obtain⟨_,_,_,z⟩:=h1;exact False.elim z
     | ret u=>obtain⟨_,_,_,_,_,z⟩:=h1;exact False.elim z
   · cases hq
end
theorem zLE {X:Cx}{E:XK}{sts:List Stmt}:zT6 X E sts zZp:=fun pins s σ H D I h=>by
 obtain⟨_,_,_,_,_,_,z,_⟩:=h;cases z
theorem PFS.nox {X:Cx}{st:Stmt}{g:Sf}(h:PFS X.nox st g):PFS X st g:=fun pins s σ H D I hw =>
 Rp (h pins s σ H D (I.wish _) hw) (fun _ _ q=>q.unwish) fun _ _ z=>False.elim z
theorem zRg {X:Cx}{st:Stmt}{rest:List Stmt}{B f g:Sf}(e:B=zO f g)(h1:PFS X st f)(h2:PFSs X rest g):PFSs X (st::rest) B:=by
 subst e
 exact xN h1 h2
theorem zV {X:Cx}{st:Stmt}{rest:List Stmt}(B:Sf){f g:Sf}(e:B=zO f g)(h1:PFS X st f)(h2:PFSs X rest g):PFSs X (st::rest) B:=zRg e h1 h2
structure FnT (K:PySem.W.Frag)(mg:Str->Option Value)(x:Str)(st:Stmt)(ps:List Str) where
 f:Addr
 fd:FuncData
 F:Fun K x x st f fd
 b:Binds K fd ps []
 m:mg x=some (.ref f)
def wL (K:PySem.W.Frag)(x:Str)(st:Stmt):Prop:=∃(f:Addr) (od an:Option Addr) (sl:Array (Option Value)) (oc kV dc pm cd ct:Value),PySem.W.nsIn K mainGlobals x=some (some (.ref f))/\K.lookup f=some ⟨oc,od,.func (PySem.W.fnOf x x (zB st) (zI st) (zU st) .none kV dc pm an cd ct),sl⟩/\PySem.W.codeIn K cd x=true/\PySem.W.keepIn K (.ref f)=true
abbrev fnQ (x:Str)(st:Stmt)(kV dc pm:Value)(an:Option Addr)(cd ct:Value):FuncData:=PySem.W.fnOf x x (zB st) (zI st) (zU st) .none kV dc pm an cd ct
def Bd (x:Str)(st:Stmt)(ps:List Str):Prop:=∀(kV doc pm:Value) (an:Option Addr) (cdv ct:Value) (us:List Value),us.length=ps.length->bindArgs (fnQ x st kV doc pm an cdv ct) ⟨us,[]⟩=pure (ps.zip us)
section
variable {x a b c d e:Str} {st:Stmt}
theorem bd1 (h:∀kV dc pm an cd ct u,bindArgs (fnQ x st kV dc pm an cd ct) ⟨[u],[]⟩=pure [(a,u)]):Bd x st [a]:=fun _ _ _ _ _ _ us hl=>match us,hl with | [_],_=>h _ _ _ _ _ _ _
theorem bd2 (h:∀kV dc pm an cd ct u v,bindArgs (fnQ x st kV dc pm an cd ct) ⟨[u,v],[]⟩=pure [(a,u),(b,v)]):Bd x st [a,b]:=fun _ _ _ _ _ _ us hl=>match us,hl with | [_,_],_=>h _ _ _ _ _ _ _ _
theorem bd3 (h:∀kV dc pm an cd ct u v z,bindArgs (fnQ x st kV dc pm an cd ct) ⟨[u,v,z],[]⟩=pure [(a,u),(b,v),(c,z)]):Bd x st [a,b,c]:=fun _ _ _ _ _ _ us hl=>match us,hl with | [_,_,_],_=>h _ _ _ _ _ _ _ _ _
theorem bd4 (h:∀kV dc pm an cd ct u v z w,bindArgs (fnQ x st kV dc pm an cd ct) ⟨[u,v,z,w],[]⟩=pure [(a,u),(b,v),(c,z),(d,w)]):Bd x st [a,b,c,d]:=fun _ _ _ _ _ _ us hl=>match us,hl with | [_,_,_,_],_=>h _ _ _ _ _ _ _ _ _ _
end
section
variable {K:PySem.W.Frag} {h:Heap} {mg:Str->Option Value} {x:Str} {st:Stmt} {ps:List Str}
def wG (X:K.In h)(G:h.Ns mainGlobals mg)(g:wL K x st)(hb:Bd x st ps):FnT K mg x st ps:=Classical.choice (by
 obtain⟨f,od,an,sl,oc,kV,dc,pm,cd,ct,a,l,c,k⟩:=g
 exact⟨⟨f,_,zZh l c k,(zZh l c k).binds hb,PySem.W.mg_of X G a⟩⟩)
theorem zM4 {P:Program}{w:World}{k:Nat}{sp:Sp}{p:Str}{fa:Addr}(t:FnT K mg x st [p])(hb:Bd x st [p])(hfa:mg x=some (.ref fa))(ok:∀base:Heap,FnOk P w K mg base CX0 k t.f t.fd [p] sp) :
   ∃fd:FuncData,(∀(s:Shared) (v:Value),BindsTo s fd ⟨[v],[]⟩ [(p,v)])/\∀base:Heap,K.In base->base.Ns mainGlobals mg->FnOk P w K mg base CX0 k fa fd [p] sp:=by
 have e:=hfa.symm.trans t.m
 cases e
 refine⟨t.fd,fun s v=>?_,fun base _ _=>ok base⟩
 obtain⟨oc,od,kV,doc,pm,an,cdv,ct,osl,e,lk,hcd⟩:=t.F.ex
 rw[e]
 exact .of_eq (hb kV doc pm an cdv ct [v] rfl)
end
abbrev OkT (P:Program)(w:World)(base:Heap){K:PySem.W.Frag}{mg:Str->Option Value}{x:Str}{st:Stmt}{ps:List Str}(t:FnT K mg x st ps)(k n:Nat)(d:List D->Option D):Prop:=FnOk P w K mg base CX0 k t.f t.fd ps (spF K n d)
abbrev zWd (P:Program)(w:World)(base:Heap){K:PySem.W.Frag}{mg:Str->Option Value}{x:Str}{st:Stmt}{ps:List Str}(t:FnT K mg x st ps)(k n:Nat)(d:List D->Option (List D)):Prop:=FnOk P w K mg base CX0 k t.f t.fd ps (spL K n d)
section
variable {X:Cx} {e:Expr} {es:List Expr} {ga:Lf} {pos p:Pos} {x:Str} {st:Stmt} {ps:List Str}
theorem xQ {j k n:Nat}{t:FnT X.K X.mg x st ps}{fD:List D->Option D}(F:FnOk X.prog X.w X.K X.mg X.base CX0 j t.f t.fd ps (spF X.K n fD))(hr:Room k X.A)(ha:PFA X (e::es) ga)(hj:j<=k:=by omega)(hg:Gl X x:=by rfl)(hdb:(x==("__debug__":Str))=false:=by decide)(he:starEach (e::es) X.env=(false,eval e X.env)::starEach es X.env:=by rfl)(hpl:(backTo pos (starEach es X.env)).any (·.1)=false:=by rfl) :
   PF X (.Call (.Name x p) (e::es) [] pos) (zL n fD ga):=zN0 F (hr.mono hj) t.m t.F.kp t.b hg ha hdb he hpl
theorem zYG {j k n:Nat}{t:FnT X.K X.mg x st ps}{fD:List D->Option (List D)}(F:FnOk X.prog X.w X.K X.mg X.base CX0 j t.f t.fd ps (spL X.K n fD))(hr:Room k X.A)(ha:PFA X (e::es) ga)(hj:j<=k:=by omega)(hg:Gl X x:=by rfl)(hdb:(x==("__debug__":Str))=false:=by decide)(he:starEach (e::es) X.env=(false,eval e X.env)::starEach es X.env:=by rfl)(hpl:(backTo pos (starEach es X.env)).any (·.1)=false:=by rfl) :
   PFr X (.Call (.Name x p) (e::es) [] pos) (wD n fD ga):=zNC F (hr.mono hj) t.m t.F.kp t.b hg ha hdb he hpl
end
theorem y0 {N P:List Str}{sc:Scope}(h:(sc.kind == .function && !sc.isCoroutine && !sc.isGenerator&&decide (N.take P.length=P)&&decide N.Nodup&&decide (∀x∈P,sc.names.lookup x=some .local∨sc.names.lookup x=some .cell)&&decide (∀y∈sc.names,y.2 ≠ .free))=true):FnScope N P sc:=by
 simp only[Qn,Wo,Bool.not_eq_true'] at h
 obtain⟨⟨⟨⟨⟨⟨h1,h2⟩,h3⟩,h4⟩,h5⟩,h6⟩,h7⟩:=h
 refine⟨?_,h2,h3,h5,h4,h6,h7⟩
 generalize sc.kind=k at h1
 cases k<;>first | rfl | cases h1
section
variable {X:Cx} {a b c e:Expr} {es:List Expr} {fa fb fc:Ef} {ga gb:Lf} {pos p:Pos}
theorem zQV:CallR X (.builtin "abs") (fun xs H Q=>∃i,xs=[.int i]/\Q (.int (if i < 0 then -i else i)) H):=by
 intro pins s σ H xs us Q I r h
 obtain⟨i,rfl,q⟩:=h
 obtain⟨u,rfl,t,rfl⟩:=oV r
 exact call_abs_int fun u tk=>⟨.int _,H,I.kept (fun _ _ e=>e),⟨u,rfl⟩,q⟩
def zQJ (fa:Ef):Ef:=fun ρ=>(fa ρ).bind fun x=>match x with | .int i=>some (.int (if i < 0 then -i else i)) | _=>none
theorem zPw (hg:Gl X "abs")(hm:X.mg "abs"=none)(h:PF X a fa)(hs:starEach [a] X.env=[(false,eval a X.env)]:=by rfl):PF X (.Call (.Name "abs" p) [a] [] pos) (zQJ fa):=by
 refine PE.to (rJ zQV hg hm (by rfl) (yO h yE (by rw[hs];rfl)) (by decide) (by decide) (by rw[hs];rfl) (by rfl)) ?_
 rintro σ H Q ⟨G0,H0,G,ρ,d,good,hf,k⟩
 unfold zQJ at hf
 obtain⟨x,h1,hf⟩:=Qq.mp hf
 split at hf
 · rename_i i
   cases hf
   exact⟨G0,H0,G,ρ,_,good,h1,fun v H1 G1 s1 r1=>⟨i,by rw[zH.mp r1],k _ _ G1 s1 (zH.mpr rfl)⟩⟩
 · cases hf
theorem zRc (hc:X.calm=true):CallR X (.builtin "sum") (fun xs H Q=>∃(q:Addr) (ns:List Int),xs=[V.ref q]/\SqL X.K H q (ns.map V.int)/\Q (.int ns.sum) H):=by
 intro pins s σ H xs us Q I r h
 obtain⟨l,ns,rfl,hq,q⟩:=h
 obtain⟨u,rfl,ru⟩:=oV r
 cases ru
 obtain⟨its,rv,pl,hz⟩:=I.list hq
 obtain⟨ps,rfl,rfl⟩:=cQ rv
 have hit:s.heap.IsList l (intItems ps.toArray):=by
   have:=pl.isList
   unfold intItems
   rw[List.map_toArray]
   exact this
 refine sum_intListG (I.ok.hd hc) hit fun h' tk t' hk=>⟨.int _,H,I.kept hk,⟨t',rfl⟩,?_⟩
 have e:preSum (numAt ps.toArray) ps.toArray.size=(ps.map (·.1)).sum:=by
   have:=preSum_eq ps.toArray ps.toArray.size
   rw[this,List.take_of_length_le (by simp)]
 rw[e]
 exact q
def zVK (g:Lf):Ef:=fun ρ=>(g ρ).bind fun ds=>(bD ds).bind fun ns=>some (.int ns.sum)
theorem zSV (hcm:X.calm=true)(hg:Gl X "sum")(hm:X.mg "sum"=none)(h:zW9 X a ga)(hs:starEach [a] X.env=[(false,eval a X.env)]:=by rfl):PF X (.Call (.Name "sum" p) [a] [] pos) (zVK ga):=by
 refine PE.to (rJ (zRc hcm) hg hm (by rfl) (yO h yE (by rw[hs];rfl)) (by decide) (by decide) (by rw[hs];rfl) (by rfl)) ?_
 rintro σ H Q ⟨G0,H0,G,ρ,d,good,hf,k⟩
 unfold zVK at hf
 obtain⟨ds,h1,hf⟩:=Qq.mp hf
 obtain⟨ns,h2,hf⟩:=Qq.mp hf
 cases hf
 refine⟨G0,H0,G,ρ,ds,good,h1,fun q vs H1 G1 s1 e1 r1=>?_⟩
 rw[iM h2 r1] at e1
 exact⟨q,ns,rfl,s1.sub.seq e1,k _ _ G1 s1 (zH.mpr rfl)⟩
end
inductive All2 {α β:Type}(R:α->β->Prop):List α->List β->Prop
 | nil:All2 R [] []
 | cons {a b l m}:R a b->All2 R l m->All2 R (a::l) (b::m)
theorem All2.length {α β:Type}{R:α->β->Prop}:∀ {l:List α} {m:List β},All2 R l m->l.length=m.length
 | _,_,.nil=>rfl
 | _,_,.cons _ t=>by rw[Qi,Qi,t.length]
theorem All2.imp {α β:Type}{R S:α->β->Prop}(h:∀a b,R a b->S a b):∀ {l:List α} {m:List β},All2 R l m->All2 S l m
 | _,_,.nil=>.nil
 | _,_,.cons q t=>.cons (h _ _ q) (t.imp h)
theorem All2.inj {α β:Type}{R:α->β->Prop}(h:∀a a' b,R a b->R a' b->a=a'):∀ {l l':List α} {m:List β},All2 R l m->All2 R l' m->l=l'
 | _,_,_,.nil,.nil=>rfl
 | _,_,_,.cons q t,.cons q' t'=>by rw[h _ _ _ q q',All2.inj h t t']
theorem All2.get {α β:Type}{R:α->β->Prop}:∀ {l:List α} {m:List β},All2 R l m->∀(j:Nat) (h1:j < l.length) (h2:j < m.length),R l[j] m[j]
 | _,_,.cons q t,0,_,_=>q
 | _,_,.cons q t,j+1,h1,h2=>t.get j (by simpa using h1) (by simpa using h2)
def jO:KT->Value->Prop
 | .int i,v=>(∃t,v = .int i t)∨∃b:Bool,v = .bool b/\i=(if b then 1 else 0)
 | .tup _,_=>False
def IsK (h:Heap):Nat->KT->Value->Prop
 | 0,k,v=>jO k v
 | n+1,.tup ks,v=>∃a items,v = .ref a/\h.IsTuple a items/\All2 (IsK h n) ks items.toList
 | _+1,.int i,v=>jO (.int i) v
theorem zXh {k k':KT}{v:Value}(h:jO k v)(h':jO k' v):k=k':=by
 cases k with
 | int i =>
   cases k' with
   | int j =>
     rcases h with⟨t,rfl⟩ | ⟨b,rfl,rfl⟩<;>rcases h' with⟨t',e⟩ | ⟨b',e,rfl⟩<;>cases e<;>rfl
   | tup l=>cases h'
 | tup l=>cases h
theorem aZ {k:KT}{a:Addr}(h:jO k (.ref a)):False:=by
 cases k with
 | int i=>rcases h with⟨t,e⟩ | ⟨b,e,_⟩<;>cases e
 | tup l=>cases h
theorem zV4 {h:Heap}{n:Nat}{k:KT}{v:Value}(hk:∀l,k ≠ .tup l):IsK h n k v↔jO k v:=by
 cases n with
 | zero=>exact Oc
 | succ n =>
   cases k with
   | tup l=>exact absurd rfl (hk l)
   | int i=>exact Oc
theorem bG {h:Heap}{a:Addr}{i j:Array Value}(x:h.IsTuple a i)(y:h.IsTuple a j):i=j:=by
 obtain⟨o,e,_,n,d⟩:=x
 obtain⟨o',e',_,n',d'⟩:=y
 rw[e] at e';cases e'
 rw[d] at d';cases d';rfl
theorem zWC {h:Heap}:∀(n:Nat) (k k':KT) (v:Value),IsK h n k v->IsK h n k' v->k=k'
 | 0,_,_,_,x,y=>zXh x y
 | n+1,.tup ks,k',v,x,y=>by
   obtain⟨a,items,rfl,t,al⟩:=x
   cases k' with
   | tup ls =>
     obtain⟨a',items',e,t',al'⟩:=y
     cases e
     have:=bG t t'
     subst this
     rw[al.inj (fun p q r=>zWC n p q r) al']
   | int i=>exact(aZ (k:=.int i) y).elim
 | n+1,.int i,.tup ls,v,x,y=>by
   obtain⟨a',items',rfl,_⟩:=y
   exact(aZ (k:=.int i) x).elim
 | n+1,.int i,.int j,v,x,y=>zXh (k:=.int i) (k':=.int j) x y
theorem zXP {h h':Heap}(hk:∀a items,h.IsTuple a items->h'.IsTuple a items):∀(n:Nat) (k:KT) (v:Value),IsK h n k v->IsK h' n k v
 | 0,_,_,x=>x
 | n+1,.tup ks,v,x=>by
   obtain⟨a,items,rfl,t,al⟩:=x
   exact⟨a,items,rfl,hk _ _ t,al.imp fun p q r=>zXP hk n p q r⟩
 | n+1,.int i,v,x=>x
def dK':Nat->KT->Nat
 | n+1,.tup ks=>(ks.map (dK' n)).sum+1
 | _,_=>1
section
variable {prog:Program} {w:World} {E:Value->Shared->Prop}
theorem zXl {k:KT}{v:Value}{A:Around}{s:Shared}{Q:Int->Shared->Prop}(x:jO k v)(hu:A.units < cLine)(h:Q (zMR k) { s with toks:=s.toks+1 }):wpAny (model prog w) A (pyHash v) Q E s:=by
 cases k with
 | int i =>
   rcases x with⟨t,rfl⟩ | ⟨b,rfl,rfl⟩
   · exact wpAny_pyHash_int h
   · refine PySem.W.pyHash_slot (T:="bool") rfl F.slot_bool_hash entry_int_hash (args_int_hash _) (beq_builtin_none _) (.inr hu) ?_
     cases b
     · exact(show wpAny _ _ (do ret (←mkInt 0)) _ _ s from Qw (wpAny_mkInt (Qo ⟨_,_,rfl,h⟩)))
     · exact(show wpAny _ _ (do ret (←mkInt 1)) _ _ s from Qw (wpAny_mkInt (Qo ⟨_,_,rfl,h⟩)))
 | tup l=>cases x
theorem zQy:∀(n:Nat) (k:KT) (v:Value) (A:Around) (s:Shared) (Q:Int->Shared->Prop),IsK s.heap n k v->A.units+n < cLine->Q (hK n k) { s with toks:=s.toks+dK' n k }->wpAny (model prog w) A (pyHash v) Q E s
 | 0,k,v,A,s,Q,x,hu,h=>by
   cases k with
   | tup l=>cases x
   | int i=>exact zXl (k:=.int i) x (by omega) h
 | n+1,.int i,v,A,s,Q,x,hu,h=>zXl (k:=.int i) x (by omega) h
 | n+1,.tup ks,v,A,s,Q,x,hu,h=>by
   obtain⟨a,items,rfl,t,al⟩:=x
   obtain⟨o,ho,hc,m,hd⟩:=id t
   refine PySem.W.pyHash_slot (T:="tuple") ⟨_,ho,hc⟩ F.slot_tuple_hash F.entry_tuple_hash (F.args_tuple_hash_1 _) (beq_builtin_none _) (.inr (by omega)) ?_
   show wpAny _ _ (Builtin.Tuple.tupleItemsOf (.ref a) >>= _) _ _ s
   refine Qw (wpAny_tupleItemsOf ho hd ?_)
   refine Qw ?_
   rw[←Uu]
   refine wpAny_forIn_list _
     (fun rest (b:Array Int) s'=>∃done left,ks=done++left/\All2 (IsK s.heap n) left rest/\b.toList=done.map (hK n)/\s'={ s with toks:=s.toks+(done.map (dK' n)).sum })
     _ ?_ ?_ _ _ ⟨[],ks,rfl,al,rfl,rfl⟩
   · rintro x rest b s' ⟨done,left,rfl,hl,hb,rfl⟩
     cases hl with
     | @cons k _ ks' _ h1 hl' =>
       refine Qw (zQy n k x A.in1 _ _ h1 (by show A.units+1+n < cLine;omega) ?_)
       first
         | exact Qo ⟨done++[k],ks',by simp,hl',by simp[hb],by simp[Rc]⟩
         | exact Qw (Qo (Qo ⟨done++[k],ks',by simp,hl',by simp[hb],by simp[Rc]⟩))
   · rintro b s' ⟨done,left,rfl,hl,hb,rfl⟩
     cases hl
     rw[Wa] at h
     show wpAny _ _ (retInt (Builtin.Tuple.tupleHashOf b.toList)) _ _ _
     rw[hb]
     exact Qw (wpAny_mkInt (Qo ⟨_,_,rfl,by simpa [hK,dK',Rc] using h⟩))
theorem jE {a b:KT}{p:Bool}(h:p=true↔a=b):p=decide (a=b):=by
 by_cases e:a=b
 · rw[Qt e];exact h.mpr e
 · rw[Qf e];cases p with
   | false=>rfl
   | true=>exact absurd (h.mp rfl) e
theorem zSq {k k':KT}{v v':Value}{A:Around}{s:Shared}(x:jO k v)(y:jO k' v'):SeqAt.EqAt A s v v' (decide (k=k')):=by
 cases k with
 | int i =>
   cases k' with
   | int j =>
     rcases x with⟨t,rfl⟩ | ⟨b,rfl,rfl⟩<;>rcases y with⟨t',rfl⟩ | ⟨b',rfl,rfl⟩
     · rw[←jE (p:=i==j) (by simp)];exact Oy _ _ _ _
     · rw[←jE (p:=i==(if b' then 1 else 0)) (by simp)];exact SeqAt.EqAt.int_bool _ _ _
     · rw[←jE (p:=(if b then 1 else 0)==j) (by simp)];exact SeqAt.EqAt.bool_int _ _ _
     · rw[←jE (p:=b==b') (by cases b<;>cases b'<;>simp)];exact Ik _ _
   | tup l=>cases y
 | tup l=>cases x
theorem aU {k:KT}{v:Value}{A:Around}{s:Shared}{a:Addr}{items:Array Value}(t:s.heap.IsTuple a items)(hu:A.units < cLine)(y:jO k v):SeqAt.EqAt A s (.ref a) v false/\SeqAt.EqAt A s v (.ref a) false:=by
 cases k with
 | int i =>
   rcases y with⟨t',rfl⟩ | ⟨b',rfl,_⟩
   · exact⟨SeqAt.EqAt.tuple_int _ _ t hu,SeqAt.EqAt.int_tuple _ _ t hu⟩
   · exact⟨SeqAt.EqAt.tuple_bool _ t hu,SeqAt.EqAt.bool_tuple _ t hu⟩
 | tup l=>cases y
theorem zNT {ks ls:List KT}:((List.range (min ks.length ls.length)).all (fun j=>decide (ks[j]?=ls[j]?))&&ks.length==ls.length)=decide (KT.tup ks=KT.tup ls):=by
 refine jE ?_
 rw[Qn,Qv,Tq]
 constructor
 · rintro⟨h1,h2⟩
   congr 1
   refine List.ext_getElem? fun j=>?_
   by_cases hj:j < min ks.length ls.length
   · exact Te (h1 j (To.mpr hj))
   · rw[Rx (by omega),Rx (by omega)]
 · intro e
   cases e
   exact⟨fun j _=>Qt rfl,rfl⟩
theorem zKX:∀(n:Nat) (k k':KT) (v v':Value) (A:Around) (s:Shared),IsK s.heap n k v->IsK s.heap n k' v'->A.units+n < cLine->SeqAt.EqAt A s v v' (decide (k=k'))
 | 0,k,k',v,v',A,s,x,y,hu=>zSq x y
 | n+1,.tup ks,.tup ls,v,v',A,s,x,y,hu=>by
   obtain⟨a,items,rfl,t,al⟩:=x
   obtain⟨b,jtems,rfl,t',al'⟩:=y
   by_cases hab:a=b
   · subst hab
     have e:=bG t t'
     subst e
     have e:=al.inj (fun p q r=>zWC n p q r) al'
     subst e
     rw[Qt rfl]
     exact Yc _
   · refine .of_refs hab ?_
     have l1:=al.length
     have l2:=al'.length
     have R:=SeqAt.RcAt.tuples (A:=A) (e:=fun j=>decide (ks[j]?=ls[j]?)) t t' (by omega) fun j h1 h2=>by
       have b1:j < ks.length:=by rw[l1];simpa using h1
       have b2:j < ls.length:=by rw[l2];simpa using h2
       have q:=zKX n ks[j] ls[j] items[j] jtems[j] A.in1 s (al.get j b1 (by simpa using h1)) (al'.get j b2 (by simpa using h2)) (by show A.units+1+n < cLine;omega)
       have e:decide (ks[j]?=ls[j]?)=decide (ks[j]=ls[j]):=by
         refine jE ?_
         rw[decide_eq_true_iff,Qp b1,Qp b2,Option.some_inj]
       rw[e]
       exact q
     have e:=zNT (ks:=ks) (ls:=ls)
     rw[l1,l2,Tu,Tu] at e
     rw[←e]
     exact R
 | n+1,.tup ks,.int i,v,v',A,s,x,y,hu=>by
   obtain⟨a,items,rfl,t,al⟩:=x
   rw[←jE (p:=false) (by simp)]
   exact(aU (k:=.int i) t (by omega) y).1
 | n+1,.int i,.tup ks,v,v',A,s,x,y,hu=>by
   obtain⟨a,items,rfl,t,al⟩:=y
   rw[←jE (p:=false) (by simp)]
   exact(aU (k:=.int i) t (by omega) x).2
 | n+1,.int i,.int j,v,v',A,s,x,y,hu=>zSq (k:=.int i) (k':=.int j) x y
theorem zZE {k:KT}{v:Value}(m:Nat)(x:jO k v):eqIsQuiet m v=pure true:=by
 refine eqIsQuiet_byValue m ?_
 cases k with
 | int i=>rcases x with⟨t,rfl⟩ | ⟨b,rfl,_⟩<;>rfl
 | tup l=>cases x
theorem zS5:∀(n:Nat) (k:KT) (v:Value) (m:Nat) (A:Around) (s:Shared) (Q:Bool->Shared->Prop),n<=m->IsK s.heap n k v->Q true s->wpAny (model prog w) A (eqIsQuiet m v) Q E s
 | 0,k,v,m,A,s,Q,hm,x,h=>by rw[zZE m x];exact Qo h
 | n+1,.int i,v,m,A,s,Q,hm,x,h=>by rw[zZE (k:=.int i) m x];exact Qo h
 | n+1,.tup ks,v,0,A,s,Q,hm,x,h=>absurd hm (by omega)
 | n+1,.tup ks,v,m+1,A,s,Q,hm,x,h=>by
   obtain⟨a,items,rfl,t,al⟩:=x
   obtain⟨o,ho,hc,m',hd⟩:=id t
   have hT:s.TypeIs (.ref a) "tuple":=⟨_,ho,hc⟩
   unfold eqIsQuiet
   refine Qw (Yn hT F.slot_tuple_eq.lookup ?_)
   show wpAny _ _ (isInstance (.ref a) (.type "tuple") >>= _) _ _ s
   refine Qw (Uz hT isSubtype_tuple_tuple ?_)
   simp only[Bool.not_true,Wg,Ta]
   refine Qw (Ee ho hd ?_)
   refine Qw ?_
   show wpAny _ _ (forIn items _ _) _ _ s
   rw[←Uu]
   refine wpAny_forIn_list _ (fun rest r s'=>r.1=none/\s'=s/\∃left,All2 (IsK s.heap n) left rest) _ ?_ ?_ _ _ ⟨rfl,rfl,ks,al⟩
   · rintro v rest r s' ⟨hr,rfl,left,hall⟩
     cases hall with
     | cons h1 h2 =>
       refine Qw (zS5 n _ v m A s' _ (by omega) h1 ?_)
       simp only[Bool.not_true,Wg,Ta]
       exact Qo ⟨rfl,rfl,_,h2⟩
   · rintro⟨r1,r2⟩ s' ⟨hr,rfl,_⟩
     simp only at hr
     subst hr
     exact Qo h
end
theorem zXV {h h':Heap}{d:Addr}{o:Obj}{es ep}(ho:h.get? d=some o)(hd:o.data = .dict es ep)(hs:Heap.SameBut d h h')(a:Addr)(items:Array Value)(t:h.IsTuple a items):h'.IsTuple a items:=by
 obtain⟨o',ho',hc,n,hd'⟩:=t
 have hne:a≠d:=by
   rintro rfl
   rw[ho] at ho';cases ho'
   rw[hd] at hd';cases hd'
 exact⟨o',(hs.2 a hne).trans ho',hc,n,hd'⟩
def eJ (prog:Program)(w:World):HeapKind prog w KT where
 is:=fun h k a=>IsK h 8 k (.ref a)
 hash:=hK 8
 draws:=dK' 8
 room:=fun A=>A.units+8 < cLine
 inj:=fun hx hy=>zWC 8 _ _ _ hx hy
 keeps:=fun x ho hd hs=>zXP (zXV ho hd hs) 8 _ _ x
 pyHash:=fun hu hk h=>zQy 8 _ _ _ _ _ hk hu h
 eqBool:=fun hu hx hy h=>zKX 8 _ _ _ _ _ _ hx hy hu _ _ _ _ h
 quiet:=fun hk h=>zS5 8 _ _ 8 _ _ _ (by omega) hk h
section
variable {X:Cx} {pins:List (Addr×Obj)} {σ:St} {G H:Hp} {s:Shared}
theorem zVc {ds:List D}{ks:List KT}{n:Nat}(f:∀(d:D) (v:V) (u:Value) (k:KT),ktD n d=some k->Rep X.K G d v->RelV v u->IsK s.heap n k u):∀ {ds:List D} {ks:List KT} {vs:List V} {us:List Value},cO (ktD n) ds=some ks->Reps X.K G ds vs->Vals vs us->All2 (IsK s.heap n) ks us
 | [],ks,vs,us,h,r,w=>by
   rw[yQ] at r;subst r
   cases h;cases w;exact .nil
 | d::ds,ks,vs,us,h,r,w=>by
   obtain⟨v,vr,rfl,r1,r2⟩:=yZ.mp r
   unfold cO at h
   obtain⟨k,h1,h⟩:=Qq.mp h
   obtain⟨ks',h2,rfl⟩:=Qu.mp h
   cases w with
   | cons w1 w2=>exact .cons (f d v _ k h1 r1 w1) (zVc (ds:=ds) (ks:=ks') f h2 r2 w2)
theorem zWy (I:Inv X pins σ H s)(sub:Same G H):∀(n:Nat) (d:D) (v:V) (u:Value) (k:KT),ktD n d=some k->Rep X.K G d v->RelV v u->IsK s.heap n k u:=by
 have leaf:∀(n:Nat) (d:D) (v:V) (u:Value) (k:KT),(∀ds,d ≠ .tup ds)->ktD n d=some k->Rep X.K G d v->RelV v u->IsK s.heap n k u:=fun n d v u k hd h r ru=>by
   cases d with
   | int i =>
     have e:k = .int i:=by cases n<;>(cases h;rfl)
     subst e
     rw[zH] at r;subst r
     obtain⟨t,rfl⟩:=ru
     exact(zV4 (fun l z=>by cases z)).mpr (.inl ⟨t,rfl⟩)
   | bl b =>
     have e:k = .int (if b then 1 else 0):=by cases n<;>(cases h;rfl)
     subst e
     rw[wM] at r;subst r
     cases ru
     exact(zV4 (fun l z=>by cases z)).mpr (.inr ⟨b,rfl,rfl⟩)
   | tup ds=>exact absurd rfl (hd ds)
   | _=>cases n<;>cases h
 intro n
 induction n with
 | zero =>
   intro d v u k h r ru
   cases d with
   | tup ds=>cases h
   | _=>exact leaf 0 _ v u k (fun _ z=>by cases z) h r ru
 | succ n ih =>
   intro d v u k h r ru
   cases d with
   | tup ds =>
     unfold ktD at h
     obtain⟨ks,h1,rfl⟩:=Qu.mp h
     obtain⟨p,vs,rfl,q1,q2⟩:=xM.mp r
     cases ru
     obtain⟨its,w1,t1,_⟩:=I.tuple (sub.tup q1)
     exact⟨p,its.toArray,rfl,t1,zVc (ds:=ds) (ks:=ks) ih h1 q2 w1⟩
   | _=>exact leaf (n+1) _ v u k (fun _ z=>by cases z) h r ru
def tM:List KT->List Addr->List Value->List (KT×Addr×Value)
 | k::ks,a::as,u::us=>(k,a,u)::tM ks as us
 | _,_,_=>[]
theorem zYN (P:Program)(w:World):∀(ks:List KT) (as:List Addr) (us:List Value),bO ks as us=(tM ks as us).map (entryOfKey (eJ P w))
 | k::ks,a::as,u::us=>by rw[bO,tM,Qj,zYN P w ks as us];rfl
 | [],_,_=>by simp[bO,tM]
 | _::_,[],_=>by simp[bO,tM]
 | _::_,_::_,[]=>by simp[bO,tM]
theorem jH:∀ {ks:List KT} {as:List Addr} {us:List Value},ks.length=as.length->ks.length=us.length->(tM ks as us).map (·.1)=ks
 | [],[],[],_,_=>rfl
 | k::ks,a::as,u::us,h1,h2=>by rw[tM,Qj,jH (by simpa using h1) (by simpa using h2)]
 | [],_::_,_,h,_=>by simp at h
 | [],[],_::_,_,h=>by simp at h
 | _::_,[],_,h,_=>by simp at h
 | _::_,_::_,[],_,h=>by simp at h
theorem zO6 {ks:List KT}{as:List Addr}{us:List Value}(h1:ks.length=as.length)(h2:ks.length=us.length):(tM ks as us).length=ks.length:=by
 have:=Rg List.length (jH h1 h2)
 rwa[Qg] at this
theorem zVD:∀ {ks:List KT} {as:List Addr} {us:List Value} (k:KT) (a:Addr) (u:Value),ks.length=as.length->ks.length=us.length->tM ks as us++[(k,a,u)]=tM (ks++[k]) (as++[a]) (us++[u])
 | [],[],[],k,a,u,_,_=>rfl
 | k'::ks,a'::as,u'::us,k,a,u,h1,h2=>by
   show(k',a',u')::(tM ks as us++[(k,a,u)])=_
   rw[zVD k a u (by simpa using h1) (by simpa using h2)]
   rfl
 | [],_::_,_,_,_,_,h,_=>by simp at h
 | [],[],_::_,_,_,_,_,h=>by simp at h
 | _::_,[],_,_,_,_,h,_=>by simp at h
 | _::_,_::_,[],_,_,_,_,h=>by simp at h
theorem ODs.lens {K:PySem.W.Frag}:∀ {kvs ks as vs},ODs K G kvs ks as vs->ks.length=as.length/\ks.length=vs.length/\kvs.length=ks.length
 | _,_,_,_,.nil=>⟨rfl,rfl,rfl⟩
 | _,_,_,_,.cons _ _ _ h=>by
   obtain⟨a,b,c⟩:=ODs.lens h
   simp only[Qi]
   omega
theorem ODs.keys {K:PySem.W.Frag}:∀ {kvs ks as vs},ODs K G kvs ks as vs->(kvs.map fun p=>ktD 8 p.1)=ks.map some
 | _,_,_,_,.nil=>rfl
 | _,_,_,_,.cons h1 _ _ h=>by rw[Qj,Qj,h1,ODs.keys h]
theorem ODs.snoc {K:PySem.W.Frag}{d e:D}{k:KT}{a:Addr}{v:V}(h1:ktD 8 d=some k)(h2:Rep K G d (.ref a))(h3:Rep K G e v):∀ {kvs ks as vs},ODs K G kvs ks as vs->ODs K G (kvs++[(d,e)]) (ks++[k]) (as++[a]) (vs++[v])
 | _,_,_,_,.nil=>.cons h1 h2 h3 .nil
 | _,_,_,_,.cons a1 a2 a3 h=>.cons a1 a2 a3 (ODs.snoc h1 h2 h3 h)
theorem zOC (I:Inv X pins σ H s)(sub:Same G H):∀ {kvs ks as vs} {us:List Value},ODs X.K G kvs ks as vs->Vals vs us->∀x∈tM ks as us,IsK s.heap 8 x.1 (.ref x.2.1)
 | _,_,_,_,_,.nil,_=>fun x hx=>by simp[tM] at hx
 | _,_,_,_,_,.cons h1 h2 h3 h,w=>by
   cases w with
   | cons w1 w2 =>
     intro x hx
     rcases Qz.mp hx with rfl | hx
     · exact zWy I sub 8 _ _ _ _ h1 h2 rfl
     · exact zOC I sub h w2 x hx
theorem zSM (I:Inv X pins σ H s)(sub:Same G H){a:Addr}{kvs ks as vs}(hp:H a=some (.ext (mR a ks as vs)))(od:ODs X.K G kvs ks as vs)(nd:ks.Nodup):∃us,Vals vs us/\ks.length=us.length/\s.heap.DictOfH (eJ X.prog X.w) a (tM ks as us):=by
 obtain⟨⟨us,w,o,es,ep,h1,h2,h3,h4⟩,_⟩:=(show ObjOk X.prog X.w H s.heap a (.ext (mR a ks as vs)) from I.hok a _ hp)
 obtain⟨l1,l2,_⟩:=od.lens
 have l3:ks.length=us.length:=l2.trans w.length
 refine⟨us,w,l3,o,es,ep,h1,h2,h3,?_,zOC I sub od w,?_⟩
 · rw[h4];exact zYN X.prog X.w ks as us
 · rw[jH l1 l3];exact nd
theorem zSx {P:Program}{w:World}{H':Hp}{h':Heap}{a:Addr}{ks as}{vs:List V}{us:List Value}(hv:Vals vs us){o es ep}(h1:h'.get? a=some o)(h2:o.ExactDict)(h3:o.data = .dict es ep)(h4:es.toList=bO ks as us):ObjOk P w H' h' a (.ext (mR a ks as vs)) :=
 ⟨⟨us,hv,o,es,ep,h1,h2,h3,h4⟩,⟨o,h1⟩,fun g1 g2 ⟨us,hv,o,es,ep,e1,e2,e3,e4⟩ k=>⟨us,hv,o,es,ep,k o e1,e2,e3,e4⟩⟩
theorem zZB {ks:List KT}{as:List Addr}{us:List Value}(h1:ks.length=as.length)(h2:ks.length=us.length)(k:KT):(atKey (tM ks as us) k).isSome=decide (k∈ks):=by
 unfold atKey
 rw[Option.isSome_map]
 by_cases hm:k∈ks
 · rw[Qt hm,List.find?_isSome]
   rw[←jH h1 h2] at hm
   obtain⟨x,hx,e⟩:=Wx.mp hm
   exact⟨x,hx,Qt e⟩
 · rw[Qf hm]
   cases hf:List.find? (fun x:KT×Addr×Value=>decide (x.1=k)) (tM ks as us) with
   | none=>rfl
   | some x =>
     refine absurd ?_ hm
     rw[←jH h1 h2]
     have hx:=List.find?_some hf
     exact Wx.mpr ⟨x,List.mem_of_find?_eq_some hf,Te hx⟩
end
theorem Paired.upd {α β:Type}{F F':α->β->Prop}{b':β}:∀ {l:List α} {r:List β} (i:Nat),Paired F l r->(∀(j:Nat) (a:α) (b:β),j≠i->l[j]?=some a->r[j]?=some b->F a b->F' a b)->(∀a,l[i]?=some a->F' a b')->Paired F' l (r.set i b')
 | _,_,_,.nil,_,_=>.nil
 | _,_,0,.cons q t,h1,h2=>by
   rw[List.set_cons_zero]
   refine .cons (h2 _ rfl) ?_
   have tl:∀ {l:List α} {r:List β} (n:Nat),Paired F l r->(∀(j:Nat) (a:α) (b:β),l[j]?=some a->r[j]?=some b->F a b->F' a b)->Paired F' l r:=by
     intro l r n p
     induction p with
     | nil=>intro _;exact .nil
     | cons q t ih=>intro h;exact .cons (h 0 _ _ rfl rfl q) (ih fun j a b e1 e2=>h (j+1) a b (by simpa using e1) (by simpa using e2))
   exact tl 0 t fun j a b e1 e2=>h1 (j+1) a b (by omega) (by simpa using e1) (by simpa using e2)
 | _,_,i+1,.cons q t,h1,h2=>by
   rw[List.set_cons_succ]
   exact .cons (h1 0 _ _ (by omega) rfl rfl q) (Paired.upd i t (fun j a b hj e1 e2=>h1 (j+1) a b (by omega) (by simpa using e1) (by simpa using e2)) fun a e=>h2 a (by simpa using e))
def zKZ:B->Bool | .od _=>true | _=>false
def zSZ (i:Nat)(ρ:List B):Bool:=(List.range ρ.length).all fun j=>j==i || !(zKZ (ρ.getD j .no))
theorem zP8 {i j:Nat}{ρ:List B}{b:B}(h:zSZ i ρ=true)(hj:j≠i)(e:ρ[j]?=some b):zKZ b=false:=by
 unfold zSZ at h
 have hl:=(Ql.mp e).1
 have:=Qv.mp h j (To.mpr hl)
 rw[Wq,e] at this
 simpa [hj] using this
section
variable {K:PySem.W.Frag} {G0 H0 G H:Hp} {σ:St} {ρ:List B}
theorem Good.dict {i:Nat}{kvs:List (D×D)}(g:Good K G0 H0 G H σ ρ)(h:ρ[i]?=some (.od kvs)):∃a ks as vs,σ[i]?=some (some (.ref a))/\H a=some (.ext (mR a ks as vs))/\G a=none/\H0 a=none/\ODs K G kvs ks as vs/\ks.Nodup/\(a==sysModules)=false:=by
 obtain⟨o,e,r⟩:=Paired.get g.vals h
 cases r with
 | od h1 h2 h3 h4 h5 h6=>exact⟨_,_,_,_,e,h1,h2,h3,h4,h5,h6⟩
theorem iJ {i j:Nat}{kvs:List (D×D)}{ds:List D}(h:(ρ.set i (.od kvs))[j]?=some (.ow ds)):j≠i/\ρ[j]?=some (.ow ds):=by
 by_cases e:j=i
 · subst e
   rw[Us] at h
   split at h
   · split at h<;>cases h
   · rename_i z;exact absurd rfl z
 · rw[Wt (Ne.symm e)] at h
   exact⟨e,h⟩
theorem Good.setD {a:Addr}{ks as vs}{kvs:List (D×D)}(g:Good K G0 H0 G H σ ρ)(i:Nat)(ha:H a=some (.ext (mR a ks as vs)))(ga:G a=none)(h0:H0 a=none)(od:ODs K G kvs ks as vs)(nd:ks.Nodup)(hm:(a==sysModules)=false):Good K G0 H0 G H (σ.set i (some (.ref a))) (ρ.set i (.od kvs)):=by
 refine⟨g.st,Paired.set (.od ha ga h0 od nd hm) i g.vals,fun j k b d1 d2 h1 h2 h3 h4=>?_⟩
 obtain⟨n1,e1⟩:=iJ h1
 obtain⟨n2,e2⟩:=iJ h2
 rw[Wt (Ne.symm n1)] at h3
 rw[Wt (Ne.symm n2)] at h4
 exact g.apart j k b d1 d2 e1 e2 h3 h4
theorem Good.wrD {a:Addr}{ks as vs}{kvs kvs':List (D×D)}{i:Nat}(g:Good K G0 H0 G H σ ρ)(ho:zSZ i ρ=true)(hi:ρ[i]?=some (.od kvs))(hs:σ[i]?=some (some (.ref a)))(od:ODs K G kvs' ks as vs)(nd:ks.Nodup) :
   Good K G0 H0 G (upd H a (.ext (mR a ks as vs))) σ (ρ.set i (.od kvs')):=by
 obtain⟨a',ks0,as0,vs0,h1,h2,h3,h4,_,_,hm⟩:=g.dict hi
 rw[hs] at h1;cases h1
 refine⟨⟨fun b o e=>?_,g.st.gg,fun b o e=>?_,g.st.new⟩,?_,fun j k b d1 d2 e1 e2 e3 e4=>?_⟩
 · rw[yP (yJ e h4)];exact g.st.hh b o e
 · rw[yP (yJ e h3)];exact g.st.sub b o e
 · refine Paired.upd i g.vals (fun j x b hj e1 e2 q=>?_) fun x e=>?_
   · cases q with
     | no=>exact .no
     | fz r=>exact .fz r
     | @ow c us ds c1 c2 c3 c4 =>
       have:c≠a:=fun z=>by rw[z,h2] at c1;cases c1
       exact .ow (by rw[yP this];exact c1) c2 c3 c4
     | od _ _ _ _ _ _=>exact absurd (zP8 ho hj e2) (by intro z;cases z)
   · rw[hs] at e;cases e
     exact .od zE h3 h4 od nd hm
 · obtain⟨n1,f1⟩:=iJ e1
   obtain⟨n2,f2⟩:=iJ e2
   exact g.apart j k b d1 d2 f1 f2 e3 e4
end
section
variable {X:Cx} {a b c e:Expr} {fa fb fc:Ef} {pos p p1 p2:Pos} {k:Nat}
theorem Inv.big' {pins:List (Addr×Obj)}{σ:St}{H:Hp}{s:Shared}(I:Inv X pins σ H s):sysModules < s.heap.objs.size:=by
 have h:mainGlobals < s.heap.objs.size:=(I.mod.glob.keeps I.bk).lt
 exact Nat.lt_trans (by decide) h
def zKQ:TE:=fun _ H Q=>∀p,H p=none->(p==sysModules)=false->Q (.ref p) (upd H p (.ext (mR p [] [] [])))
theorem zNs:PE X (.Dict [] [] pos) zKQ:=fun pins s σ H Q I h =>
 wpAny_Dict_empty ⟨.ref s.heap.objs.size,_,I.laid (a:=s.heap.objs.size) (o:=.ext (mR s.heap.objs.size [] [] [])) (t':=s.toks) (fun _ _ q=>Qe _ q) (Qk _) (zSx .nil (Qa _ rfl) ⟨rfl,rfl,rfl⟩ rfl rfl),rfl,
   h _ (I.hok.fresh (Qk _)) (Ei.mpr (Ne.symm (We I.big')))⟩
def zQw (i:Nat):Sf:=fun ρ=>some (.nx (ρ.set i (.od [])))
theorem zSE (i:Nat){x:Str}{pos':Pos}(hN:X.N.Nodup)(hi:X.N[i]?=some x:=by rfl)(hx:Loc X.env.scope x:=by first | exact .inl rfl | exact .inr rfl)(hs:swapsWith (.Dict [] [] p) (some (.Name x pos')) pos.line X.env=pure false:=by rfl)
   (hf:X.fn x=true∨X.env.scope.names.lookup x=some .local:=by first | exact .inl rfl | exact .inr rfl):PFS X (.Assign [.Name x pos'] (.Dict [] [] p) pos) (zQw i):=by
 refine PS.to (zW4 hN hi hx zNs hs hf) ?_
 rintro D σ H ⟨G0,H0,G,ρ,o,good,hf,k⟩
 cases hf
 intro q hq hm
 have s1:=Step.own (o:=.ext (mR q [] [] [])) good.st.sub hq
 exact k _ _ G s1.gg ((good.step s1).setD i zE (good.st.sub.free hq) (good.st.hh.free hq) .nil List.nodup_nil hm)
theorem zLF (hu:X.A.units+10 < cLine):OpR X (compareOp .In) (fun x y H Q=>∃G a b d kt kvs ks as vs,x = .ref b/\y = .ref a/\Same G H/\ktD 8 d=some kt/\Rep X.K G d (.ref b)/\H a=some (.ext (mR a ks as vs))/\ODs X.K G kvs ks as vs/\ks.Nodup/\(a==sysModules)=false/\Q (.bl (decide (kt∈ks))) H):=by
 intro pins s σ H x y v u Q I rx ry ⟨G,a,b,d,kt,kvs,ks,as,vs,e1,e2,sub,hk,rd,hp,od,nd,hm,q⟩
 subst e1 e2
 cases rx
 cases ry
 obtain⟨us,hv,hl,dd⟩:=zSM I sub hp od nd
 refine wpAny_in_heap (knd:=eJ X.prog X.w) (show X.A.units+1+8 < cLine by omega) (zWy I sub 8 _ _ _ _ hk rd rfl) hm dd ?_
 rw[zZB od.lens.1 hl]
 exact⟨.bl _,H,I.tok _,rfl,q⟩
def zQ6:D->Option KT | .tup ds=>ktD 8 (.tup ds) | _=>none
theorem zVw {K:PySem.W.Frag}{G:Hp}{d:D}{kt:KT}{v:V}(h:zQ6 d=some kt)(r:Rep K G d v):ktD 8 d=some kt/\∃b,v = .ref b:=by
 cases d with
 | tup ds=>obtain⟨p,vs,rfl,_⟩:=xM.mp r;exact⟨h,p,rfl⟩
 | _=>cases h
def zWJ (i:Nat)(fk:Ef):Tf:=fun ρ=>(fk ρ).bind fun d=>(zQ6 d).bind fun k=>match ρ[i]? with | some (.od kvs)=>some (decide (some k∈kvs.map fun p=>ktD 8 p.1)) | _=>none
theorem zOA {K:PySem.W.Frag}{G:Hp}{kvs ks as vs}(od:ODs K G kvs ks as vs)(k:KT):decide (some k∈kvs.map fun p=>ktD 8 p.1)=decide (k∈ks):=by
 rw[od.keys]
 by_cases h:k∈ks
 · rw[Qt h,Qt (Wx.mpr ⟨k,h,rfl⟩)]
 · rw[Qf h,Qf fun z=>by obtain⟨x,hx,e⟩:=Wx.mp z;cases e;exact h hx]
theorem zQP (i:Nat){x:Str}(hr:Room k X.A)(ha:PF X a fa)(hN:X.N[i]?=some x:=by rfl)(hv:Vis X.env.scope x:=by first | exact Or.inl rfl | exact Or.inr (Or.inl rfl) | exact Or.inr (Or.inr rfl))(hd:(x==("__debug__":Str))=false:=by decide)(hcd:(x==("__classdict__":Str))=false:=by decide)
   (hm:behindInMarks .In (.Name x p)=false:=by first | exact zYW _ | (with_unfolding_all rfl)):PFT X (.Compare a [.In] [.Name x p] pos) (zWJ i fa):=by
 have hu:=hr.un
 refine PT.to (zZW (zLF (by omega)) ha (oY hN hv hd hcd) hm) ?_
 rintro σ H Q ⟨G0,H0,G,ρ,c,good,hf,kk⟩
 unfold zWJ at hf
 obtain⟨d,h1,hf⟩:=Qq.mp hf
 obtain⟨kt,h2,hf⟩:=Qq.mp hf
 split at hf
 · rename_i kvs hi
   cases hf
   refine⟨G0,H0,G,ρ,_,good,h1,fun u H1 G1 s1 r1=>?_⟩
   obtain⟨q,ks,as,vs,e1,e2,e3,e4,e5,e6,e7⟩:=(good.step s1).dict hi
   obtain⟨hk,b,rfl⟩:=zVw h2 r1
   refine⟨.ref q,e1,G1,q,b,d,kt,kvs,ks,as,vs,rfl,rfl,s1.sub,hk,r1,e2,e5,e6,e7,_,rfl,?_⟩
   rw[←zOA e5]
   exact kk _ G1 s1
 · cases hf
def zKA (X:Cx):V->V->V->Hp->(Hp->Prop)->Prop:=fun o i v H Q=>∃G a b d kt kvs ks as vs,o = .ref a/\i = .ref b/\Same G H/\ktD 8 d=some kt/\Rep X.K G d (.ref b)/\H a=some (.ext (mR a ks as vs))/\ODs X.K G kvs ks as vs/\ks.Nodup/\kt∉ks/\kvs.length<=lim/\Q (upd H a (.ext (mR a (ks++[kt]) (as++[b]) (vs++[v]))))
theorem zXC:∀ {vs:List V} {us:List Value} {v:V} {u:Value},Vals vs us->RelV v u->Vals (vs++[v]) (us++[u])
 | _,_,_,_,.nil,h=>.cons h .nil
 | _,_,_,_,.cons a t,h=>.cons a (zXC t h)
theorem zPE (hu:X.A.units+10 < cLine):zLH X (zKA X):=by
 intro pins s σ H o i v ov iv u Q I ro ri rv h
 obtain⟨G,a,b,d,kt,kvs,ks,as,vs,rfl,rfl,sub,hk,rd,hp,od,nd,hn,hl,q⟩:=h
 cases ro
 cases ri
 obtain⟨us,hv,hl2,dd⟩:=zSM I sub hp od nd
 obtain⟨l1,l2,l3⟩:=od.lens
 have hz:(tM ks as us).length<=sizeLine:=by rw[zO6 l1 hl2];exact Wd (wK (by omega))
 refine wpAny_setItem_heap (knd:=eJ X.prog X.w) (hsz:=hz) (show X.A.units+1+8 < cLine by omega) (zWy I sub 8 _ _ _ _ hk rd rfl) dd fun h' dd' hs=>⟨_,?_,q⟩
 have hnone:atKey (tM ks as us) kt=none:=by
   have:=zZB l1 hl2 kt
   rw[Qf hn] at this
   exact Option.isSome_eq_false_iff.mp this |> fun z=>by simpa using z
 rw[storedH_new hnone,zVD kt b u l1 hl2] at dd'
 obtain⟨o',es,ep,g1,g2,g3,g4,_⟩:=dd'
 refine I.write (x:=a) (e:=a) (by rw[hp];trivial) (.inl rfl) (fun c w' hc z=>(hs.2 c hc).trans z) ⟨o',g1⟩ (zSx (zXC hv rv) g1 g2 g3 ?_)
 rw[g4];exact(zYN X.prog X.w _ _ _).symm
def bH (i:Nat)(fk fv:Ef):Sf:=fun ρ=>(fv ρ).bind fun e=>(fk ρ).bind fun d=>(zQ6 d).bind fun k=>match ρ[i]? with
 | some (.od kvs)=>if kvs.length<=lim/\zSZ i ρ=true/\some k∉kvs.map (fun p=>ktD 8 p.1) then some (.nx (ρ.set i (.od (kvs++[(d,e)])))) else none
 | _=>none
theorem zTi (i:Nat){x:Str}(hr:Room k X.A)(he:PF X e fa)(hb:PF X b fb)(hN:X.N[i]?=some x:=by rfl)(hv:Vis X.env.scope x:=by first | exact Or.inl rfl | exact Or.inr (Or.inl rfl) | exact Or.inr (Or.inr rfl))(hd:(x==("__debug__":Str))=false:=by decide)(hcd:(x==("__classdict__":Str))=false:=by decide)
   (ha:∀v,assign (.Subscript (.Name x p1) b p2) X.env v=(do
     let ov ←holding [v] (eval (.Name x p1) X.env)
     let iv ←holding [v,ov] (eval b X.env)
     standAt p2
     holding [v,ov,iv] (setItem ov iv v)
     release [v,ov,iv] []):=by intro _;rfl)
   (hs:swapsWithSole [.Subscript (.Name x p1) b p2] e pos.line X.env=pure false:=by rfl) (hw:swappedStores [.Subscript (.Name x p1) b p2] e X.env=pure none:=by rfl)
   (h1:(assignEach [.Subscript (.Name x p1) b p2] X.env).map (·.2)=[assign (.Subscript (.Name x p1) b p2) X.env]:=by rfl):PFS X (.Assign [.Subscript (.Name x p1) b p2] e pos) (bH i fb fa):=by
 have hu:=hr.un
 refine PS.to (zTG he (zPU (oY hN hv hd hcd) hb (zPE (by omega)) ha) hs hw h1) ?_
 rintro D σ H ⟨G0,H0,G,ρ,o,good,hf,kk⟩
 unfold bH at hf
 obtain⟨de,g1,hf⟩:=Qq.mp hf
 obtain⟨d,g2,hf⟩:=Qq.mp hf
 obtain⟨kt,g3,hf⟩:=Qq.mp hf
 split at hf
 · rename_i kvs hi
   split at hf
   · rename_i hc
     obtain⟨hl,ho,hn⟩:=hc
     cases hf
     refine⟨G0,H0,G,ρ,_,good,g1,fun v H1 G1 s1 r1=>?_⟩
     obtain⟨q,ks,as,vs,e1,e2,e3,e4,e5,e6,e7⟩:=(good.step s1).dict hi
     refine⟨.ref q,e1,G0,H0,G1,ρ,_,good.step s1,g2,fun u H2 G2 s2 r2=>?_⟩
     obtain⟨q',ks',as',vs',f1,f2,f3,f4,f5,f6,f7⟩:=((good.step s1).step s2).dict hi
     rw[e1] at f1;cases f1
     obtain⟨hk,b',rfl⟩:=zVw g3 r2
     have hnk:kt∉ks':=fun z=>hn (by rw[f5.keys];exact Wx.mpr ⟨kt,z,rfl⟩)
     refine⟨G2,q,b',d,kt,kvs,ks',as',vs',rfl,rfl,s2.sub,hk,r2,f2,f5,f6,hnk,hl,?_⟩
     refine kk _ _ G2 (s1.gg.trans s2.gg) (((good.step s1).step s2).wrD ho hi e1 (f5.snoc hk r2 (r1.mono s2.gg)) ?_)
     exact Yh.mpr ⟨f6,by simp,fun x hx y hy=>by rw[Wh] at hy;subst hy;intro z;exact hnk (z ▸ hx)⟩
   · cases hf
 · cases hf
end
section
variable {prog:Program} {w:World} {A:Around} {E:Value->Shared->Prop} {s:Shared}
theorem dI {id:String}{b:Builtin}{args:List Value}{kw:List (Str×Value)}{Q:Value->Shared->Prop}(hk:builtinKind id=none)(hp:plainId id=true)
   (hb:entryFor table id=some b) (ha:argsOk id ⟨args,kw⟩)
   (hc:wpAny (model prog w) A.in1 (b ⟨args,kw⟩) (fun fin s'=>match fin with
     | .done f=>(match (Except.ok f:Result) with | .ok (.ret v)=>Q v s' | .ok _=>False | .error e=>E e s')
     | .again c'=>c'.quiet=true/\codeAny (model prog w) A c' (fun r s'=>match r with | .ok (.ret v)=>Q v s' | .ok _=>False | .error e=>E e s') s') E s) :
   wpAny (model prog w) A (call (.builtin id) args kw) Q E s:=by
 refine Ig (Ix hp hb ?_)
 simp only[checkBuiltinCall,hk]
 cases hsig:Manifest.signature? id with
 | none=>exact Qo hc
 | some sig =>
   have h2:Bind.checkArgs id sig ⟨args,kw⟩=pure ():=by simpa only [argsOk,hsig] using ha
   show wpAny _ A.in1 (Bind.checkArgs id sig ⟨args,kw⟩) _ _ s
   rw[h2];exact Qo hc
theorem zXK (a d:Value):argsOk "min" ⟨[a],[("default",d)]⟩:=by unfold argsOk;kernel_rfl
theorem zN5 {l:Addr}{d:Value}{Q:Value->Shared->Prop}(hh:A.handled=none)(hl:s.heap.IsList l #[])(h:∀h' tk,(∀b o,s.heap.get? b=some o->h'.get? b=some o)->Q d { s with heap:=h',toks:=tk }) :
   wpAny (model prog w) A (call (.builtin "min") [.ref l] [("default",d)]) Q E s:=by
 have hname:(toString "min"++toString ".loop":String)="min.loop":=by decide
 refine dI F.kind_min F.plain_min F.entry_min (zXK _ _) ?_
 show wpAny _ A.in1 (Builtin.Builtins.bindParams "min" ["key","default"] 0 ⟨[],[("default",d)]⟩ >>= _) _ _ s
 refine Qw (Ob (show Builtin.Builtins.bindParams "min" ["key","default"] 0 ⟨[],[("default",d)]⟩=pure [none,some d] from rfl) ?_)
 refine Qw (Qo ?_)
 refine Qw (Ua hl ?_)
 refine Qw (Em ?_)
 rw[hname]
 have hne:l≠s.heap.objs.size:=by obtain⟨_,e,_⟩:=hl;exact We (Qy e)
 refine Qo ⟨El F.plain_min_loop _,Ez F.entry_min_loop ?_⟩
 rw[Wn F.plain_min_loop _]
 show wpAny _ A.in1 (seqItems? (.ref _) >>= _) _ _ _
 refine Qw (Ee (Qa _ rfl) rfl ?_)
 have W:=Walks.list (prog:=prog) (w:=w) (A:=A.in1) hh s.heap.objs.size l hne #[]
 refine Qw (Up (W.done _ _ _ ⟨⟨_,Qe _ (Qa _ rfl),rfl,rfl⟩,(hl.push _).push _⟩ fun h' tk hk=>?_))
 refine Qw (Od ?_)
 refine Qo (h h' tk fun b o e=>hk b o ?_ (Qe _ (Qe _ e)))
 intro hm
 rcases Qz.mp hm with z | z
 · exact absurd (z ▸ Qy e) (Ww _)
 · cases z
end
section
variable {X:Cx} {a:Expr} {ga:Lf} {pos p:Pos}
end
def eqN:D->D->Option Bool
 | .non,.int _=>some false
 | .int _,.non=>some false
 | x,y=>eqD 8 x y
def ixE (f:D->Option Bool):List D->Option Nat
 | []=>none
 | x::r=>(f x).bind fun b=>if b=true then(if (r.all fun z=>(f z).isSome) then some 0 else none) else(ixE f r).map (· + 1)
theorem zVx {f:D->Option Bool}:∀ {ds:List D} {j:Nat},ixE f ds=some j->j < ds.length/\(∀(m:Nat) (x:D),ds[m]?=some x->∃b,f x=some b/\(m < j->b=false)/\(m=j->b=true))
 | [],_,h=>by cases h
 | x::r,j,h=>by
   unfold ixE at h
   obtain⟨b,h1,h⟩:=Qq.mp h
   split at h
   · rename_i hb
     split at h
     · rename_i ha
       cases h
       refine⟨Nat.zero_lt_succ _,fun m z hz=>?_⟩
       cases m with
       | zero=>cases hz;exact⟨b,h1,fun q=>absurd q (Ww _),fun _=>hb⟩
       | succ m =>
         rw[Wr] at hz
         obtain⟨b',hb'⟩:=Tw.mp (Qv.mp ha z (Tz hz))
         exact⟨b',hb',fun q=>absurd q (Ov _),fun q=>by cases q⟩
     · cases h
   · rename_i hb
     obtain⟨i,h2,rfl⟩:=Qu.mp h
     obtain⟨h3,h4⟩:=zVx h2
     refine⟨by rw[Qi];omega,fun m z hz=>?_⟩
     cases m with
     | zero=>cases hz;exact⟨b,h1,fun _=>by simpa using hb,fun q=>by omega⟩
     | succ m =>
       rw[Wr] at hz
       obtain⟨b',q1,q2,q3⟩:=h4 m z hz
       exact⟨b',q1,fun q=>q2 (by omega),fun q=>q3 (by omega)⟩
section
variable {X:Cx} {a b c e:Expr} {fa fb:Ef} {ga:Lf} {pos p:Pos}
theorem zJQ {pins:List (Addr×Obj)}{σ:St}{G H:Hp}{s:Shared}(I:Inv X pins σ H s)(sub:Same G H){A:Around}{d d':D}{x y:V}{u v:Value}{k:Bool}(hu:A.units+8 < cLine)(h:eqN d d'=some k)(r1:Rep X.K G d x)(r2:Rep X.K G d' y)(ru:RelV x u)(rv:RelV y v):SeqAt.EqAt A s u v k:=by
 unfold eqN at h
 split at h
 · cases h
   rw[uW] at r1;rw[zH] at r2;subst r1;subst r2
   cases ru;obtain⟨t,rfl⟩:=rv
   exact SeqAt.EqAt.none_int _ _
 · cases h
   rw[zH] at r1;rw[uW] at r2;subst r1;subst r2
   obtain⟨t,rfl⟩:=ru;cases rv
   exact SeqAt.EqAt.int_none _ _
 · exact(zMj I sub 8 A _ _ x y u v _ hu h r1 r2 ru rv).2.2
def zSN (X:Cx):V->List V->Hp->VK->Prop:=fun x vs H Q=>∃l y G ds ws d j,x = .ref l/\vs=[y]/\Same G H/\SqL X.K H l ws/\Reps X.K G ds ws/\Rep X.K G d y/\ixE (fun z=>eqN z d) ds=some j/\ds.length<=100000/\Q (.int (j:Nat)) H
theorem zRC {k:Nat}(hr:Room k X.A):MtR X "list.index" (zSN X):=by
 intro pins s σ H x xs v us Q I rx rv h
 obtain⟨l,y,G,ds,ws,d,j,rfl,rfl,sub,hq,rs,rd,hj,hl,q⟩:=h
 cases rx
 obtain⟨u,rfl,ru⟩:=rv.one
 obtain⟨its,r,pl,_⟩:=I.list hq
 obtain⟨⟨cls,dd,data,sl⟩,ho,hc,n,hd⟩:=pl.isList
 simp only at hc hd
 subst hc hd
 obtain⟨h1,h2⟩:=zVx hj
 have l1:=rs.length
 have l2:=r.length
 have hun:=hr.units
 have bs:∀m,∃b:Bool,(m < j->b=false)/\(m=j->b=true)/\∀(h:m < its.toArray.size),SeqAt.EqAt X.A.in1 s its.toArray[m] u b:=fun m=>by
   by_cases hm:m < ds.length
   · obtain⟨b,q1,q2,q3⟩:=h2 m _ (Qp hm)
     refine⟨b,q2,q3,fun h=>?_⟩
     obtain⟨v1,f1,g1⟩:=rs.get (Qp hm)
     obtain⟨u1,f3,g3⟩:=r.get f1
     have x1:its.toArray[m]=u1:=by
       have:=(Ql.mp f3).2
       simpa using this
     rw[x1]
     exact zJQ I sub (A:=X.A.in1) (by show X.A.units+1+8 < cLine;omega) q1 g1 rd g3 ru
   · exact⟨decide (m=j),fun z=>Qf (by omega),fun z=>Qt z,fun h=>absurd h (by rw[Qs,←l2,←l1];exact hm)⟩
 have hjs:j < its.toArray.size:=by rw[Qs,←l2,←l1];exact h1
 refine Yy F.slot_list_index ⟨_,ho,rfl⟩ F.entry_list_index (F.args_list_index_2 _ _) (zQ8 (l:=l) (its:=its.toArray) (n:=n) (dd:=dd) (sl:=sl) (y:=u) (q:=fun m=>(bs m).choose) (j:=j) hjs (by omega) ((bs j).choose_spec.2.1 rfl) (fun m hm=>(bs m).choose_spec.1 hm)) ⟨ho,fun m h=>(bs m).choose_spec.2.2 h,?_⟩
 exact⟨.int (j:Nat),H,I.tok _,⟨_,rfl⟩,q⟩
def zZU (g:Lf)(f:Ef):Ef:=fun ρ=>(g ρ).bind fun ds=>(f ρ).bind fun d=>if ds.length<=100000 then(ixE (fun z=>eqN z d) ds).map fun j=>.int (j:Nat) else none
theorem zRL {k:Nat}(hr:Room k X.A)(ht:PE X c (tBM X.K "list" (zSN X) (zO2 X.K ga) (zZd (tF X.K fb) zTw))):PF X c (zZU ga fb):=by
 refine PE.to ht ?_
 rintro σ H Q ⟨G0,H0,G,ρ,d,good,hf,k⟩
 unfold zZU at hf
 obtain⟨ds,h1,hf⟩:=Qq.mp hf
 obtain⟨y,h2,hf⟩:=Qq.mp hf
 split at hf
 · rename_i hl
   obtain⟨j,h3,rfl⟩:=Qu.mp hf
   refine⟨G0,H0,G,ρ,_,good,h1,fun q vs H1 G1 s1 hq rs=>⟨.inl ⟨rfl,vs,s1.sub.seq hq⟩,G0,H0,G1,ρ,_,good.step s1,h2,fun v H2 G2 s2 r2=>?_⟩⟩
   exact⟨q,v,G2,ds,vs,y,j,rfl,rfl,s2.sub,(s1.sub.trans s2.hh).seq hq,rs.mono s2.gg,r2,h3,hl,k _ _ G2 (s1.trans s2) (zH.mpr rfl)⟩
 · cases hf
end
def uY (val:Nat->Int):Nat->Int
 | 0=>val 0
 | k+1=>if val (k+1) < uY val k then val (k+1) else uY val k
section
variable {prog:Program} {w:World} {A:Around} {R:Result->Shared->Prop} {I:Addr} {fp wr:List Addr} {n:Nat} {P:Nat->Value->Prop} {St:Nat->Heap->Prop}
theorem zO4 {a b:Int}{t u:Tok}{s:Shared}{Q:Value->Shared->Prop}{E:Value->Shared->Prop}(h:Q (.bool (decide (a < b))) s):wpAny (model prog w) A (richCompare .Lt (.int a t) (.int b u)) Q E s :=
 CmpOf.ints_lt (prog:=prog) (w:=w) (A:=A) (P:=fun i v=>∃t,v = .int (if i=0 then a else b) t) (fun i=>if i=0 then a else b) (fun _ _ h=>h) 0 1 _ _ s Q E ⟨t,rfl⟩ ⟨u,rfl⟩ h
theorem zRJ (W:Walks prog w A.in1 I fp wr n P St)(val:Nat->Int)(hv:∀i v,P i v->∃t,v = .int (val i) t)(d:Value)(S:Addr)(hSf:S∉fp) :
   ∀(k j:Nat) (s:Shared) (t:Tok) (c:Nat),n - (j+1)=k->j+1<=n->St (j+1) s.heap ->
   s.heap.get? S=some { cls:=.type "list",dict:=none,data:=.seq #[.int (uY val j) t,.int (uY val j) t] c,slots:=#[] } ->
   (∀t' h' tk,(∀b o,b∉wr->b≠S->s.heap.get? b=some o->h'.get? b=some o)->R (.ok (.ret (.int (uY val (n - 1)) t'))) { s with heap:=h',toks:=tk }) ->
   codeAny (model prog w) A (.builtin "min.loop" ⟨[.ref I,.none,.ref S],[("default",d)]⟩) R s:=by
 have hSw:S∉wr:=fun h=>hSf (W.sub _ h)
 have hname:(toString "min"++toString ".loop":String)="min.loop":=by decide
 intro k
 induction k with
 | zero =>
   intro j s t c hk hj hst hS hR
   have hin:j+1=n:=by omega
   refine Ez F.entry_min_loop ?_
   rw[Wn F.plain_min_loop _]
   show wpAny _ A.in1 (seqItems? (.ref S) >>= _) _ _ s
   refine Qw (Ee hS rfl ?_)
   show wpAny _ A.in1 (tryCatch (pyNext (.ref I)) _ >>= _) _ _ s
   refine Qw (Up (W.done s _ _ (hin ▸ hst) fun h' tk hk'=>?_))
   have hS':=hk' S _ hSw hS
   show wpAny _ A.in1 (updateSeq S (fun _=>#[]) >>= _) _ _ _
   refine Qw (Tt hS' rfl (Qw (Yg (Qo ?_))))
   rw[←hin] at hR
   exact hR t _ tk fun b o hbw hbS e=>(Wz _ _ (Ne.symm hbS)).trans (hk' b o hbw e)
 | succ k ih =>
   intro j s t c hk hj hst hS hR
   have hlt:j+1 < n:=by omega
   refine Ez F.entry_min_loop ?_
   rw[Wn F.plain_min_loop _]
   show wpAny _ A.in1 (seqItems? (.ref S) >>= _) _ _ s
   refine Qw (Ee hS rfl ?_)
   show wpAny _ A.in1 (tryCatch (pyNext (.ref I)) _ >>= _) _ _ s
   refine Qw (Up (W.item (j+1) s _ _ hlt hst fun v h' tk hP hst' hk'=>?_))
   obtain⟨tv,rfl⟩:=hv _ _ hP
   have hS':=hk' S _ hSw hS
   show wpAny _ A.in1 (tryCatch (holding _ (richCompare .Lt _ _ >>= _)) _ >>= _) _ _ _
   refine Qw (Up (Rq (Qw (zO4 ?_))))
   refine Qw (Rq (Eb ?_))
   refine Qw (Yg (Qo ?_))
   by_cases hb:val (j+1) < uY val j
   · rw[Qt hb]
     simp only[Tp]
     refine Qw (Tt hS' rfl (Qw (Yg ?_)))
     rw[hname]
     have em:uY val (j+1)=val (j+1):=by rw[uY,Qx hb]
     refine Qo ⟨El F.plain_min_loop _,ih (j+1) _ tv _ (by omega) hlt (W.frame _ _ _ hst' fun b hbf o e=>?_) (by rw[em];exact Wf _ hS' rfl) fun t' h'' tk'' hk''=>?_⟩
     · exact(Wz _ _ (fun h:S=b=>hSf (by rw[h];exact hbf))).trans e
     · exact hR t' h'' tk'' fun b o hbw hbS e=>hk'' b o hbw hbS ((Wz _ _ (Ne.symm hbS)).trans (hk' b o hbw e))
   · rw[Qf hb]
     simp only[Wg,Ta]
     refine Qw (Yg ?_)
     rw[hname]
     have em:uY val (j+1)=uY val j:=by rw[uY,Wy hb]
     exact Qo ⟨El F.plain_min_loop _,ih (j+1) _ t c (by omega) hlt hst' (by rw[em];exact hS') fun t' h'' tk'' hk''=>hR t' h'' tk'' fun b o hbw hbS e=>hk'' b o hbw hbS (hk' b o hbw e)⟩
end
section
variable {prog:Program} {w:World} {A:Around} {E:Value->Shared->Prop} {s:Shared}
theorem zQr {l:Addr}{d:Value}{xs:Array (Int×Tok)}{Q:Value->Shared->Prop}(hh:A.handled=none)(hl:s.heap.IsList l (intItems xs))(hn:0 < xs.size)
   (h:∀t h' tk,(∀b o,s.heap.get? b=some o->h'.get? b=some o)->Q (.int (uY (numAt xs) (xs.size - 1)) t) { s with heap:=h',toks:=tk }) :
   wpAny (model prog w) A (call (.builtin "min") [.ref l] [("default",d)]) Q E s:=by
 have hname:(toString "min"++toString ".loop":String)="min.loop":=by decide
 refine dI F.kind_min F.plain_min F.entry_min (zXK _ _) ?_
 show wpAny _ A.in1 (Builtin.Builtins.bindParams "min" ["key","default"] 0 ⟨[],[("default",d)]⟩ >>= _) _ _ s
 refine Qw (Ob (show Builtin.Builtins.bindParams "min" ["key","default"] 0 ⟨[],[("default",d)]⟩=pure [none,some d] from rfl) ?_)
 refine Qw (Qo ?_)
 refine Qw (Ua hl ?_)
 refine Qw (Em ?_)
 rw[hname]
 have hne:l≠s.heap.objs.size:=by obtain⟨_,e,_⟩:=hl;exact We (Qy e)
 have hsz:(intItems xs).size=xs.size:=by simp[intItems]
 have W:=Walks.list (prog:=prog) (w:=w) (A:=A.in1) hh s.heap.objs.size l hne (intItems xs)
 have hll:l < s.heap.objs.size:=by obtain⟨_,e,_⟩:=hl;exact Qy e
 refine Qo ⟨El F.plain_min_loop _,Ez F.entry_min_loop ?_⟩
 rw[Wn F.plain_min_loop _]
 show wpAny _ A.in1 (seqItems? (.ref _) >>= _) _ _ _
 refine Qw (Ee (Qa _ rfl) rfl ?_)
 have hps:(s.heap.push { cls:=.type "list_iterator",data:=.fields #[.ref l,.int 0 0] }).objs.size=s.heap.objs.size+1:=Ek _ _
 refine Qw (Up (W.item 0 _ _ _ (by rw[hsz];exact hn) ⟨⟨_,Qe _ (Qa _ rfl),rfl,rfl⟩,(hl.push _).push _⟩ fun v h' tk hP hst' hk'=>?_))
 obtain⟨tv,rfl⟩:=intItems_at hP
 have hSw:(s.heap.push { cls:=.type "list_iterator",data:=.fields #[.ref l,.int 0 0] }).objs.size∉[s.heap.objs.size]:=fun hm=>by
   rw[Wh] at hm;omega
 have hS':=hk' _ _ hSw (Qa _ rfl)
 show wpAny _ A.in1 (updateSeq _ (fun _=>#[.int (numAt xs 0) tv,.int (numAt xs 0) tv]) >>= _) _ _ _
 refine Qw ?_
 refine Tt hS' rfl ?_
 rw[hname]
 have hSf:(s.heap.push { cls:=.type "list_iterator",data:=.fields #[.ref l,.int 0 0] }).objs.size∉[s.heap.objs.size,l]:=fun hm=>by
   rcases Qz.mp hm with z | z
   · rw[hps] at z;exact Nat.succ_ne_self _ z
   · rw[Wh,hps] at z
     rw[←z] at hll
     exact absurd hll (Nat.not_lt.mpr (Td _))
 refine Qo ⟨El F.plain_min_loop _,zRJ W (numAt xs) (fun i v h=>intItems_at h) d _ hSf _ 0 _ tv _ rfl (by rw[hsz];exact hn) (W.frame _ _ _ hst' fun b hbf o e=>?_) (Wf _ hS' rfl) fun t' h'' tk'' hk''=>?_⟩
 · exact(Wz _ _ (fun z=>hSf (by rw[z];exact hbf))).trans e
 · rw[hsz]
   refine h t' h'' tk'' fun b o e=>?_
   have hlt:=Qy e
   have n1:b∉[s.heap.objs.size]:=fun hm=>by rw[Wh] at hm;rw[hm] at hlt;exact Ww _ hlt
   have n2:b≠(s.heap.push { cls:=.type "list_iterator",data:=.fields #[.ref l,.int 0 0] }).objs.size:=fun z=>by rw[hps] at z;rw[z] at hlt;exact absurd hlt (Nat.not_lt.mpr (Td _))
   exact hk'' b o n1 n2 ((Wz _ _ (Ne.symm n2)).trans (hk' b o n1 (Qe _ (Qe _ e))))
end
section
variable {X:Cx} {a:Expr} {ga:Lf} {pos p:Pos}
def fM (ns:List Int):Int:=uY (fun i=>ns.getD i 0) (ns.length - 1)
def zZt (g:Lf):Ef:=fun ρ=>(g ρ).bind fun ds=>(bD ds).bind fun ns=>if ns.isEmpty=true then some .non else some (.int (fM ns))
theorem zO5 {kp:Pos}{j}{p2:Pos}(hc:X.calm=true)(hg:Gl X "min")(hm:X.mg "min"=none)(h:zW9 X a ga)(hs:starEach [a] X.env=[(false,eval a X.env)]:=by rfl) :
   PF X (.Call (.Name "min" p) [a] [⟨some "default",.Constant .none j p2,kp⟩] pos) (zZt ga):=by
 refine PE.to (t:=fun σ H Q=>zO2 X.K ga σ H fun v H1=>∃q ns,v = .ref q/\SqL X.K H1 q (ns.map V.int)/\Q (if ns.isEmpty=true then .non else .int (fM ns)) H1) ?_ ?_
 · intro pins s σ H Q I h0
   refine Rh (nS I hg hm (u:=.builtin "min") (by rfl) ?_ (by decide) (by decide))
   refine callWith_kw ?_ (by rw[hs];rfl) (by rw[hs];rfl) (by rfl) (by rfl)
   refine spliced_more (thn (h pins s σ H _ I h0) fun u s1 ⟨v,H1,I1,rv,q,ns,e,sq,q1⟩=>?_) (by rw[hs];rfl)
   subst e
   cases rv
   refine spliced_none ?_
   refine kws_cons (thn (zQ2 (X:=X) (j:=j) (pos:=p2) pins s1 σ H1 _ I1 (show tC .non σ H1 (fun v H2=>v = .non/\H2=H1) from⟨rfl,rfl⟩)) fun u2 s2 ⟨v2,H2,I2,rv2,e2,e3⟩=>?_)
   subst e2 e3
   cases rv2
   refine kws_nil ?_
   obtain⟨its,rl,pl,_⟩:=I2.list sq
   cases ns with
   | nil =>
     cases rl
     exact zN5 (I2.ok.hd hc) pl.isList fun h' tk hk=>⟨.non,H2,I2.kept hk,rfl,q1⟩
   | cons x r =>
     obtain⟨ps,rfl,hps⟩:=cQ rl
     have hit:s2.heap.IsList q (intItems ps.toArray):=by
       have:=pl.isList
       unfold intItems
       rw[List.map_toArray]
       exact this
     have hlen:ps.length=r.length+1:=by
       have:=Rg List.length hps
       simpa using this
     have hnum:(fun i=>numAt ps.toArray i)=fun i=>(x::r).getD i 0:=by
       funext i
       rw[←hps]
       unfold numAt
       rw[Ie,Wq,Wu]
     refine zQr (I2.ok.hd hc) hit (by simp[hlen]) fun t h' tk hk=>⟨.int _,H2,I2.kept hk,⟨t,rfl⟩,?_⟩
     have e:uY (numAt ps.toArray) (ps.toArray.size - 1)=fM (x::r):=by
       unfold fM
       rw[←hnum,Qs,hlen,Qi]
     rw[e]
     exact q1
 · rintro σ H Q ⟨G0,H0,G,ρ,d,good,hf,k⟩
   unfold zZt at hf
   obtain⟨ds,h1,hf⟩:=Qq.mp hf
   obtain⟨ns,h2,hf⟩:=Qq.mp hf
   refine⟨G0,H0,G,ρ,ds,good,h1,fun q vs H1 G1 s1 e1 r1=>⟨q,ns,rfl,by rw[←iM h2 r1];exact s1.sub.seq e1,?_⟩⟩
   split at hf
   · rename_i he
     cases hf
     rw[Qx he]
     exact k _ _ G1 s1 (uW.mpr rfl)
   · rename_i he
     cases hf
     rw[Wy he]
     exact k _ _ G1 s1 (zH.mpr rfl)
end
section
variable {X:Cx} {a b c e tg elt iter:Expr} {fa fb:Ef} {pos p:Pos}
end
mutual
def zKw:D->Bool
 | .non=>true
 | .bl _=>true
 | .int _=>true
 | .str _=>true
 | .tup ds=>zMY ds
 | _=>false
def zMY:List D->Bool
 | []=>true
 | d::r=>zKw d&&zMY r
end
section
variable {X:Cx} {e:Expr} {fa:Ef} {ga:Lf} {ta:Tf}
end
section
variable {X:Cx} {pins:List (Addr×Obj)} {σ:St} {H G:Hp} {s:Shared}
end
section
variable {X:Cx} {k:Nat}
end
abbrev Jf:=List B->Option Str
section
variable {X:Cx} {e c a:Expr} {es:List Expr} {fa fb:Ef} {g:Jf} {pos p:Pos}
end
section
variable {prog:Program} {w:World} {A:Around} {E:Value->Shared->Prop} {s:Shared}
end
section
variable {X:Cx} {a b c e tg elt iter:Expr} {fa fb:Ef} {pos p:Pos}
end
section
variable {prog:Program} {w:World} {A:Around} {E:Value->Shared->Prop} {s:Shared}
end
section
variable {X:Cx} {a:Expr} {fa:Ef} {pos p:Pos}
end
end L2
namespace L2
open PySem PySem.Spec PyProof.Rows
open PySem.Builtin PySem.Builtin.Str
theorem zXr:∀l:List (Str×Tok),Vals ((l.map (·.1)).map V.str) (strValues l)
 | []=>.nil
 | (x,t)::r=>.cons ⟨t,rfl⟩ (zXr r)
section
variable {X:Cx} {e c a:Expr} {es:List Expr} {fa fb:Ef} {pos p:Pos}
def zPy:V->List V->Hp->VK->Prop:=fun x vs H Q=>∃z y,x = .str z/\vs=[.str y]/\1<=y.length/\z.length<=100000/\∀p,H p=none->Q (.ref p) (upd H p (.lst ((Txt.split z y).map V.str)))
theorem zYQ:MtR X "str.split" zPy:=by
 intro pins s σ H x xs v us Q I rx rv h
 obtain⟨z,y,rfl,rfl,hy1,hz,q⟩:=h
 obtain⟨t,rfl⟩:=rx
 obtain⟨w,rfl,u,rfl⟩:=rv.one
 have hy:(y.length==0)=false:=by rw[Ei];omega
 have hsl:sizeLine=sizeLine:=rfl
 have hlen:=split_le z y
 have go:∀(l:List (Str×Tok)) (k:Nat),l.map (·.1)=Txt.split z y->EP X pins σ Q (.ref s.heap.objs.size) { s with toks:=k,heap:=s.heap.push { cls:=.type "list",data:=.seq (strValues l).toArray } }:=by
   intro l k hl
   refine⟨.ref s.heap.objs.size,_,I.laid (o:=.lst ((Txt.split z y).map V.str)) (fun b o e=>Qe _ e) (Qk _) ?_,rfl,q _ I.fresh⟩
   exact⟨by rw[Qg,Uf];omega,_,_,by rw[←hl];exact zXr l,Qa _ rfl⟩
 have hn:(partsBetween z (occurrences z y 0 z.length (z.length+1)) y.length).length<=sizeLine:=by
   have e1:=StrLaws.occ_length_le z y 0 z.length (z.length+1)
   rw[length_partsBetween,Uf];omega
 cases h1:(decide (z.length < y.length)||decide (strKind z < strKind y))
 · cases hf:(occurrences z y 0 z.length (z.length+1)).isEmpty
   · refine Yy F.slot_str_split (Ih _ _ _) F.entry_str_split (F.args_str_split_2 _ _) (meets_str_split_sep z y t u h1 hy hf (by rw[Uf];omega) hn) ?_
     show wants _ _ _ { s with toks:=_,heap:=s.heap.push { cls:=.type "list",data:=.seq (strsFrom s.toks (partsBetween z (occurrences z y 0 z.length (z.length+1)) y.length)).toArray } }
     rw[strsFrom_eq]
     exact go (PySem.numbered s.toks _) _ ((numbered_texts _ _).trans ((Wy (Iv h1)).trans (Wy (Iv hf))).symm)
   · exact Yy F.slot_str_split (Ih _ _ _) F.entry_str_split (F.args_str_split_2 _ _) (meets_str_split_not_found z y t u h1 hy hf) (go [(z,t)] s.toks ((Wy (Iv h1)).trans (Qx hf)).symm)
 · exact Yy F.slot_str_split (Ih _ _ _) F.entry_str_split (F.args_str_split_2 _ _) (meets_str_split_cannot_occur z y t u h1) (go [(z,t)] s.toks (Qx h1).symm)
theorem zXJ {K:PySem.W.Frag}{G:Hp}:∀ys:List Str,Reps K G (ys.map D.str) (ys.map V.str)
 | []=>by rw[Ro,Ro,yQ]
 | y::r=>by rw[Qj,Qj];exact yZ.mpr ⟨_,_,rfl,yH.mpr rfl,zXJ r⟩
def fW (x y:D):Option (List D):=match x,y with | .str z,.str m=>if 1<=m.length/\z.length<=100000 then some ((Txt.split z m).map D.str) else none | _,_=>none
def jY (fa fb:Ef):Lf:=fun ρ=>(fa ρ).bind fun x=>(fb ρ).bind fun y=>fW x y
theorem zZl (ht:PE X c (tBM X.K "str" zPy (tF X.K fa) (zZd (tF X.K fb) zTw))):PFr X c (jY fa fb):=by
 refine PE.toR ht ?_
 rintro σ H Q ⟨G0,H0,G,ρ,d,good,hf,k⟩
 unfold jY at hf
 obtain⟨x,h1,hf⟩:=Qq.mp hf
 obtain⟨y,h2,hf⟩:=Qq.mp hf
 unfold fW at hf
 split at hf
 · split at hf
   · rename_i hz
     cases hf
     refine⟨G0,H0,G,ρ,_,good,h1,fun u H1 G1 s1 r1=>?_⟩
     have r1:=yH.mp r1
     subst r1
     refine⟨rfl,G0,H0,G1,ρ,_,good.step s1,h2,fun v H2 G2 s2 r2=>?_⟩
     have r2:=yH.mp r2
     subst r2
     refine⟨_,_,rfl,rfl,hz.1,hz.2,fun l hl=>?_⟩
     exact k l _ _ G2 ((s1.trans s2).trans (Step.own s2.sub hl)) ((s1.trans s2).hh.free hl) zE (s2.sub.free hl) (zXJ _)
   · cases hf
 · cases hf
end
theorem zXj {c:Nat}:∀ {x x' r r':List Nat},c∉x->c∉x'->x++c::r=x'++c::r'->x=x'/\r=r'
 | [],[],_,_,_,_,h=>⟨rfl,(Oi h).2⟩
 | [],b::x',_,_,_,h2,h=>absurd (by rw[(Oi h).1];exact Qh) h2
 | a::x,[],_,_,h1,_,h=>absurd (by rw[←(Oi h).1];exact Qh) h1
 | a::x,b::x',_,_,h1,h2,h=>by
   obtain⟨e1,e2⟩:=Oi h
   obtain⟨e3,e4⟩:=zXj (fun z=>h1 (Qd _ z)) (fun z=>h2 (Qd _ z)) e2
   exact⟨by rw[e1,e3],e4⟩
def jR (c:Nat)(y:Str):Prop:=c∉y.cps.toList
theorem zYY (c:Nat)(x y:Str)(r:List Str):(Str.join ⟨#[c]⟩ (x::y::r)).cps.toList=x.cps.toList++c::(Str.join ⟨#[c]⟩ (y::r)).cps.toList:=by
 show(x++⟨#[c]⟩++Str.join ⟨#[c]⟩ (y::r)).cps.toList=_
 rw[Str.cps_append,Str.cps_append]
 simp
theorem hG {c:Nat}{x:Str}{z y:Str}{r:List Str}(hx:jR c x):x≠Str.join ⟨#[c]⟩ (z::y::r):=fun e=>by
 have:=Rg (fun q:Str=>q.cps.toList) e
 rw[zYY] at this
 exact hx (by rw[this];simp)
theorem zUM {c:Nat}:∀ {xs ys:List Str},(∀x∈xs,jR c x)->(∀y∈ys,jR c y)->xs≠[]->ys≠[]->Str.join ⟨#[c]⟩ xs=Str.join ⟨#[c]⟩ ys->xs=ys
 | [],_,_,_,h,_,_=>absurd rfl h
 | _,[],_,_,_,h,_=>absurd rfl h
 | [x],[y],_,_,_,_,h=>by rw[show x=y from h]
 | [x],y::z::r,hx,_,_,_,h=>absurd h (hG (hx x Qh))
 | x::z::r,[y],_,hy,_,_,h=>absurd h.symm (hG (hy y Qh))
 | x::z::r,y::w::q,hx,hy,_,_,h=>by
   have e:=Rg (fun q:Str=>q.cps.toList) h
   rw[zYY,zYY] at e
   obtain⟨e1,e2⟩:=zXj (hx x Qh) (hy y Qh) e
   have e3:x=y:=by cases x;cases y;simp at e1;rw[e1]
   have e4:Str.join ⟨#[c]⟩ (z::r)=Str.join ⟨#[c]⟩ (w::q):=by
     generalize Str.join ⟨#[c]⟩ (z::r)=u at e2
     generalize Str.join ⟨#[c]⟩ (w::q)=v at e2
     cases u;cases v;simp at e2;rw[e2]
   rw[e3,zUM (fun x h=>hx x (Qd _ h)) (fun x h=>hy x (Qd _ h)) (Ux _ _) (Ux _ _) e4]
theorem zZe (c:Nat)(ys:List Str)(hy:∀y∈ys,jR c y)(hn:ys≠[]):Txt.split (Str.join ⟨#[c]⟩ ys) ⟨#[c]⟩=ys:=by
 refine zUM (fun x hx=>StrLaws.split_free _ c x hx) hy (fun z=>?_) hn (StrLaws.join_split _ _)
 have:=split_pos (Str.join ⟨#[c]⟩ ys) ⟨#[c]⟩
 rw[z] at this
 simp at this
end L2
namespace L2
open PySem PySem.Spec PyProof.Rows
open PySem.Builtin PySem.Builtin.Str
section
variable {X:Cx} {a c:Expr} {fa fb:Ef} {ga:Lf} {pos p:Pos}
end
section
variable {P:Program} {w:World} {K:PySem.W.Frag} {mg:Str->Option Value} {base:Heap} {k:Nat} {f:Addr} {fd:FuncData} {ps:List Str}
end
end L2
namespace L2
open PySem PySem.Spec PyProof.Rows
section
variable {X:Cx} {a b elt iter tg:Expr} {ifs:List Expr} {gi:Lf} {pos p:Pos} {k:Nat}
end
section
variable {X:Cx} {a b c e tg:Expr} {fa fb:Ef} {pos p:Pos} {k:Nat}
end
def eZ:Value->Option D
 | .none=>some .non
 | .bool b=>some (.bl b)
 | .int i _=>some (.int i)
 | .str x _=>some (.str x)
 | _=>none
theorem zPj {u:Value}{d:D}(h:eZ u=some d):∃v,RelV v u/\∀K G,Rep K G d v:=by
 cases u<;>first | cases h | skip
 · exact⟨.non,rfl,fun _ _=>uW.mpr rfl⟩
 · exact⟨.bl _,rfl,fun _ _=>wM.mpr rfl⟩
 · exact⟨.int _,⟨_,rfl⟩,fun _ _=>zH.mpr rfl⟩
 · exact⟨.str _,⟨_,rfl⟩,fun _ _=>yH.mpr rfl⟩
def zT9 (P:Params)(l:List (Str×Tok×Value)):List DictEntry:=l.map fun p=>⟨PyData.keyHash P p.1,.str p.1 p.2.1,p.2.2⟩
def kvC (l:List (Str×Tok×Value)):List (Str×D):=l.map fun p=>(p.1,(eZ p.2.2).getD .non)
structure DictC (w:World)(K:PySem.W.Frag)(a:Addr)(kvs:List (Str×D)):Prop where
 sys:(a==sysModules)=false
 at':∃(l:List (Str×Tok×Value)) (n:Nat),K.lookup a=some ⟨.type "dict",none,.dict (zT9 w.params l).toArray n,#[]⟩/\kvs=kvC l/\(l.all fun p=>(eZ p.2.2).isSome)=true
theorem zS4 {P:Params}:∀l:List (Str×Tok×Value),PySem.W.KeysLit P (zT9 P l)
 | []=>trivial
 | (x,t,v)::r=>⟨⟨x,t,rfl,rfl⟩,zS4 r⟩
theorem zP0 {P:Params}(x:Str):∀l:List (Str×Tok×Value),(l.all fun p=>(eZ p.2.2).isSome)=true ->
   match (kvC l).lookup x with
   | some d=>∃u,findBy Value.isStrOf (zT9 P l).toArray x=some u/\eZ u=some d
   | none=>findBy Value.isStrOf (zT9 P l).toArray x=none
 | [],_=>rfl
 | (y,t,v)::r,h=>by
   have h':=Wm.mp (by simpa using h:((eZ v).isSome&&(r.all fun p=>(eZ p.2.2).isSome))=true)
   have ih:=zP0 (P:=P) x r h'.2
   show match ((y,(eZ v).getD .non)::kvC r).lookup x with | some d=>_ | none=>_
   unfold findBy at ih ⊢
   rw[List.find?_toArray] at ih ⊢
   show match ((y,(eZ v).getD .non)::kvC r).lookup x with
     | some d=>∃u,(((⟨PyData.keyHash P y,.str y t,v⟩:DictEntry)::zT9 P r).find? fun e=>Value.isStrOf x e.key).map (·.val)=some u/\eZ u=some d
     | none=>(((⟨PyData.keyHash P y,.str y t,v⟩:DictEntry)::zT9 P r).find? fun e=>Value.isStrOf x e.key).map (·.val)=none
   by_cases e:y=x
   · subst e
     have q:Value.isStrOf y (.str y t)=true:=Tb y
     rw[Er,Tb,Uq]
     rw[show(Value.isStrOf y (⟨PyData.keyHash P y,.str y t,v⟩:DictEntry).key)=true from q]
     obtain⟨d,hd⟩:=Tw.mp h'.1
     exact⟨v,rfl,by rw[hd];rfl⟩
   · have q:Value.isStrOf x (.str y t)=false:=Ei.mpr e
     have q2:(x==y)=false:=Ei.mpr (Ne.symm e)
     rw[Er,q2,Uq,show(Value.isStrOf x (⟨PyData.keyHash P y,.str y t,v⟩:DictEntry).key)=false from q]
     exact ih
section
variable {X:Cx} {a b:Expr} {fa fb:Ef} {pos p:Pos} {x:Str} {da:Addr} {kvs:List (Str×D)}
variable {pins:List (Addr×Obj)} {σ:St} {H:Hp} {s:Shared}
theorem DictC.map (h:DictC X.w X.K da kvs)(I:Inv X pins σ H s):∃f:Str->Option Value,s.heap.MapOf (strKind X.prog X.w) da f/\∀y,match kvs.lookup y with | some d=>∃u,f y=some u/\eZ u=some d | none=>f y=none:=by
 obtain⟨l,n,h1,h2,h3⟩:=h.at'
 subst h2
 exact⟨_,PySem.W.mapOf_K I.kIn h1 (by simpa using zS4 l),fun y=>zP0 y l h3⟩
def zK8 (X:Cx)(kvs:List (Str×D))(da:Addr)(c:Bool):R2:=fun v y H Q=>∃z,v = .str z/\y = .ref da/\Q (.bl (c==(kvs.lookup z).isSome)) H
theorem zRM (h:DictC X.w X.K da kvs):OpR X (compareOp .NotIn) (zK8 X kvs da false):=by
 intro pins s σ H x y v u Q I rx ry ⟨z,e1,e2,q⟩
 subst e1 e2
 obtain⟨t,rfl⟩:=rx
 cases ry
 obtain⟨f,hm,hf⟩:=h.map I
 refine wpAny_notIn_of (strKind_is X.prog X.w z t) h.sys hm ?_
 have e:(!(f z).isSome)=(false==(kvs.lookup z).isSome):=by
   have:=hf z
   cases hk:kvs.lookup z with
   | none=>rw[hk] at this;rw[this];rfl
   | some d=>rw[hk] at this;obtain⟨u,hu,_⟩:=this;rw[hu];rfl
 rw[e]
 exact⟨.bl _,H,I.tok _,rfl,q⟩
def zPt (c:Bool)(kvs:List (Str×D))(fa:Ef):Tf:=fun ρ=>(fa ρ).bind fun d=>match d with | .str z=>some (c==(kvs.lookup z).isSome) | _=>none
theorem zMd {c:Bool}{σ:St}{H:Hp}{Q:Bool->Hp->Prop}(q:tFT X.K (zPt c kvs fa) σ H Q):zQ4 (tOp (zK8 X kvs da c) (tF X.K fa) (tC (.ref da))) σ H Q:=by
 obtain⟨G0,H0,G,ρ,c',good,hf,kk⟩:=q
 unfold zPt at hf
 obtain⟨d,h1,hf⟩:=Qq.mp hf
 split at hf
 · rename_i z
   cases hf
   refine⟨G0,H0,G,ρ,_,good,h1,fun u H1 G1 s1 r1=>?_⟩
   exact⟨z,yH.mp r1,rfl,_,rfl,kk _ G1 s1⟩
 · cases hf
theorem zXv (h:DictC X.w X.K da kvs)(hg:Gl X x)(hx:X.mg x=some (.ref da))(ha:PF X a fa)(hd:(x==("__debug__":Str))=false:=by decide)
   (hm:behindInMarks .NotIn (.Name x p)=false:=by first | exact zYW _ | (with_unfolding_all rfl)):PFT X (.Compare a [.NotIn] [.Name x p] pos) (zPt false kvs fa) :=
 PT.to (zZW (zRM h) ha (zZV (v:=.ref da) hg hx rfl hd) hm) fun _ _ _=>zMd
def zKc (X:Cx)(kvs:List (Str×D))(da:Addr):R2:=fun v y H Q=>∃z d,v = .ref da/\y = .str z/\kvs.lookup z=some d/\∀o,(∀G,Rep X.K G d o)->Q o H
theorem zJT (h:DictC X.w X.K da kvs):IxR X (zKc X kvs da):=by
 intro value slice pins s σ H x y v u Q I rx ry ⟨z,d,e1,e2,e3,q⟩ hs
 subst e1 e2
 cases rx
 obtain⟨t,rfl⟩:=ry
 obtain⟨f,hm,hf⟩:=h.map I
 have:=hf z
 rw[e3] at this
 obtain⟨u,hu,hd⟩:=this
 obtain⟨o,ro,rep⟩:=zPj hd
 exact tail_any hm.typeIs slot_dict_getitem.lookup (wpAny_getItem_of (strKind_is X.prog X.w z t) hm hu ⟨o,H,I.tok _,ro,q o fun G=>rep _ G⟩) hs
def zNW (kvs:List (Str×D))(fb:Ef):Ef:=fun ρ=>(fb ρ).bind fun d=>match d with | .str z=>kvs.lookup z | _=>none
theorem zPF (h:DictC X.w X.K da kvs)(hg:Gl X x)(hx:X.mg x=some (.ref da))(hb:PF X b fb)(hd:(x==("__debug__":Str))=false:=by decide)(hs:aF b:=by exact fun _ _=>rfl):PF X (.Subscript (.Name x p) b pos) (zNW kvs fb):=by
 refine PE.to (zQM (zJT h) (zZV (v:=.ref da) hg hx rfl hd) hb hs) ?_
 rintro σ H Q ⟨G0,H0,G,ρ,d,good,hf,k⟩
 unfold zNW at hf
 obtain⟨y,h1,hf⟩:=Qq.mp hf
 split at hf
 · rename_i z
   refine⟨G0,H0,G,ρ,_,good,h1,fun u H1 G1 s1 r1=>⟨z,d,rfl,yH.mp r1,hf,fun o ho=>k _ _ G1 s1 (ho _)⟩⟩
 · cases hf
theorem zUZ {w:World}{K:PySem.W.Frag}{n:Nat}(l:List (Str×Tok×Value))(h:K.lookup da=some ⟨.type "dict",none,.dict (zT9 w.params l).toArray n,#[]⟩)(hs:(da==sysModules)=false)(hl:(l.all fun p=>(eZ p.2.2).isSome)=true:=by rfl):DictC w K da (kvC l) :=
 ⟨hs,l,n,h,rfl,hl⟩
end
def zKq (l:List (Int×Tok×Value)):List DictEntry:=l.map fun p=>⟨hashInt p.1,.int p.1 p.2.1,p.2.2⟩
def kvN (l:List (Int×Tok×Value)):List (Int×D):=l.map fun p=>(p.1,(eZ p.2.2).getD .non)
structure DictN (K:PySem.W.Frag)(a:Addr)(kvs:List (Int×D)):Prop where
 at':∃(l:List (Int×Tok×Value)) (n:Nat),K.lookup a=some ⟨.type "dict",none,.dict (zKq l).toArray n,#[]⟩/\kvs=kvN l/\(l.all fun p=>(eZ p.2.2).isSome)=true
section
variable {X:Cx} {a b:Expr} {fa fb:Ef} {pos p:Pos} {x:Str} {da:Addr} {kvs:List (Int×D)}
variable {pins:List (Addr×Obj)} {σ:St} {H:Hp} {s:Shared}
end
theorem zWa (o:Option D):(o.map Out.rt).bind w8=o:=by cases o<;>rfl
theorem zA {f g:Sf}{ρ ρ':List B}(h:f ρ=some (.nx ρ')):zO f g ρ=g ρ':=by unfold zO;rw[h];rfl
theorem xL {f g:Sf}{ρ ρ':List B}{r:Option D}(h:f ρ=some (.nx ρ'))(k:(g ρ').bind w8=r):(zO f g ρ).bind w8=r:=by rw[zA h];exact k
theorem iN {f g:Sf}{ρ:List B}{d:D}(h:f ρ=some (.rt d)):zO f g ρ=some (.rt d):=by unfold zO;rw[h];rfl
theorem tL {g:Gf}{body:Sf}{d:D}{r:List D}{ρ ρ1 ρ2:List B}(h1:g d ρ=some ρ1)(h2:body ρ1=some (.nx ρ2)):sD g body (d::r) ρ=sD g body r ρ2:=by
 rw[sD,h1,Qr,h2,Qr]
theorem yF {f:Ef}{g:Lf}{ρ:List B}{d:D}{ds:List D}(h1:f ρ=some d)(h2:g ρ=some ds):zY f g ρ=some (d::ds):=by unfold zY;rw[h1,h2];rfl
theorem zMT {g:Lf}{ρ:List B}{ds:List D}(h:g ρ=some ds):eL g ρ=some (.lst ds):=by unfold eL;rw[h];rfl
theorem dW {n:Nat}{f:List D->Option D}{g:Lf}{ρ:List B}{ds:List D}(h:g ρ=some ds)(hl:ds.length=n):zL n f g ρ=f ds:=by unfold zL;rw[h,Qr,Qx hl]
theorem zQQ {c:Str}{ns:List Str}{n:Nat}{f:List D->Option (List D)}{g:Lf}{ρ:List B}{ds xs:List D}(h:g ρ=some ds)(hl:ds.length=n)(hf:f ds=some xs)(hn:ns.length=xs.length):zZf c ns n f g ρ=some (.obj c ns xs):=by
 unfold zZf;rw[h,Qr,Qx hl,hf,Qr,Qx hn]
theorem zV0 {g:Gf}{body:Sf}{P:List B->Prop}:∀(ds:List D),(∀d∈ds,∀ρ,P ρ->∃ρ1 ρ2,g d ρ=some ρ1/\body ρ1=some (.nx ρ2)/\P ρ2)->∀ρ,P ρ->∃ρ',sD g body ds ρ=some (.nx ρ')/\P ρ'
 | [],_,ρ,h=>⟨ρ,rfl,h⟩
 | d::r,hs,ρ,h=>by
   obtain⟨ρ1,ρ2,e1,e2,h2⟩:=hs d Qh ρ h
   obtain⟨ρ',e,h'⟩:=zV0 r (fun d hd=>hs d (Qd _ hd)) ρ2 h2
   exact⟨ρ',by rw[tL e1 e2];exact e,h'⟩
theorem zQl {lo:Int}{n:Nat}{d:D}(h:d∈tX lo n):∃i:Nat,i < n/\d = .int (lo+i):=by
 unfold tX at h
 obtain⟨i,hi,rfl⟩:=Wx.mp h
 exact⟨i,To.mp hi,rfl⟩
theorem uI (lo:Int)(n:Nat):(tX lo n).length=n:=by simp[tX]
theorem zUJ {elt:Ef}{h:D->D}{rest:List B}:∀(ds:List D) (x0:B) (acc:List D),(∀d∈ds,elt (.fz d::rest)=some (h d))->mT (gN 0) tOK elt ds (x0::rest) acc=some (acc++ds.map h)
 | [],_,acc,_=>by simp[mT]
 | d::r,x0,acc,hh=>by
   unfold mT
   have e1:gN 0 d (x0::rest)=some (.fz d::rest):=rfl
   have e2:tOK (.fz d::rest)=some true:=rfl
   rw[e1,Qr,e2,Qr,Qx rfl,hh d Qh,Qr,zUJ r _ _ fun q hq=>hh q (Qd _ hq)]
   simp
theorem zUr {t:List D}(h:t.length<=100000):okL t=some t:=by
 unfold okL
 rw[Qx h]
theorem zZs {i j:Int}(h1 : -18446744073709551616 < i)(h2:i < 18446744073709551616):zZg i j=true:=by
 unfold zZg;simp only[Tj,Qn,Wo];exact .inl ⟨by omega,by omega⟩
theorem zQN {i j:Int}(h1 : -18446744073709551616 < j)(h2:j < 18446744073709551616):zZg i j=true:=by
 unfold zZg;simp only[Tj,Qn,Wo];exact .inr ⟨by omega,by omega⟩
end L2
noncomputable section
namespace My
open PySem L2
abbrev cK:Stmt:=top 47
abbrev cH:Stmt:=top 48
abbrev gA:Stmt:=top 53
abbrev lI:Stmt:=top 52
abbrev oR:Stmt:=top 50
abbrev lF:Stmt:=top 51
abbrev qL:Stmt:=top 49
abbrev qS:Stmt:=top 54
abbrev mZ:Stmt:=top 57
abbrev mC:Stmt:=top 58
abbrev uL:Stmt:=top 55
abbrev kA:Stmt:=top 56
abbrev jX:Stmt:=top 59
abbrev nN:Stmt:=top 46
abbrev qJ:Stmt:=top 26
abbrev dA:Stmt:=top 25
abbrev kI:Stmt:=top 42
abbrev fQ:Stmt:=top 41
abbrev oN:Stmt:=top 8
abbrev mO:Stmt:=top 7
abbrev kG:Stmt:=top 43
abbrev zTM:Stmt:=top 28
abbrev lH:Stmt:=top 40
abbrev zZT:Stmt:=top 5
abbrev mY:Stmt:=top 12
abbrev zZy:Stmt:=top 14
abbrev zZX:Stmt:=top 6
abbrev eN:Stmt:=top 4
abbrev cI:Stmt:=top 13
abbrev iI:Stmt:=top 32
abbrev dL:Stmt:=top 31
abbrev fL:Stmt:=top 34
abbrev tO:Stmt:=top 35
abbrev zY2:Stmt:=top 44
abbrev fO:Stmt:=top 39
abbrev pC:Stmt:=top 60
abbrev kK:Stmt:=top 30
abbrev gF:Stmt:=top 29
abbrev iH:Stmt:=top 64
abbrev jC:Stmt:=top 65
abbrev kD:Stmt:=top 61
abbrev lK:Stmt:=top 62
abbrev kQ:Stmt:=top 63
abbrev zPd:Stmt:=top 66
abbrev iX:Stmt:=vY (top 10) 0
abbrev mU:Stmt:=vY (top 11) 0
abbrev mW:Stmt:=vY (top 21) 0
set_option genInjectivity false
set_option genSizeOf false
set_option genSizeOfSpec false
structure Txt (w:World)(K:PySem.W.Frag)(mg:Str->Option Value) where
 q0:FnT K mg "_law_mix" cK ["_law_cell","_law_factor"]
 q1:FnT K mg "_law_cut" cH ["_law_cell","_law_slot","_law_factor"]
 q2:FnT K mg "_law_base" gA ["_law_dims"]
 q3:FnT K mg "_law_turn" lI ["_law_number_here","_law_dims"]
 q4:FnT K mg "_law_after" oR ["_law_one","_law_other"]
 q5:FnT K mg "_law_undone" lF ["_law_turn_here"]
 q6:FnT K mg "_law_turned" qL ["_law_turn_here","_law_corner"]
 q7:FnT K mg "_law_joined" qS ["_law_dims","_law_number_here"]
 q8:FnT K mg "_law_altered" mZ ["_law_dims","_law_cell"]
 q9:FnT K mg "_law_fourth" mC ["_law_number_here"]
 q10:FnT K mg "_law_corners" uL ["_law_dims"]
 q11:FnT K mg "_law_loose" kA ["_law_dims","_law_cell"]
 q12:FnT K mg "_law_drawn" jX ["_law_dims","_law_cell"]
 q13:FnT K mg "_law_cell_at" nN ["_law_script","_law_k"]
 q14:FnT K mg "is_made_of" qJ ["text","signs","longest"]
 q15:FnT K mg "is_word" dA ["text"]
 q16:FnT K mg "read_head" kI ["words"]
 q17:FnT K mg "words_at" fQ ["rows","row"]
 q18:FnT K mg "corner_of" oN ["text","dims"]
 q19:FnT K mg "turn_of" mO ["text","dims"]
 q20:FnT K mg "read_part" kG ["words","dims","row"]
 q21:FnT K mg "full" zTM ["dims","level"]
 q22:FnT K mg "curve_from" lH ["rows"]
 q23:FnT K mg "still" zZT ["dims"]
 q24:FnT K mg "first_state" mY ["dims"]
 q25:FnT K mg "walked" zZy ["curve","back","number"]
 q26:FnT K mg "after" zZX ["one","other"]
 q27:FnT K mg "turned" eN ["turn","corner"]
 q28:FnT K mg "part_at" cI ["curve","state","digit"]
 q29:FnT K mg "next_to" iI ["one","other"]
 q30:FnT K mg "deeper" dL ["place","corner"]
 q31:FnT K mg "unmet_at" fL ["curve","first"]
 q32:FnT K mg "meeting_of" tO ["curve"]
 q33:FnT K mg "fitted" zY2 ["curve"]
 q34:FnT K mg "curve_of" fO ["text"]
 q35:FnT K mg "_law_text" pC ["_law_dims","_law_joined_here","_law_parts"]
 q36:FnT K mg "digits_of" kK ["number","base","many"]
 q37:FnT K mg "place_at" gF ["curve","level","number"]
 q38:FnT K mg "_law_met" iH ["_law_curve","_law_dims","_law_level_here","_law_asked"]
 q39:FnT K mg "_law_shown" jC ["_law_curve","_law_dims","_law_refusal"]
 q40:FnT K mg "_law_level" kD ["_law_number_here"]
 q41:FnT K mg "_law_number" lK ["_law_cell","_law_dims","_law_level_here"]
 q42:FnT K mg "_law_ahead" kQ ["_law_cell","_law_dims","_law_level_here"]
 q43:FnT K mg "law" zPd ["_law_script"]
 C_Part:Addr
 fi_Part:Addr
 fdi_Part:FuncData
 ca_Part:ClsAt K "Part" C_Part
 cl_Part:Cls K C_Part
 mc_Part:mg "Part"=some (.ref C_Part)
 Fi_Part:Fun K "__init__" "Part.__init__" iX fi_Part fdi_Part
 bi_Part:Binds K fdi_Part ["self","corner","turn","back"] []
 mk_Part:Mk K C_Part fi_Part
 n_Part_back:NoAttr K C_Part "back"
 n_Part_corner:NoAttr K C_Part "corner"
 n_Part_turn:NoAttr K C_Part "turn"
 C_Curve:Addr
 fi_Curve:Addr
 fdi_Curve:FuncData
 ca_Curve:ClsAt K "Curve" C_Curve
 cl_Curve:Cls K C_Curve
 mc_Curve:mg "Curve"=some (.ref C_Curve)
 Fi_Curve:Fun K "__init__" "Curve.__init__" mU fi_Curve fdi_Curve
 bi_Curve:Binds K fdi_Curve ["self","name","dims","joined","parts"] []
 mk_Curve:Mk K C_Curve fi_Curve
 n_Curve_dims:NoAttr K C_Curve "dims"
 n_Curve_joined:NoAttr K C_Curve "joined"
 n_Curve_name:NoAttr K C_Curve "name"
 n_Curve_parts:NoAttr K C_Curve "parts"
 fi_Unmet:Addr
 fdi_Unmet:FuncData
 Fi_Unmet:Fun K "__init__" "Unmet.__init__" mW fi_Unmet fdi_Unmet
 bi_Unmet:Binds K fdi_Unmet ["self","first","second","level"] []
 C_Unmet:Addr
 ca_Unmet:ClsAt K "Unmet" C_Unmet
 mc_Unmet:mg "Unmet"=some (.ref C_Unmet)
 xk_Unmet:XKit K C_Unmet
 xs_Unmet:XSt K C_Unmet
 xm_Unmet:XMk K C_Unmet fi_Unmet
 n_Unmet_first:NoAttr K C_Unmet "first"
 n_Unmet_second:NoAttr K C_Unmet "second"
 n_Unmet_level:NoAttr K C_Unmet "level"
 em_Unmet_Unmet:PySem.W.exmOne K (.ref C_Unmet) (.ref C_Unmet)=some true
 t_BITS:Tok
 c_BITS:mg "BITS"=some (.str "01" t_BITS)
 t_FLIPS:Tok
 c_FLIPS:mg "FLIPS"=some (.str "+-" t_FLIPS)
 t_AXES:Tok
 c_AXES:mg "AXES"=some (.str "xyz" t_AXES)
 t_LETTERS:Tok
 c_LETTERS:mg "LETTERS"=some (.str "abcdefghijklmnopqrstuvwxyz" t_LETTERS)
 t_LONGEST_WORD:Tok
 c_LONGEST_WORD:mg "LONGEST_WORD"=some (.int 12 t_LONGEST_WORD)
 da_PROMISES:Addr
 c_PROMISES:mg "PROMISES"=some (.ref da_PROMISES)
 dc_PROMISES:DictC w K da_PROMISES [("joined",.bl true),("loose",.bl false)]
 da_DIMS:Addr
 c_DIMS:mg "DIMS"=some (.ref da_DIMS)
 dc_DIMS:DictC w K da_DIMS [("2",.int 2),("3",.int 3)]
 z_abs:mg "abs"=none
 z_all:mg "all"=none
 z_int:mg "int"=none
 z_len:mg "len"=none
 z_list:mg "list"=none
 z_max:mg "max"=none
 z_min:mg "min"=none
 z_range:mg "range"=none
 z_reversed:mg "reversed"=none
 z_sorted:mg "sorted"=none
 z_str:mg "str"=none
 z_sum:mg "sum"=none
 z_tuple:mg "tuple"=none
 z_zip:mg "zip"=none
set_option genInjectivity true
set_option genSizeOf true
set_option genSizeOfSpec true
section
seal PySem.Sem.wp
variable {P:Program} {w:World} {K:PySem.W.Frag} {mg:Str->Option Value} {base:Heap}
theorem zSm:FnScope ["self","first","second","level"] ["self","first","second","level"] (zU mW):=y0 (by decide +kernel)
def zOW:Lf:=(zY (eV 1) (zY (eV 2) (zY (eV 3) zR)))
def zV6:List D->Option (List D):=fun ds=>zOW (lX 4 ds)
theorem zRB (T:Txt w K mg):FnOk P w K mg base CX0 1 T.fi_Unmet T.fdi_Unmet ["self","first","second","level"] (spN K T.C_Unmet ["first","second","level"] 3 zV6) :=
 zPW (k:=0) T.Fi_Unmet zSm (by decide +kernel) (by decide) fun cdv A outer s H E hr =>
   (bU T.xs_Unmet T.n_Unmet_first rfl (Or.inl rfl) (zT 1) (bU T.xs_Unmet T.n_Unmet_second rfl (Or.inl rfl) (zT 2) (bU T.xs_Unmet T.n_Unmet_level rfl (Or.inl rfl) (zT 3) zQt)))
theorem zRY (T:Txt w K mg):ExOk K T.C_Unmet ["Unmet"]:=⟨⟨T.C_Unmet,T.ca_Unmet,T.em_Unmet_Unmet⟩,True.intro⟩
def tW:List Str:=["Unmet"]
theorem zX5 (T:Txt w K mg):XfOk K "second" tW:=⟨⟨T.C_Unmet,T.ca_Unmet,T.xk_Unmet,T.xs_Unmet.ob,T.n_Unmet_second⟩,True.intro⟩
def sA:List Str:=["Unmet"]
theorem zVl (T:Txt w K mg):XfOk K "first" sA:=⟨⟨T.C_Unmet,T.ca_Unmet,T.xk_Unmet,T.xs_Unmet.ob,T.n_Unmet_first⟩,True.intro⟩
def xB:List Str:=["Unmet"]
theorem dG (T:Txt w K mg):XfOk K "level" xB:=⟨⟨T.C_Unmet,T.ca_Unmet,T.xk_Unmet,T.xs_Unmet.ob,T.n_Unmet_level⟩,True.intro⟩
theorem zPJ:FnScope ["self","corner","turn","back"] ["self","corner","turn","back"] (zU iX):=y0 (by decide +kernel)
def zND:Lf:=(zY (eV 1) (zY (eV 2) (zY (eV 3) zR)))
def zSw:List D->Option (List D):=fun ds=>zND (lX 4 ds)
theorem zPC (T:Txt w K mg):FnOk P w K mg base CX0 1 T.fi_Part T.fdi_Part ["self","corner","turn","back"] (spI K T.C_Part ["corner","turn","back"] 3 zSw) :=
 zSA (k:=0) T.Fi_Part zPJ (by decide +kernel) (by decide) fun cdv A outer s H E hr =>
   (pT T.cl_Part T.n_Part_corner rfl (Or.inl rfl) (zT 1) (pT T.cl_Part T.n_Part_turn rfl (Or.inl rfl) (zT 2) (pT T.cl_Part T.n_Part_back rfl (Or.inl rfl) (zT 3) zSJ)))
theorem zRm:FnScope ["self","name","dims","joined","parts"] ["self","name","dims","joined","parts"] (zU mU):=y0 (by decide +kernel)
def zPQ:Lf:=(zY (eV 1) (zY (eV 2) (zY (eV 3) (zY (eL (zWg (eV 4))) zR))))
def eR:List D->Option (List D):=fun ds=>zPQ (lX 5 ds)
theorem zRe (T:Txt w K mg):FnOk P w K mg base CX0 1 T.fi_Curve T.fdi_Curve ["self","name","dims","joined","parts"] (spI K T.C_Curve ["name","dims","joined","parts"] 4 eR) :=
 zSA (k:=0) T.Fi_Curve zRm (by decide +kernel) (by decide) fun cdv A outer s H E hr =>
   (pT T.cl_Curve T.n_Curve_name rfl (Or.inl rfl) (zT 1) (pT T.cl_Curve T.n_Curve_dims rfl (Or.inl rfl) (zT 2) (pT T.cl_Curve T.n_Curve_joined rfl (Or.inl rfl) (zT 3) (pT T.cl_Curve T.n_Curve_parts rfl (Or.inl rfl) (vH (zRu rfl T.z_list (zT 4))) zSJ))))
theorem zZK:FnScope ["_law_cell","_law_factor","_law_mixed"] ["_law_cell","_law_factor"] (zU cK):=y0 (by decide +kernel)
def bP:Sf:=(xU (uO (xK (fR (eV 2) (eV 2)) (eC (.int 2147483629))) (eC (.int 3))))
def jA:Sf:=(zO (yY 2 (xK (tG (fR (eV 0) (eV 1)) (eC (.int 12345))) (eC (.int 2147483647))))
   (bP))
def zXL:Sf :=
   (jA)
def qE:List D->Option D:=fnF 3 zXL
theorem fU (T:Txt w K mg):OkT P w base T.q0 1 2 qE :=
 wU (k:=0) T.q0.F zZK fun cdv A outer s H E hr =>
   (zV jA rfl (zQ 2 zZK.nd (xT (uP (lZ (zT 0) (zT 1)) zX) zX))
     (zS (yV (vV (xT (lZ (zT 2) (zT 2)) zX) zX))))
theorem zUf:FnScope ["_law_cell","_law_slot","_law_factor"] ["_law_cell","_law_slot","_law_factor"] (zU cH):=y0 (by decide +kernel)
def kN:Sf:=(xU (zL 2 qE (zY (tG (eV 0) (fR (eC (.int 31)) (eV 1))) (zY (eV 2) zR))))
def oH:Sf:=(zO (sIf (eB2 gGe (eV 0) (aJ (eC (.int 10)) (eC (.int 12)))) (xU (xK (zU7 (eV 0) (fR (eC (.int 30)) (eV 1))) (eC (.int 1073741824)))) xH)
   (kN))
def cZ:Sf :=
   (oH)
def wE:List D->Option D:=fnF 3 cZ
theorem pQ (T:Txt w K mg):OkT P w base T.q1 2 3 wE :=
 wU (k:=1) T.q1.F zUf fun cdv A outer s H E hr =>
   (zV oH rfl (yK (yR zSz (zT 0) (zZC zX zX)) (zS (yV (xT (zWv (zT 0) (lZ zX (zT 1))) zX))) yW)
     (zS (yV (xQ (fU T) hr (zZ (uP (zT 0) (lZ zX (zT 1))) (zZ (zT 2) zW))))))
theorem uZ:FnScope ["_law_dims","_law_plain","_law_parts"] ["_law_dims"] (zU gA):=y0 (by decide +kernel)
def zWM:Sf:=(bQ 2 (sJ (aG (iL (eV 2)) (xP (zY (yX (zY (yX (zY (eC (.int 1)) (zY (eC (.int 0)) (zY (eC (.int 0)) zR)))) (zY (yX (zY (yX (zY (eC (.int 1)) (zY (eC (.int 1)) zR))) (zY (yX (zY (eC (.int 0)) (zY (eC (.int 1)) zR))) (zY (yX (zY (eC (.int 2)) (zY (eC (.int 0)) zR))) zR)))) zR))) zR)))))
def fJ:Sf:=(zO (bQ 2 (sK 2 (aG (iL (eV 2)) (xP (zY (yX (zY (yX (zY (eC (.int 1)) (zY (eC (.int 1)) (zY (eC (.int 1)) zR)))) (zY (eV 1) zR))) (zY (yX (zY (yX (zY (eC (.int 1)) (zY (eC (.int 1)) (zY (eC (.int 0)) zR)))) (zY (yX (zY (yX (zY (eC (.int 1)) (zY (eC (.int 1)) zR))) (zY (yX (zY (eC (.int 2)) (zY (eC (.int 0)) zR))) (zY (yX (zY (eC (.int 0)) (zY (eC (.int 1)) zR))) zR)))) zR))) zR))))))
   (zWM))
def dD:Sf:=(zO (bQ 2 (sK 2 (aG (iL (eV 2)) (xP (zY (yX (zY (yX (zY (eC (.int 0)) (zY (eC (.int 0)) (zY (eC (.int 1)) zR)))) (zY (yX (zY (yX (zY (eC (.int 1)) (zY (eC (.int 1)) zR))) (zY (yX (zY (eC (.int 2)) (zY (eC (.int 1)) zR))) (zY (yX (zY (eC (.int 0)) (zY (eC (.int 0)) zR))) zR)))) zR))) (zY (yX (zY (yX (zY (eC (.int 1)) (zY (eC (.int 0)) (zY (eC (.int 1)) zR)))) (zY (yX (zY (yX (zY (eC (.int 1)) (zY (eC (.int 0)) zR))) (zY (yX (zY (eC (.int 2)) (zY (eC (.int 1)) zR))) (zY (yX (zY (eC (.int 0)) (zY (eC (.int 1)) zR))) zR)))) zR))) zR))))))
   (fJ))
def eM:Sf:=(zO (sK 2 (xP (zY (yX (zY (yX (zY (eC (.int 0)) (zY (eC (.int 0)) (zY (eC (.int 0)) zR)))) (zY (yX (zY (yX (zY (eC (.int 1)) (zY (eC (.int 0)) zR))) (zY (yX (zY (eC (.int 0)) (zY (eC (.int 0)) zR))) (zY (yX (zY (eC (.int 2)) (zY (eC (.int 0)) zR))) zR)))) zR))) (zY (yX (zY (yX (zY (eC (.int 0)) (zY (eC (.int 1)) (zY (eC (.int 0)) zR)))) (zY (yX (zY (yX (zY (eC (.int 1)) (zY (eC (.int 0)) zR))) (zY (yX (zY (eC (.int 2)) (zY (eC (.int 0)) zR))) (zY (yX (zY (eC (.int 0)) (zY (eC (.int 0)) zR))) zR)))) zR))) (zY (yX (zY (yX (zY (eC (.int 0)) (zY (eC (.int 1)) (zY (eC (.int 1)) zR)))) (zY (eV 1) zR))) zR)))))
   (dD))
def dH:Sf:=(zO (yY 1 (yX (zY (yX (zY (eC (.int 0)) (zY (eC (.int 0)) zR))) (zY (yX (zY (eC (.int 1)) (zY (eC (.int 0)) zR))) (zY (yX (zY (eC (.int 2)) (zY (eC (.int 0)) zR))) zR)))))
   (eM))
def dY:Sf:=(zO (sIf (eB2 gEq (eV 0) (eC (.int 2))) (zO (yY 1 (yX (zY (yX (zY (eC (.int 0)) (zY (eC (.int 0)) zR))) (zY (yX (zY (eC (.int 1)) (zY (eC (.int 0)) zR))) zR))))
   (zO (sK 2 (xP (zY (yX (zY (yX (zY (eC (.int 0)) (zY (eC (.int 0)) zR))) (zY (yX (zY (yX (zY (eC (.int 1)) (zY (eC (.int 0)) zR))) (zY (yX (zY (eC (.int 0)) (zY (eC (.int 0)) zR))) zR))) zR))) (zY (yX (zY (yX (zY (eC (.int 0)) (zY (eC (.int 1)) zR))) (zY (eV 1) zR))) (zY (yX (zY (yX (zY (eC (.int 1)) (zY (eC (.int 1)) zR))) (zY (eV 1) zR))) (zY (yX (zY (yX (zY (eC (.int 1)) (zY (eC (.int 0)) zR))) (zY (yX (zY (yX (zY (eC (.int 1)) (zY (eC (.int 1)) zR))) (zY (yX (zY (eC (.int 0)) (zY (eC (.int 1)) zR))) zR))) zR))) zR))))))
   (bL 2))) xH)
   (dH))
def zTK:Sf :=
   (dY)
def fT:List D->Option (List D):=fnL 3 zTK
theorem zUO (T:Txt w K mg):zWd P w base T.q2 1 1 fT :=
 lS (k:=0) T.q2.F uZ fun cdv A outer s H E hr =>
   (zV dY rfl (yK (yR uT (zT 0) zX) (xN (zQ 1 uZ.nd (zP (zZ (zP (zZ zX (zZ zX zW))) (zZ (zP (zZ zX (zZ zX zW))) zW))))
     (xN (tY 2 uZ.nd (yC (zZ (zP (zZ (zP (zZ zX (zZ zX zW))) (zZ (zP (zZ (zP (zZ zX (zZ zX zW))) (zZ (zP (zZ zX (zZ zX zW))) zW))) zW))) (zZ (zP (zZ (zP (zZ zX (zZ zX zW))) (zZ (zT 1) zW))) (zZ (zP (zZ (zP (zZ zX (zZ zX zW))) (zZ (zT 1) zW))) (zZ (zP (zZ (zP (zZ zX (zZ zX zW))) (zZ (zP (zZ (zP (zZ zX (zZ zX zW))) (zZ (zP (zZ zX (zZ zX zW))) zW))) zW))) zW))))))
     (zS (iK 2)))) yW)
     (zV dH rfl (zQ 1 uZ.nd (zP (zZ (zP (zZ zX (zZ zX zW))) (zZ (zP (zZ zX (zZ zX zW))) (zZ (zP (zZ zX (zZ zX zW))) zW)))))
     (zV eM rfl (tY 2 uZ.nd (yC (zZ (zP (zZ (zP (zZ zX (zZ zX (zZ zX zW)))) (zZ (zP (zZ (zP (zZ zX (zZ zX zW))) (zZ (zP (zZ zX (zZ zX zW))) (zZ (zP (zZ zX (zZ zX zW))) zW)))) zW))) (zZ (zP (zZ (zP (zZ zX (zZ zX (zZ zX zW)))) (zZ (zP (zZ (zP (zZ zX (zZ zX zW))) (zZ (zP (zZ zX (zZ zX zW))) (zZ (zP (zZ zX (zZ zX zW))) zW)))) zW))) (zZ (zP (zZ (zP (zZ zX (zZ zX (zZ zX zW)))) (zZ (zT 1) zW))) zW)))))
     (zV dD rfl (qT 2 (tY 2 uZ.nd (aE (gX (zT 2)) (dP (yC (zZ (zP (zZ (zP (zZ zX (zZ zX (zZ zX zW)))) (zZ (zP (zZ (zP (zZ zX (zZ zX zW))) (zZ (zP (zZ zX (zZ zX zW))) (zZ (zP (zZ zX (zZ zX zW))) zW)))) zW))) (zZ (zP (zZ (zP (zZ zX (zZ zX (zZ zX zW)))) (zZ (zP (zZ (zP (zZ zX (zZ zX zW))) (zZ (zP (zZ zX (zZ zX zW))) (zZ (zP (zZ zX (zZ zX zW))) zW)))) zW))) zW)))))))
     (zV fJ rfl (qT 2 (tY 2 uZ.nd (aE (gX (zT 2)) (dP (yC (zZ (zP (zZ (zP (zZ zX (zZ zX (zZ zX zW)))) (zZ (zT 1) zW))) (zZ (zP (zZ (zP (zZ zX (zZ zX (zZ zX zW)))) (zZ (zP (zZ (zP (zZ zX (zZ zX zW))) (zZ (zP (zZ zX (zZ zX zW))) (zZ (zP (zZ zX (zZ zX zW))) zW)))) zW))) zW)))))))
     (zS (qT 2 (lG (aE (gX (zT 2)) (dP (yC (zZ (zP (zZ (zP (zZ zX (zZ zX (zZ zX zW)))) (zZ (zP (zZ (zP (zZ zX (zZ zX zW))) (zZ (zP (zZ zX (zZ zX zW))) (zZ (zP (zZ zX (zZ zX zW))) zW)))) zW))) zW))))))))))))
theorem nY:FnScope ["_law_number_here","_law_dims","_law_axes"] ["_law_number_here","_law_dims"] (zU lI):=y0 (by decide +kernel)
def tN:Sf:=(xU (vL (eL (yA (iR (eV 1)) 1 [2,0] (gN 0) tOK (yX (zY (eIx (eV 1) (eV 0)) (zY (xK (uO (eV 2) (eIx (eL (xP (zY (eC (.int 1)) (zY (eC (.int 2)) (zY (eC (.int 4)) zR))))) (eV 0))) (eC (.int 2))) zR)))))))
def tI:Sf:=(zO (sIf (eB2 gEq (eV 1) (eC (.int 3))) (yY 2 (eIx (eL (xP (zY (eL (xP (zY (eC (.int 0)) (zY (eC (.int 1)) (zY (eC (.int 2)) zR))))) (zY (eL (xP (zY (eC (.int 0)) (zY (eC (.int 2)) (zY (eC (.int 1)) zR))))) (zY (eL (xP (zY (eC (.int 1)) (zY (eC (.int 0)) (zY (eC (.int 2)) zR))))) (zY (eL (xP (zY (eC (.int 1)) (zY (eC (.int 2)) (zY (eC (.int 0)) zR))))) (zY (eL (xP (zY (eC (.int 2)) (zY (eC (.int 0)) (zY (eC (.int 1)) zR))))) (zY (eL (xP (zY (eC (.int 2)) (zY (eC (.int 1)) (zY (eC (.int 0)) zR))))) zR)))))))) (xK (uO (eV 0) (eC (.int 8))) (eC (.int 6))))) (sIf (eB2 gEq (xK (uO (eV 0) (eC (.int 8))) (eC (.int 2))) (eC (.int 1))) (yY 2 (eL (xP (zY (eC (.int 1)) (zY (eC (.int 0)) zR))))) xH))
   (tN))
def tJ:Sf:=(zO (yY 2 (eL (xP (zY (eC (.int 0)) (zY (eC (.int 1)) zR)))))
   (tI))
def lQ:Sf :=
   (tJ)
def xC:List D->Option D:=fnF 3 lQ
theorem nZ (T:Txt w K mg):OkT P w base T.q3 1 2 xC :=
 wU (k:=0) T.q3.F nY fun cdv A outer s H E hr =>
   (zV tJ rfl (zQ 2 nY.nd (vH (yC (zZ zX (zZ zX zW)))))
     (zV tI rfl (yK (yR uT (zT 1) zX) (zS (zQ 2 nY.nd (xD (vH (yC (zZ (vH (yC (zZ zX (zZ zX (zZ zX zW))))) (zZ (vH (yC (zZ zX (zZ zX (zZ zX zW))))) (zZ (vH (yC (zZ zX (zZ zX (zZ zX zW))))) (zZ (vH (yC (zZ zX (zZ zX (zZ zX zW))))) (zZ (vH (yC (zZ zX (zZ zX (zZ zX zW))))) (zZ (vH (yC (zZ zX (zZ zX (zZ zX zW))))) zW)))))))) (xT (vV (zT 0) zX) zX)))) (zS (yK (yR uT (xT (vV (zT 0) zX) zX) zX) (zS (zQ 2 nY.nd (vH (yC (zZ zX (zZ zX zW)))))) yW)))
     (zS (yV (uG rfl T.z_tuple (vH (wF (zU lI) ["_law_number_here","_law_dims","_law_axes"] ["_law_k"] ["_law_axes","_law_number_here"] [2,0] (tD 0) (zYR rfl T.z_range (zT 1)) rfl rfl rfl (by decide +kernel) (fun _ _ _ _=>(xV 0 (show(List.Nodup (α:=PySem.Str) ["_law_k","_law_axes","_law_number_here"]) from by decide +kernel))) (fun _ _ _ _=>xX) (fun _ _ _ _=>(zP (zZ (xD (zT 1) (zT 0)) (zZ (xT (vV (zT 2) (xD (vH (yC (zZ zX (zZ zX (zZ zX zW))))) (zT 0))) zX) zW)))))))))))
theorem zXg:FnScope ["_law_one","_law_other"] ["_law_one","_law_other"] (zU oR):=y0 (by decide +kernel)
def zXY:Sf:=(xU (vL (eL (yA (iT (eV 0)) 2 [1] (gT (zN (gN 0) (zN (gN 1) xS))) tOK (yX (zY (eIx (eIx (eV 2) (eV 0)) (eC (.int 0))) (zY (zWX (eIx (eIx (eV 2) (eV 0)) (eC (.int 1))) (eV 1)) zR)))))))
def zUV:Sf :=
   (zXY)
def wT:List D->Option D:=fnF 2 zUV
theorem vU (T:Txt w K mg):OkT P w base T.q4 1 2 wT :=
 wU (k:=0) T.q4.F zXg fun cdv A outer s H E hr =>
   (zS (yV (uG rfl T.z_tuple (vH (wF (zU oR) ["_law_one","_law_other"] ["_law_axis","_law_flip"] ["_law_other"] [1] (zWF (xE (tD 0) (xE (tD 1) qG))) (zSa (zT 0)) rfl rfl rfl (by decide +kernel) (fun _ _ _ _=>(oS 2 rfl (zK (xV 0 (show(List.Nodup (α:=PySem.Str) ["_law_axis","_law_flip","_law_other"]) from by decide +kernel)) (zK (xV 1 (show(List.Nodup (α:=PySem.Str) ["_law_axis","_law_flip","_law_other"]) from by decide +kernel)) xW)) (yU (yU xF)))) (fun _ _ _ _=>xX) (fun _ _ _ _=>(zP (zZ (xD (xD (zT 2) (zT 0)) zX) (zZ (zVT (xD (xD (zT 2) (zT 0)) zX) (zT 1)) zW)))))))))
theorem nM:FnScope ["_law_turn_here","_law_back","_law_k"] ["_law_turn_here"] (zU lF):=y0 (by decide +kernel)
def aO:Sf:=(zY8 1 (eIx (eIx (eV 0) (eV 2)) (eC (.int 0))) (yX (zY (eV 2) (zY (eIx (eIx (eV 0) (eV 2)) (eC (.int 1))) zR))))
def zYy:Sf:=(bQ 1 (xU (vL (eV 1))))
def kT:Sf:=(zO (tU (iR (wA (eV 0))) (gN 2) (aO))
   (zYy))
def jL:Sf:=(zO (sK 1 (zLI (xP (zY (eC .non) zR)) (wA (eV 0))))
   (kT))
def zVY:Sf :=
   (jL)
def vX:List D->Option D:=fnF 3 zVY
theorem nG (T:Txt w K mg):OkT P w base T.q5 1 1 vX :=
 wU (k:=0) T.q5.F nM fun cdv A outer s H E hr =>
   (zV jL rfl (tY 1 nM.nd (zLX (yC (zZ vJ zW)) (vT rfl T.z_len (zT 0))))
     (zV kT rfl (uB Ey rfl (zYR rfl T.z_range (vT rfl T.z_len (zT 0))) (xV 2 nM.nd) (zS (zWK 1 (zP (zZ (zT 2) (zZ (xD (xD (zT 0) (zT 2)) zX) zW))) (xD (xD (zT 0) (zT 2)) zX))))
     (zS (qT 1 (yV (uG rfl T.z_tuple (zT 1)))))))
theorem zYp:FnScope ["_law_turn_here","_law_corner"] ["_law_turn_here","_law_corner"] (zU qL):=y0 (by decide +kernel)
def zYw:Sf:=(xU (vL (eL (yA (iT (eV 0)) 2 [1] (gT (zN (gN 0) (zN (gN 1) xS))) tOK (zWX (eIx (eV 2) (eV 0)) (eV 1))))))
def zWH:Sf :=
   (zYw)
def uV:List D->Option D:=fnF 2 zWH
theorem gM (T:Txt w K mg):OkT P w base T.q6 1 2 uV :=
 wU (k:=0) T.q6.F zYp fun cdv A outer s H E hr =>
   (zS (yV (uG rfl T.z_tuple (vH (wF (zU qL) ["_law_turn_here","_law_corner"] ["_law_axis","_law_flip"] ["_law_corner"] [1] (zWF (xE (tD 0) (xE (tD 1) qG))) (zSa (zT 0)) rfl rfl rfl (by decide +kernel) (fun _ _ _ _=>(oS 2 rfl (zK (xV 0 (show(List.Nodup (α:=PySem.Str) ["_law_axis","_law_flip","_law_corner"]) from by decide +kernel)) (zK (xV 1 (show(List.Nodup (α:=PySem.Str) ["_law_axis","_law_flip","_law_corner"]) from by decide +kernel)) xW)) (yU (yU xF)))) (fun _ _ _ _=>xX) (fun _ _ _ _=>(zVT (xD (zT 2) (zT 0)) (zT 1))))))))
theorem yB:FnScope ["_law_dims","_law_number_here","_law_base_here","_law_turn_here","_law_mirror","_law_parts","_law_bits","_law_corner","_law_inner","_law_lies"] ["_law_dims","_law_number_here"] (zU qS):=y0 (by decide +kernel)
def aP:Sf:=(yY 6 (uO (eV 6) (eC (.int 2))))
def uC:Sf:=(zO (bV 5 (yX (zY (zL 2 uV (zY (eV 3) (zY (eV 7) zR))) (zY (eV 9) (zY (sE (eB2 gEq (xK (eV 6) (eC (.int 2))) (eC (.int 1)))) zR)))))
   (aP))
def qU:Sf:=(zO (sIf (eB2 gEq (xK (eV 6) (eC (.int 2))) (eC (.int 1))) (yY 9 (zL 2 wT (zY (eV 9) (zY (eV 4) zR)))) xH)
   (uC))
def wI:Sf:=(zO (yY 9 (zL 2 wT (zY (eV 3) (zY (zL 2 wT (zY (eV 8) (zY (zL 1 vX (zY (eV 3) zR)) zR))) zR))))
   (qU))
def zZA:Sf:=(bL 5)
def qB:Sf:=(zO (tU (iL (eV 2)) (gT (zN (gN 7) (zN (gN 8) xS))) (wI))
   (zZA))
def pX:Sf:=(zO (yY 6 (uO (eV 1) (eC (.int 96))))
   (qB))
def oZ:Sf:=(zO (sK 5 (xP zR))
   (pX))
def pN:Sf:=(zO (yY 4 (zL 2 wT (zY (eV 3) (zY (zL 2 wT (zY (eV 4) (zY (zL 1 vX (zY (eV 3) zR)) zR))) zR))))
   (oZ))
def sU:Sf:=(zO (yY 4 (vL (eL (yA (iR (eV 0)) 1 [] (gN 0) tOK (yX (zY (eV 0) (zY (zZD (sE (eB2 gEq (eV 0) (eC (.int 0))))) zR)))))))
   (pN))
def oW:Sf:=(zO (sIf (eB2 gEq (xK (uO (eV 1) (eC (.int 48))) (eC (.int 2))) (eC (.int 1))) (yY 2 (eL (zWG (iL (eV 2))))) xH)
   (sU))
def pS:Sf:=(zO (yY 3 (zL 2 xC (zY (eV 1) (zY (eV 0) zR))))
   (oW))
def tR:Sf:=(zO (yY 2 (eL (wD 1 fT (zY (eV 0) zR))))
   (pS))
def zW8:Sf :=
   (tR)
def tK:List D->Option (List D):=fnL 10 zW8
theorem gU (T:Txt w K mg):zWd P w base T.q7 2 2 tK :=
 lS (k:=1) T.q7.F yB fun cdv A outer s H E hr =>
   (zV tR rfl (zQ 2 yB.nd (vH (zYG (zUO T) hr (zZ (zT 0) zW))))
     (zV pS rfl (zQ 3 yB.nd (xQ (nZ T) hr (zZ (zT 1) (zZ (zT 0) zW))))
     (zV oW rfl (yK (yR uT (xT (vV (zT 1) zX) zX) zX) (zS (zQ 2 yB.nd (vH (zY4 rfl rfl T.z_list rfl T.z_reversed (gX (zT 2)))))) yW)
     (zV sU rfl (zQ 4 yB.nd (uG rfl T.z_tuple (vH (wF (zU qS) ["_law_dims","_law_number_here","_law_base_here","_law_turn_here","_law_mirror","_law_parts","_law_bits","_law_corner","_law_inner","_law_lies"] ["_law_axis"] [] [] (tD 0) (zYR rfl T.z_range (zT 0)) rfl rfl rfl (by decide +kernel) (fun _ _ _ _=>(xV 0 (show(List.Nodup (α:=PySem.Str) ["_law_axis"]) from by decide +kernel))) (fun _ _ _ _=>xX) (fun _ _ _ _=>(zP (zZ (zT 0) (zZ (zUX rfl T.z_int (mL uT (zT 0) zX)) zW))))))))
     (zV pN rfl (zQ 4 yB.nd (xQ (vU T) hr (zZ (zT 3) (zZ (xQ (vU T) hr (zZ (zT 4) (zZ (xQ (nG T) hr (zZ (zT 3) zW)) zW))) zW))))
     (zV oZ rfl (tY 5 yB.nd (yC zW))
     (zV pX rfl (zQ 6 yB.nd (vV (zT 1) zX))
     (zV qB rfl (uB Ey rfl (zSd (zT 2)) (oS 2 rfl (zK (xV 7 yB.nd) (zK (xV 8 yB.nd) xW)) (yU (yU xF))) (zV wI rfl (zQ 9 yB.nd (xQ (vU T) hr (zZ (zT 3) (zZ (xQ (vU T) hr (zZ (zT 8) (zZ (xQ (nG T) hr (zZ (zT 3) zW)) zW))) zW))))
     (zV qU rfl (yK (yR uT (xT (zT 6) zX) zX) (zS (zQ 9 yB.nd (xQ (vU T) hr (zZ (zT 9) (zZ (zT 4) zW))))) yW)
     (zV uC rfl (bT 5 (rK Ea Rr Rt sF (pv 5) (yO (zP (zZ (xQ (gM T) hr (zZ (zT 3) (zZ (zT 7) zW))) (zZ (zT 9) (zZ (mL uT (xT (zT 6) zX) zX) zW)))) yE)))
     (zS (zQ 6 yB.nd (vV (zT 6) zX)))))))
     (zS (iK 5))))))))))
theorem wY:FnScope ["_law_dims","_law_cell","_law_number_here","_law_parts","_law_at","_law_other","_law_corner","_law_turn_here","_law_back"] ["_law_dims","_law_cell"] (zU mZ):=y0 (by decide +kernel)
def aH:Sf:=(bL 3)
def rA:Sf:=(zO (sIf (eB2 gEq (xK (eV 5) (eC (.int 3))) (eC (.int 0))) (zY8 3 (eV 4) (yX (zY (eV 6) (zY (eV 7) (zY (sE (rF (tB1 (eV 8)))) zR))))) (zY8 3 (eV 4) (yX (zY (eV 6) (zY (zL 2 xC (zY (uO (eV 5) (eC (.int 3))) (zY (eV 0) zR))) (zY (sE (eB2 gEq (xK (uO (eV 5) (eC (.int 200))) (eC (.int 2))) (eC (.int 1)))) zR))))))
   (aH))
def qZ:Sf:=(zO (pK (zNY 3 (eV 4)) (gT (zN (gN 6) (zN (gN 7) (zN (gN 8) xS)))))
   (rA))
def rB:Sf:=(zO (yY 5 (zL 3 wE (zY (eV 1) (zY (eC (.int 2)) (zY (eC (.int 39373)) zR)))))
   (qZ))
def qY:Sf:=(zO (yY 4 (xK (eV 2) (mP 3)))
   (rB))
def qW:Sf:=(zO (sK 3 (wD 2 tK (zY (eV 0) (zY (uO (eV 2) (eC (.int 8))) zR))))
   (qY))
def uE:Sf:=(zO (yY 2 (zL 3 wE (zY (eV 1) (zY (eC (.int 1)) (zY (eC (.int 16807)) zR)))))
   (qW))
def zXX:Sf :=
   (uE)
def nR:List D->Option (List D):=fnL 9 zXX
theorem zYP (T:Txt w K mg):zWd P w base T.q8 3 2 nR :=
 lS (k:=2) T.q8.F wY fun cdv A outer s H E hr =>
   (zV uE rfl (zQ 2 wY.nd (xQ (pQ T) hr (zZ (zT 1) (zZ zX (zZ zX zW)))))
     (zV qW rfl (tY 3 wY.nd (zYG (gU T) hr (zZ (zT 0) (zZ (vV (zT 2) zX) zW))))
     (zV qY rfl (zQ 4 wY.nd (xT (zT 2) (zZM 3 rfl T.z_len)))
     (zV rB rfl (zQ 5 wY.nd (xQ (pQ T) hr (zZ (zT 1) (zZ zX (zZ zX zW)))))
     (zV qZ rfl (rW (zMC 3 (zT 4)) (oS 3 rfl (zK (xV 6 wY.nd) (zK (xV 7 wY.nd) (zK (xV 8 wY.nd) xW))) (yU (yU (yU xF)))))
     (zV rA rfl (yK (yR uT (xT (zT 5) zX) zX) (zS (zWK 3 (zP (zZ (zT 6) (zZ (zT 7) (zZ (zP1 (zT 8)) zW)))) (zT 4))) (zS (zWK 3 (zP (zZ (zT 6) (zZ (xQ (nZ T) hr (zZ (vV (zT 5) zX) (zZ (zT 0) zW))) (zZ (mL uT (xT (vV (zT 5) zX) zX) zX) zW)))) (zT 4))))
     (zS (iK 3))))))))
theorem xI:FnScope ["_law_number_here","_law_parts","_law_turn_here","_law_found","_law_corner","_law_inner","_law_back","_law_lies"] ["_law_number_here"] (zU mC):=y0 (by decide +kernel)
def lB:Sf:=(bV 3 (yX (zY (zL 2 uV (zY (eV 2) (zY (eV 4) zR))) (zY (eV 7) (zY (eV 6) zR)))))
def vQ:Sf:=(zO (yY 7 (zL 2 wT (zY (eV 2) (zY (zL 2 wT (zY (eV 5) (zY (zL 1 vX (zY (eV 2) zR)) zR))) zR))))
   (lB))
def zYM:Sf:=(bL 3)
def pB:Sf:=(zO (tU (iL (eV 1)) (gT (zN (gN 4) (zN (gN 5) (zN (gN 6) xS)))) (vQ))
   (zYM))
def pH:Sf:=(zO (sK 3 (xP zR))
   (pB))
def tP:Sf:=(zO (yY 2 (zL 2 xC (zY (eV 0) (zY (eC (.int 2)) zR))))
   (pH))
def sQ:Sf:=(zO (sIf (eB2 gEq (xK (uO (eV 0) (eC (.int 48))) (eC (.int 2))) (eC (.int 1))) (yY 1 (eL (zWG (iL (eV 1))))) xH)
   (tP))
def iZ:Sf:=(zO (yY 1 (eL (aG (iL (eV 1)) (xP (zY (yX (zY (yX (zY (eC (.int 0)) (zY (eC (.int 0)) zR))) (zY (yX (zY (yX (zY (eC (.int 1)) (zY (eC (.int 0)) zR))) (zY (yX (zY (eC (.int 0)) (zY (eC (.int 0)) zR))) zR))) (zY (eC (.bl true)) zR)))) (zY (yX (zY (yX (zY (eC (.int 1)) (zY (eC (.int 0)) zR))) (zY (yX (zY (yX (zY (eC (.int 1)) (zY (eC (.int 1)) zR))) (zY (yX (zY (eC (.int 0)) (zY (eC (.int 0)) zR))) zR))) (zY (eC (.bl false)) zR)))) zR))))))
   (sQ))
def tH:Sf:=(zO (yY 1 (eL (xP (zY (yX (zY (yX (zY (eC (.int 1)) (zY (eC (.int 1)) zR))) (zY (yX (zY (yX (zY (eC (.int 0)) (zY (eC (.int 1)) zR))) (zY (yX (zY (eC (.int 1)) (zY (eC (.int 0)) zR))) zR))) (zY (eC (.bl false)) zR)))) (zY (yX (zY (yX (zY (eC (.int 0)) (zY (eC (.int 1)) zR))) (zY (yX (zY (yX (zY (eC (.int 1)) (zY (eC (.int 0)) zR))) (zY (yX (zY (eC (.int 0)) (zY (eC (.int 1)) zR))) zR))) (zY (eC (.bl false)) zR)))) zR)))))
   (iZ))
def zW0:Sf :=
   (tH)
def tT:List D->Option (List D):=fnL 8 zW0
theorem zYr (T:Txt w K mg):zWd P w base T.q9 2 1 tT :=
 lS (k:=1) T.q9.F xI fun cdv A outer s H E hr =>
   (zV tH rfl (zQ 1 xI.nd (vH (yC (zZ (zP (zZ (zP (zZ zX (zZ zX zW))) (zZ (zP (zZ (zP (zZ zX (zZ zX zW))) (zZ (zP (zZ zX (zZ zX zW))) zW))) (zZ pG zW)))) (zZ (zP (zZ (zP (zZ zX (zZ zX zW))) (zZ (zP (zZ (zP (zZ zX (zZ zX zW))) (zZ (zP (zZ zX (zZ zX zW))) zW))) (zZ pG zW)))) zW)))))
     (zV iZ rfl (zQ 1 xI.nd (vH (aE (gX (zT 1)) (dP (yC (zZ (zP (zZ (zP (zZ zX (zZ zX zW))) (zZ (zP (zZ (zP (zZ zX (zZ zX zW))) (zZ (zP (zZ zX (zZ zX zW))) zW))) (zZ pG zW)))) (zZ (zP (zZ (zP (zZ zX (zZ zX zW))) (zZ (zP (zZ (zP (zZ zX (zZ zX zW))) (zZ (zP (zZ zX (zZ zX zW))) zW))) (zZ pG zW)))) zW)))))))
     (zV sQ rfl (yK (yR uT (xT (vV (zT 0) zX) zX) zX) (zS (zQ 1 xI.nd (vH (zY4 rfl rfl T.z_list rfl T.z_reversed (gX (zT 1)))))) yW)
     (zV tP rfl (zQ 2 xI.nd (xQ (nZ T) hr (zZ (zT 0) (zZ zX zW))))
     (zV pH rfl (tY 3 xI.nd (yC zW))
     (zV pB rfl (uB Ey rfl (zSd (zT 1)) (oS 3 rfl (zK (xV 4 xI.nd) (zK (xV 5 xI.nd) (zK (xV 6 xI.nd) xW))) (yU (yU (yU xF)))) (zV vQ rfl (zQ 7 xI.nd (xQ (vU T) hr (zZ (zT 2) (zZ (xQ (vU T) hr (zZ (zT 5) (zZ (xQ (nG T) hr (zZ (zT 2) zW)) zW))) zW))))
     (zS (bT 3 (rK Ea Rr Rt sF (pv 3) (yO (zP (zZ (xQ (gM T) hr (zZ (zT 2) (zZ (zT 4) zW))) (zZ (zT 7) (zZ (zT 6) zW)))) yE))))))
     (zS (iK 3))))))))
theorem oX:FnScope ["_law_dims","_law_corners_here"] ["_law_dims"] (zU uL):=y0 (by decide +kernel)
def aN:Sf:=(bL 1)
def kY:Sf:=(zO (sIf (eB2 gEq (eV 0) (eC (.int 3))) (bQ 1 (sK 1 (aG (yA (iL (eV 1)) 2 [] (gT (zN (gN 0) (zN (gN 1) xS))) tOK (yX (zY (eV 0) (zY (eV 1) (zY (eC (.int 0)) zR))))) (yA (iL (eV 1)) 2 [] (gT (zN (gN 0) (zN (gN 1) xS))) tOK (yX (zY (eV 0) (zY (eV 1) (zY (eC (.int 1)) zR)))))))) xH)
   (aN))
def lC:Sf:=(zO (sK 1 (xP (zY (yX (zY (eC (.int 0)) (zY (eC (.int 0)) zR))) (zY (yX (zY (eC (.int 1)) (zY (eC (.int 0)) zR))) (zY (yX (zY (eC (.int 0)) (zY (eC (.int 1)) zR))) (zY (yX (zY (eC (.int 1)) (zY (eC (.int 1)) zR))) zR))))))
   (kY))
def zYd:Sf :=
   (lC)
def rQ:List D->Option (List D):=fnL 2 zYd
theorem zZF (T:Txt w K mg):zWd P w base T.q10 1 1 rQ :=
 lS (k:=0) T.q10.F oX fun cdv A outer s H E hr =>
   (zV lC rfl (tY 1 oX.nd (yC (zZ (zP (zZ zX (zZ zX zW))) (zZ (zP (zZ zX (zZ zX zW))) (zZ (zP (zZ zX (zZ zX zW))) (zZ (zP (zZ zX (zZ zX zW))) zW))))))
     (zV kY rfl (yK (yR uT (zT 0) zX) (zS (qT 1 (tY 1 oX.nd (zQT (wF (zU uL) ["_law_dims","_law_corners_here"] ["_law_x","_law_y"] [] [] (zWF (xE (tD 0) (xE (tD 1) qG))) (zSd (zT 1)) rfl rfl rfl (by decide +kernel) (fun _ _ _ _=>(oS 2 rfl (zK (xV 0 (show(List.Nodup (α:=PySem.Str) ["_law_x","_law_y"]) from by decide +kernel)) (zK (xV 1 (show(List.Nodup (α:=PySem.Str) ["_law_x","_law_y"]) from by decide +kernel)) xW)) (yU (yU xF)))) (fun _ _ _ _=>xX) (fun _ _ _ _=>(zP (zZ (zT 0) (zZ (zT 1) (zZ zX zW)))))) (wF (zU uL) ["_law_dims","_law_corners_here"] ["_law_x","_law_y"] [] [] (zWF (xE (tD 0) (xE (tD 1) qG))) (zSd (zT 1)) rfl rfl rfl (by decide +kernel) (fun _ _ _ _=>(oS 2 rfl (zK (xV 0 (show(List.Nodup (α:=PySem.Str) ["_law_x","_law_y"]) from by decide +kernel)) (zK (xV 1 (show(List.Nodup (α:=PySem.Str) ["_law_x","_law_y"]) from by decide +kernel)) xW)) (yU (yU xF)))) (fun _ _ _ _=>xX) (fun _ _ _ _=>(zP (zZ (zT 0) (zZ (zT 1) (zZ zX zW)))))))))) yW)
     (zS (iK 1))))
theorem tQ:FnScope ["_law_dims","_law_cell","_law_left","_law_parts","_law_number_here","_law_corner"] ["_law_dims","_law_cell"] (zU kA):=y0 (by decide +kernel)
def zYi:Sf:=(bL 3)
def nF:Sf:=(zO (uM (bR 2) (zO (yY 4 (zL 3 wE (zY (eV 1) (zY (tG (eC (.int 3)) (mP 2)) (zY (tG (eC (.int 48271)) (fR (eC (.int 997)) (mP 2))) zR)))))
   (zO (zRH 5 2 (xK (eV 4) (mP 2)))
   (bV 3 (yX (zY (eV 5) (zY (zL 2 xC (zY (uO (eV 4) (eC (.int 8))) (zY (eV 0) zR))) (zY (sE (eB2 gEq (xK (uO (eV 4) (eC (.int 800))) (eC (.int 2))) (eC (.int 1)))) zR))))))) 100)
   (zYi))
def nU:Sf:=(zO (sK 3 (xP zR))
   (nF))
def rL:Sf:=(zO (sK 2 (wD 1 rQ (zY (eV 0) zR)))
   (nU))
def zVq:Sf :=
   (rL)
def oQ:List D->Option (List D):=fnL 6 zVq
theorem zW1 (T:Txt w K mg):zWd P w base T.q11 3 2 oQ :=
 lS (k:=2) T.q11.F tQ fun cdv A outer s H E hr =>
   (zV rL rfl (tY 2 tQ.nd (zYG (zZF T) hr (zZ (zT 0) zW)))
     (zV nU rfl (tY 3 tQ.nd (yC zW))
     (zV nF rfl (zXQ 100 Ey (zQE 2 hr) (xN (zQ 4 tQ.nd (xQ (pQ T) hr (zZ (zT 1) (zZ (uP zX (zZM 2 rfl T.z_len)) (zZ (uP zX (lZ zX (zZM 2 rfl T.z_len))) zW)))))
     (xN (zNn 5 2 tQ.nd (rK Ea PySem.F.slot_list_pop PySem.F.type_list_pop zQ1 (pv 2) (yO (xT (zT 4) (zZM 2 rfl T.z_len)) yE)))
     (zS (bT 3 (rK Ea Rr Rt sF (pv 3) (yO (zP (zZ (zT 5) (zZ (xQ (nZ T) hr (zZ (vV (zT 4) zX) (zZ (zT 0) zW))) (zZ (mL uT (xT (vV (zT 4) zX) zX) zX) zW)))) yE)))))))
     (zS (iK 3)))))
theorem eG:FnScope ["_law_dims","_law_cell","_law_number_here"] ["_law_dims","_law_cell"] (zU jX):=y0 (by decide +kernel)
def nB:Sf:=(sJ (wD 2 nR (zY (eV 0) (zY (eV 1) zR))))
def rV:Sf:=(zO (sIf (eB2 gEq (xK (eV 2) (eC (.int 4))) (eC (.int 1))) (sJ (wD 2 tK (zY (eV 0) (zY (uO (eV 2) (eC (.int 4))) zR)))) xH)
   (nB))
def nQ:Sf:=(zO (sIf (eB2 gEq (xK (eV 2) (eC (.int 4))) (eC (.int 0))) (sJ (wD 2 oQ (zY (eV 0) (zY (eV 1) zR)))) xH)
   (rV))
def nH:Sf:=(zO (sIf (zXS (eB2 gEq (eV 0) (eC (.int 2))) (eB2 gEq (xK (uO (eV 2) (eC (.int 7))) (eC (.int 4))) (eC (.int 0)))) (sJ (wD 1 tT (zY (uO (eV 2) (eC (.int 28))) zR))) xH)
   (nQ))
def rT:Sf:=(zO (yY 2 (zL 3 wE (zY (eV 1) (zY (eC (.int 0)) (zY (eC (.int 40692)) zR)))))
   (nH))
def zVM:Sf :=
   (rT)
def kH:List D->Option (List D):=fnL 3 zVM
theorem zWn (T:Txt w K mg):zWd P w base T.q12 4 2 kH :=
 lS (k:=3) T.q12.F eG fun cdv A outer s H E hr =>
   (zV rT rfl (zQ 2 eG.nd (xQ (pQ T) hr (zZ (zT 1) (zZ zX (zZ zX zW)))))
     (zV nH rfl (yK (zUS (zOw (yR uT (zT 0) zX) (zQR (yR uT (xT (vV (zT 2) zX) zX) zX)))) (zS (lG (zYG (zYr T) hr (zZ (vV (zT 2) zX) zW)))) yW)
     (zV nQ rfl (yK (yR uT (xT (zT 2) zX) zX) (zS (lG (zYG (zW1 T) hr (zZ (zT 0) (zZ (zT 1) zW))))) yW)
     (zV rV rfl (yK (yR uT (xT (zT 2) zX) zX) (zS (lG (zYG (gU T) hr (zZ (zT 0) (zZ (vV (zT 2) zX) zW))))) yW)
     (zS (lG (zYG (zYP T) hr (zZ (zT 0) (zZ (zT 1) zW)))))))))
theorem zZb:FnScope ["_law_script","_law_k"] ["_law_script","_law_k"] (zU nN):=y0 (by decide +kernel)
def aQ:Sf:=(xU (eC (.int 0)))
def uD:Sf:=(zO (sIf (eB2 gLt (eV 1) (wA (eV 0))) (xU (eIx (eV 0) (eV 1))) xH)
   (aQ))
def zYs:Sf :=
   (uD)
def rO:List D->Option D:=fnF 2 zYs
theorem jV (T:Txt w K mg):OkT P w base T.q13 1 2 rO :=
 wU (k:=0) T.q13.F zZb fun cdv A outer s H E hr =>
   (zV uD rfl (yK (yR zSS (zT 1) (vT rfl T.z_len (zT 0))) (zS (yV (xD (zT 0) (zT 1)))) yW)
     (zS (yV zX)))
theorem zYm:FnScope ["text","signs","longest"] ["text","signs","longest"] (zU qJ):=y0 (by decide +kernel)
def zZk:Sf:=(xU (zMU (sE (eB3 gLe gLe (eC (.int 1)) (wA (eV 0)) (eV 2))) (zMm (eL (yA (iS (eV 0)) 1 [1] (gN 0) tOK (sE (eB2 gIn (eV 0) (eV 1))))))))
def zVX:Sf :=
   (zZk)
def dQ:List D->Option D:=fnF 3 zVX
theorem zYf (T:Txt w K mg):OkT P w base T.q14 1 3 dQ :=
 wU (k:=0) T.q14.F zYm fun cdv A outer s H E hr =>
   (zS (yV (zMg (zPl zSU zSU zX (vT rfl T.z_len (zT 0)) (zT 2)) (zLr (zMo rfl rfl T.z_all (vH (wF (zU qJ) ["text","signs","longest"] ["sign"] ["signs"] [1] (tD 0) (zNe (zT 0)) rfl rfl rfl (by decide +kernel) (fun _ _ _ _=>(xV 0 (show(List.Nodup (α:=PySem.Str) ["sign","signs"]) from by decide +kernel))) (fun _ _ _ _=>xX) (fun _ _ _ _=>(mL zKP (zT 0) (zT 1))))))))))
theorem zUu:FnScope ["text"] ["text"] (zU dA):=y0 (by decide +kernel)
def zUF:Sf:=(xU (zL 3 dQ (zY (eV 0) (zY (eC (.str "abcdefghijklmnopqrstuvwxyz")) (zY (eC (.int 12)) zR)))))
def zSh:Sf :=
   (zUF)
def zXs:List D->Option D:=fnF 1 zSh
theorem zTI (T:Txt w K mg):OkT P w base T.q15 2 1 zXs :=
 wU (k:=1) T.q15.F zUu fun cdv A outer s H E hr =>
   (zS (yV (xQ (zYf T) hr (zZ (zT 0) (zZ (aD rfl T.c_LETTERS) (zZ (zNq rfl T.c_LONGEST_WORD) zW))))))
theorem zWB:FnScope ["words"] ["words"] (zU kI):=y0 (by decide +kernel)
def zYh:Sf:=(xU (yX (zY (eIx (eV 0) (eC (.int 1))) (zY (zNW [("joined",.bl true),("loose",.bl false)] (eIx (eV 0) (eC (.int 2)))) (zY (zNW [("2",.int 2),("3",.int 3)] (eIx (eV 0) (eC (.int 3)))) zR)))))
def hU:Sf:=(zO (sIf (aR (zPt false [("joined",.bl true),("loose",.bl false)] (eIx (eV 0) (eC (.int 2)))) (zPt false [("2",.int 2),("3",.int 3)] (eIx (eV 0) (eC (.int 3))))) (fun _=>none) xH)
   (zYh))
def gO:Sf:=(zO (sIf (aR (eB2 gNe (wA (eV 0)) (eC (.int 4))) (aR (eB2 gNe (eIx (eV 0) (eC (.int 0))) (eC (.str "curve"))) (rF (tB1 (zL 1 zXs (zY (eIx (eV 0) (eC (.int 1))) zR)))))) (fun _=>none) xH)
   (hU))
def zVL:Sf :=
   (gO)
def oA:List D->Option D:=fnF 1 zVL
theorem zWZ (T:Txt w K mg):OkT P w base T.q16 3 1 oA :=
 wU (k:=2) T.q16.F zWB fun cdv A outer s H E hr =>
   (zV gO rfl (yK (zUS (jZ (yR zV2 (vT rfl T.z_len (zT 0)) zX) (jZ (yR zV2 (xD (zT 0) zX) vO) (mH (dZ (qP (xQ (zTI T) hr (zZ (xD (zT 0) zX) zW)))))))) (zS uJ) yW)
     (zV hU rfl (yK (zUS (jZ (zXv T.dc_PROMISES rfl T.c_PROMISES (xD (zT 0) zX)) (mH (zXv T.dc_DIMS rfl T.c_DIMS (xD (zT 0) zX))))) (zS uJ) yW)
     (zS (yV (zP (zZ (xD (zT 0) zX) (zZ (zPF T.dc_PROMISES rfl T.c_PROMISES (xD (zT 0) zX)) (zZ (zPF T.dc_DIMS rfl T.c_DIMS (xD (zT 0) zX)) zW))))))))
theorem zVe:FnScope ["rows","row"] ["rows","row"] (zU fQ):=y0 (by decide +kernel)
def fA:Sf:=(sJ (jY (eIx (eV 0) (wO (eV 1) (eC (.int 1)))) (eC (.str " "))))
def qF:Sf:=(zO (sIf (eB2 gGt (eV 1) (wA (eV 0))) (fun _=>none) xH)
   (fA))
def zTA:Sf :=
   (qF)
def tZ:List D->Option (List D):=fnL 2 zTA
theorem bI (T:Txt w K mg):zWd P w base T.q17 3 2 tZ :=
 lS (k:=2) T.q17.F zVe fun cdv A outer s H E hr =>
   (zV qF rfl (yK (yR zVG (zT 1) (vT rfl T.z_len (zT 0))) (zS uJ) yW)
     (zS (lG (zZl (rK Eu Um Iq zYQ (xD (zT 0) (uN (zT 1) zX)) (yO vO yE))))))
theorem eO:FnScope ["text","dims","bits"] ["text","dims"] (zU oN):=y0 (by decide +kernel)
def zYn:Sf:=(xU (vL (eV 2)))
def gJ:Sf:=(zO (bQ 2 (sIf (aR (eB2 gNe (wA (eV 2)) (eV 1)) (eB2 zOE (zPh (eC (.int 1))) (eV 2))) (xU (eC .non)) xH))
   (zYn))
def gZ:Sf:=(zO (sK 2 (yA (iS (eV 0)) 1 [] (gN 0) tOK (zUQ (eC (.str "01")) (eV 0))))
   (gJ))
def zVA:Sf :=
   (gZ)
def bE:List D->Option D:=fnF 3 zVA
theorem zWP (T:Txt w K mg):OkT P w base T.q18 1 2 bE :=
 wU (k:=0) T.q18.F eO fun cdv A outer s H E hr =>
   (zV gZ rfl (lT (zU oN) ["text","dims","bits"] ["sign"] [] [] (tD 0) 2 eO.nd rfl rfl (zNe (zT 0)) rfl rfl rfl (by decide +kernel) (fun _ _ _ _=>(xV 0 (show(List.Nodup (α:=PySem.Str) ["sign"]) from by decide +kernel))) (fun _ _ _ _=>xX) (fun _ _ _ _=>(zWq (rK Eu Iy Iu zVR (aD rfl T.c_BITS) (yO (zT 0) yE)))))
     (zV gJ rfl (qT 2 (yK (zUS (jZ (yR zV2 (vT rfl T.z_len (zT 2)) (zT 1)) (mH (yR zQI (zUj zX) (zT 2))))) (zS (yV vJ)) yW))
     (zS (yV (uG rfl T.z_tuple (zT 2))))))
theorem fP:FnScope ["text","dims","flips","axes"] ["text","dims"] (zU mO):=y0 (by decide +kernel)
def zVd:Sf:=(xU (zVQ (eV 3) (eV 2)))
def aV:Sf:=(zO (bQ 2 (bQ 3 (sIf (aR (eB2 zOE (zPh (eC (.int 1))) (eV 2)) (eB2 zRd (eL (zWm (iL (eV 3)))) (eL (zTp (eV 1))))) (xU (eC .non)) xH)))
   (zVd))
def bN:Sf:=(zO (sK 3 (yA (iS (zS6 (eV 0) (eC (.int 1)) (eC (.int 2)))) 1 [] (gN 0) tOK (zUQ (eC (.str "xyz")) (eV 0))))
   (aV))
def bA:Sf:=(zO (sK 2 (yA (iS (zS6 (eV 0) (eC (.int 0)) (eC (.int 2)))) 1 [] (gN 0) tOK (zUQ (eC (.str "+-")) (eV 0))))
   (bN))
def aT:Sf:=(zO (sIf (eB2 zRd (wA (eV 0)) (fR (eC (.int 2)) (eV 1))) (xU (eC .non)) xH)
   (bA))
def zSc:Sf :=
   (aT)
def zXk:List D->Option D:=fnF 4 zSc
theorem zUk (T:Txt w K mg):OkT P w base T.q19 1 2 zXk :=
 wU (k:=0) T.q19.F fP fun cdv A outer s H E hr =>
   (zV aT rfl (yK (yR (zWk hr) (vT rfl T.z_len (zT 0)) (lZ zX (zT 1))) (zS (yV vJ)) yW)
     (zV bA rfl (lT (zU mO) ["text","dims","flips","axes"] ["sign"] [] [] (tD 0) 2 fP.nd rfl rfl (zNe (zUI (zT 0) zX zX)) rfl rfl rfl (by decide +kernel) (fun _ _ _ _=>(xV 0 (show(List.Nodup (α:=PySem.Str) ["sign"]) from by decide +kernel))) (fun _ _ _ _=>xX) (fun _ _ _ _=>(zWq (rK Eu Iy Iu zVR (aD rfl T.c_FLIPS) (yO (zT 0) yE)))))
     (zV bN rfl (lT (zU mO) ["text","dims","flips","axes"] ["letter"] [] [] (tD 0) 3 fP.nd rfl rfl (zNe (zUI (zT 0) zX zX)) rfl rfl rfl (by decide +kernel) (fun _ _ _ _=>(xV 0 (show(List.Nodup (α:=PySem.Str) ["letter"]) from by decide +kernel))) (fun _ _ _ _=>xX) (fun _ _ _ _=>(zWq (rK Eu Iy Iu zVR (aD rfl T.c_AXES) (yO (zT 0) yE)))))
     (zV aV rfl (qT 2 (qT 3 (yK (zUS (jZ (yR zQI (zUj zX) (zT 2)) (mH (yR (zWk hr) (vH (zRb rfl T.z_sorted (gX (zT 3)))) (vH (zPx rfl rfl T.z_list rfl T.z_range (zT 1))))))) (zS (yV vJ)) yW)))
     (zS (yV (zRR rfl rfl T.z_tuple rfl T.z_zip (zT 3) (zT 2))))))))
theorem qM:FnScope ["words","dims","row","back","corner","turn"] ["words","dims","row"] (zU kG):=y0 (by decide +kernel)
def zYt:Sf:=(xU (zZf "Part" ["corner","turn","back"] 3 zSw (zY (eV 4) (zY (eV 5) (zY (eV 3) zR)))))
def hJ:Sf:=(zO (sIf (aR (eB2 zNh (eV 4) (eC .non)) (eB2 zNh (eV 5) (eC .non))) (fun _=>none) xH)
   (zYt))
def iD:Sf:=(zO (yY 5 (zL 2 zXk (zY (eIx (eV 0) (eC (.int 2))) (zY (eV 1) zR))))
   (hJ))
def iA:Sf:=(zO (yY 4 (zL 2 bE (zY (eIx (eV 0) (eC (.int 1))) (zY (eV 1) zR))))
   (iD))
def iC:Sf:=(zO (sIf (aR (eB2 zRd (eIx (eV 0) (eC (.int 0))) (eC (.str "part"))) (eB2 zRd (wA (eV 0)) (eIf (tB1 (eV 3)) (eC (.int 4)) (eC (.int 3))))) (fun _=>none) xH)
   (iA))
def hZ:Sf:=(zO (yY 3 (sE (eB2 zKz (eL (fV (eV 0) (mQ (eC (.int 3))) oNo)) (eL (xP (zY (eC (.str "back")) zR))))))
   (iC))
def zV5:Sf :=
   (hZ)
def xR:List D->Option D:=fnF 6 zV5
theorem zWO (T:Txt w K mg):OkT P w base T.q20 3 3 xR :=
 wU (k:=2) T.q20.F qM fun cdv A outer s H E hr =>
   (zV hZ rfl (zQ 3 qM.nd (mL (zM1 hr) (vH (zVi (zT 0) (zXF zX) zKH)) (vH (yC (zZ vO zW)))))
     (zV iC rfl (yK (zUS (jZ (yR (zWk hr) (xD (zT 0) zX) vO) (mH (yR (zWk hr) (vT rfl T.z_len (zT 0)) (zS3 (qP (zT 3)) zX zX))))) (zS uJ) yW)
     (zV iA rfl (zQ 4 qM.nd (xQ (zWP T) hr (zZ (xD (zT 0) zX) (zZ (zT 1) zW))))
     (zV iD rfl (zQ 5 qM.nd (xQ (zUk T) hr (zZ (xD (zT 0) zX) (zZ (zT 1) zW))))
     (zV hJ rfl (yK (zUS (jZ (yR zTD (zT 4) vJ) (mH (yR zTD (zT 5) vJ)))) (zS uJ) yW)
     (zS (yV (zS7 T.ca_Part T.mk_Part (zPC T) (hr.mono (by omega)) T.mc_Part T.bi_Part rfl (zZ (zT 4) (zZ (zT 5) (zZ (zT 3) zW)))))))))))
theorem aA:FnScope ["dims","level","places","halving"] ["dims","level"] (zU zTM):=y0 (by decide +kernel)
def cR:Sf:=(yY 2 (fR (eV 2) (eC (.int 2))))
def zPu:Sf:=(xU (eV 2))
def zZi:Sf:=(zO (tU (iR (fR (eV 0) (eV 1))) (gN 3) (cR))
   (zPu))
def fG:Sf:=(zO (yY 2 (eC (.int 1)))
   (zZi))
def zLO:Sf :=
   (fG)
def fZ:List D->Option D:=fnF 4 zLO
theorem zSD (T:Txt w K mg):OkT P w base T.q21 1 2 fZ :=
 wU (k:=0) T.q21.F aA fun cdv A outer s H E hr =>
   (zV fG rfl (zQ 2 aA.nd zX)
     (zV zZi rfl (uB Ey rfl (zYR rfl T.z_range (lZ (zT 0) (zT 1))) (xV 3 aA.nd) (zS (zQ 2 aA.nd (lZ (zT 2) zX))))
     (zS (yV (zT 2)))))
theorem wR:FnScope ["rows","name","joined","dims","parts","seen","row","part"] ["rows"] (zU lH):=y0 (by decide +kernel)
def kZ:Sf:=(bV 4 (eV 7))
def qX:Sf:=(zO (bH 5 (wX "Part" "corner" (eV 7)) (eC (.bl true)))
   (kZ))
def qV:Sf:=(zO (sIf (zWJ 5 (wX "Part" "corner" (eV 7))) (fun _=>none) xH)
   (qX))
def vS:Sf:=(zO (yY 7 (zL 3 xR (zY (eL (wD 2 tZ (zY (eV 0) (zY (eV 6) zR)))) (zY (eV 3) (zY (eV 6) zR)))))
   (qV))
def zYu:Sf:=(bQ 4 (xU (zZf "Curve" ["name","dims","joined","parts"] 4 eR (zY (eV 1) (zY (eV 3) (zY (eV 2) (zY (eV 4) zR)))))))
def pE:Sf:=(zO (tU (iR2 (eC (.int 2)) (tG (eC (.int 2)) (zL 2 fZ (zY (eV 3) (zY (eC (.int 1)) zR))))) (gN 6) (vS))
   (zYu))
def oU:Sf:=(zO (zQw 5)
   (pE))
def pZ:Sf:=(zO (sK 4 (xP zR))
   (oU))
def sS:Sf:=(zO (pK (zL 1 oA (zY (eL (wD 2 tZ (zY (eV 0) (zY (eC (.int 1)) zR)))) zR)) (gT (zN (gN 1) (zN (gN 2) (zN (gN 3) xS)))))
   (pZ))
def zWi:Sf :=
   (sS)
def sW:List D->Option D:=fnF 8 zWi
theorem iB (T:Txt w K mg):OkT P w base T.q22 4 1 sW :=
 wU (k:=3) T.q22.F wR fun cdv A outer s H E hr =>
   (zV sS rfl (rW (xQ (zWZ T) hr (zZ (vH (zYG (bI T) hr (zZ (zT 0) (zZ zX zW)))) zW)) (oS 3 rfl (zK (xV 1 wR.nd) (zK (xV 2 wR.nd) (zK (xV 3 wR.nd) xW))) (yU (yU (yU xF)))))
     (zV pZ rfl (tY 4 wR.nd (yC zW))
     (zV oU rfl (zSE 5 wR.nd)
     (zV pE rfl (uB Ey rfl (zKI rfl T.z_range zX (uP zX (xQ (zSD T) hr (zZ (zT 3) (zZ zX zW))))) (xV 6 wR.nd) (zV vS rfl (zQ 7 wR.nd (xQ (zWO T) hr (zZ (vH (zYG (bI T) hr (zZ (zT 0) (zZ (zT 6) zW)))) (zZ (zT 3) (zZ (zT 6) zW)))))
     (zV qV rfl (yK (zQP 5 hr (w9 T.ca_Part T.cl_Part T.n_Part_corner (zT 7))) (zS uJ) yW)
     (zV qX rfl (zTi 5 hr pG (w9 T.ca_Part T.cl_Part T.n_Part_corner (zT 7)))
     (zS (bT 4 (rK Ea Rr Rt sF (pv 4) (yO (zT 7) yE))))))))
     (zS (qT 4 (yV (zS7 T.ca_Curve T.mk_Curve (zRe T) (hr.mono (by omega)) T.mc_Curve T.bi_Curve rfl (zZ (zT 1) (zZ (zT 3) (zZ (zT 2) (zZ (zT 4) zW))))))))))))
theorem zPp:FnScope ["dims"] ["dims"] (zU zZT):=y0 (by decide +kernel)
def zR7:Sf:=(xU (vL (eL (yA (iR (eV 0)) 1 [] (gN 0) tOK (yX (zY (eV 0) (zY (eC (.int 0)) zR)))))))
def zNO:Sf :=
   (zR7)
def zSR:List D->Option D:=fnF 1 zNO
theorem zPq (T:Txt w K mg):OkT P w base T.q23 1 1 zSR :=
 wU (k:=0) T.q23.F zPp fun cdv A outer s H E hr =>
   (zS (yV (uG rfl T.z_tuple (vH (wF (zU zZT) ["dims"] ["axis"] [] [] (tD 0) (zYR rfl T.z_range (zT 0)) rfl rfl rfl (by decide +kernel) (fun _ _ _ _=>(xV 0 (show(List.Nodup (α:=PySem.Str) ["axis"]) from by decide +kernel))) (fun _ _ _ _=>xX) (fun _ _ _ _=>(zP (zZ (zT 0) (zZ zX zW)))))))))
theorem zYT:FnScope ["dims"] ["dims"] (zU mY):=y0 (by decide +kernel)
def aS:Sf:=(xU (yX (zY (zL 1 zSR (zY (eV 0) zR)) (zY (eC (.bl false)) zR))))
def zXU:Sf :=
   (aS)
def rP:List D->Option D:=fnF 1 zXU
theorem jN (T:Txt w K mg):OkT P w base T.q24 2 1 rP :=
 wU (k:=1) T.q24.F zYT fun cdv A outer s H E hr =>
   (zS (yV (zP (zZ (xQ (zPq T) hr (zZ (zT 0) zW)) (zZ pG zW)))))
theorem zRP:FnScope ["curve","back","number"] ["curve","back","number"] (zU zZy):=y0 (by decide +kernel)
def zTx:Sf:=(xU (eIf (tB1 (eV 1)) (wO (wO (wA (wX "Curve" "parts" (eV 0))) (eC (.int 1))) (eV 2)) (eV 2)))
def zPa:Sf :=
   (zTx)
def jP:List D->Option D:=fnF 3 zPa
theorem zRU (T:Txt w K mg):OkT P w base T.q25 1 3 jP :=
 wU (k:=0) T.q25.F zRP fun cdv A outer s H E hr =>
   (zS (yV (zS3 (qP (zT 1)) (uN (uN (vT rfl T.z_len (w9 T.ca_Curve T.cl_Curve T.n_Curve_parts (zT 0))) zX) (zT 2)) (zT 2))))
theorem zOQ:FnScope ["one","other"] ["one","other"] (zU zZX):=y0 (by decide +kernel)
def zXt:Sf:=(xU (vL (eL (yA (iT (eV 0)) 2 [1] (gT (zN (gN 0) (zN (gN 1) xS))) tOK (yX (zY (eIx (eIx (eV 2) (eV 0)) (eC (.int 0))) (zY (zWX (eIx (eIx (eV 2) (eV 0)) (eC (.int 1))) (eV 1)) zR)))))))
def zSt:Sf :=
   (zXt)
def mM:List D->Option D:=fnF 2 zSt
theorem zOZ (T:Txt w K mg):OkT P w base T.q26 1 2 mM :=
 wU (k:=0) T.q26.F zOQ fun cdv A outer s H E hr =>
   (zS (yV (uG rfl T.z_tuple (vH (wF (zU zZX) ["one","other"] ["axis","flip"] ["other"] [1] (zWF (xE (tD 0) (xE (tD 1) qG))) (zSa (zT 0)) rfl rfl rfl (by decide +kernel) (fun _ _ _ _=>(oS 2 rfl (zK (xV 0 (show(List.Nodup (α:=PySem.Str) ["axis","flip","other"]) from by decide +kernel)) (zK (xV 1 (show(List.Nodup (α:=PySem.Str) ["axis","flip","other"]) from by decide +kernel)) xW)) (yU (yU xF)))) (fun _ _ _ _=>xX) (fun _ _ _ _=>(zP (zZ (xD (xD (zT 2) (zT 0)) zX) (zZ (zVT (xD (xD (zT 2) (zT 0)) zX) (zT 1)) zW)))))))))
theorem zRG:FnScope ["turn","corner"] ["turn","corner"] (zU eN):=y0 (by decide +kernel)
def zY3:Sf:=(xU (vL (eL (yA (iT (eV 0)) 2 [1] (gT (zN (gN 0) (zN (gN 1) xS))) tOK (zWX (eIx (eV 2) (eV 0)) (eV 1))))))
def zUP:Sf :=
   (zY3)
def pO:List D->Option D:=fnF 2 zUP
theorem zRD (T:Txt w K mg):OkT P w base T.q27 1 2 pO :=
 wU (k:=0) T.q27.F zRG fun cdv A outer s H E hr =>
   (zS (yV (uG rfl T.z_tuple (vH (wF (zU eN) ["turn","corner"] ["axis","flip"] ["corner"] [1] (zWF (xE (tD 0) (xE (tD 1) qG))) (zSa (zT 0)) rfl rfl rfl (by decide +kernel) (fun _ _ _ _=>(oS 2 rfl (zK (xV 0 (show(List.Nodup (α:=PySem.Str) ["axis","flip","corner"]) from by decide +kernel)) (zK (xV 1 (show(List.Nodup (α:=PySem.Str) ["axis","flip","corner"]) from by decide +kernel)) xW)) (yU (yU xF)))) (fun _ _ _ _=>xX) (fun _ _ _ _=>(zVT (xD (zT 2) (zT 0)) (zT 1))))))))
theorem pF:FnScope ["curve","state","digit","turn","back","part","inner"] ["curve","state","digit"] (zU cI):=y0 (by decide +kernel)
def aX:Sf:=(xU (yX (zY (zL 2 pO (zY (eV 3) (zY (wX "Part" "corner" (eV 5)) zR))) (zY (eV 6) zR))))
def jW:Sf:=(zO (yY 6 (yX (zY (zL 2 mM (zY (eV 3) (zY (wX "Part" "turn" (eV 5)) zR))) (zY (sE (eB2 gNe (eV 4) (wX "Part" "back" (eV 5)))) zR))))
   (aX))
def kL:Sf:=(zO (yY 5 (eIx (wX "Curve" "parts" (eV 0)) (zL 3 jP (zY (eV 0) (zY (eV 4) (zY (eV 2) zR))))))
   (jW))
def aY:Sf:=(zO (pK (eV 1) (gT (zN (gN 3) (zN (gN 4) xS))))
   (kL))
def zQZ:Sf :=
   (aY)
def wJ:List D->Option D:=fnF 7 zQZ
theorem pW (T:Txt w K mg):OkT P w base T.q28 2 3 wJ :=
 wU (k:=1) T.q28.F pF fun cdv A outer s H E hr =>
   (zV aY rfl (rW (zT 1) (oS 2 rfl (zK (xV 3 pF.nd) (zK (xV 4 pF.nd) xW)) (yU (yU xF))))
     (zV kL rfl (zQ 5 pF.nd (xD (w9 T.ca_Curve T.cl_Curve T.n_Curve_parts (zT 0)) (xQ (zRU T) hr (zZ (zT 0) (zZ (zT 4) (zZ (zT 2) zW))))))
     (zV jW rfl (zQ 6 pF.nd (zP (zZ (xQ (zOZ T) hr (zZ (zT 3) (zZ (w9 T.ca_Part T.cl_Part T.n_Part_turn (zT 5)) zW))) (zZ (mL zV2 (zT 4) (w9 T.ca_Part T.cl_Part T.n_Part_back (zT 5))) zW))))
     (zS (yV (zP (zZ (xQ (zRD T) hr (zZ (zT 3) (zZ (w9 T.ca_Part T.cl_Part T.n_Part_corner (zT 5)) zW))) (zZ (zT 6) zW))))))))
theorem zUs:FnScope ["one","other"] ["one","other"] (zU iI):=y0 (by decide +kernel)
def zU6:Sf:=(xU (sE (eB2 gEq (zVK (yA (zNk (eV 0) (eV 1)) 2 [] (gT (zN (gN 0) (zN (gN 1) xS))) tOK (zQJ (wO (eV 0) (eV 1))))) (eC (.int 1)))))
def zRT:Sf :=
   (zU6)
def rY:List D->Option D:=fnF 2 zRT
theorem zTr (T:Txt w K mg):OkT P w base T.q29 1 2 rY :=
 wU (k:=0) T.q29.F zUs fun cdv A outer s H E hr =>
   (zS (yV (mL uT (zSV rfl rfl T.z_sum (dP (wF (zU iI) ["one","other"] ["along","across"] [] [] (zWF (xE (tD 0) (xE (tD 1) qG))) (zPO rfl T.z_zip (zT 0) (zT 1)) rfl rfl rfl (by decide +kernel) (fun _ _ _ _=>(oS 2 rfl (zK (xV 0 (show(List.Nodup (α:=PySem.Str) ["along","across"]) from by decide +kernel)) (zK (xV 1 (show(List.Nodup (α:=PySem.Str) ["along","across"]) from by decide +kernel)) xW)) (yU (yU xF)))) (fun _ _ _ _=>xX) (fun _ _ _ _=>(zPw rfl T.z_abs (uN (zT 0) (zT 1))))))) zX)))
theorem zRf:FnScope ["place","corner"] ["place","corner"] (zU dL):=y0 (by decide +kernel)
def zTO:Sf:=(xU (vL (eL (yA (zNk (eV 0) (eV 1)) 2 [] (gT (zN (gN 0) (zN (gN 1) xS))) tOK (tG (fR (eC (.int 2)) (eV 0)) (eV 1))))))
def zQB:Sf :=
   (zTO)
def uK:List D->Option D:=fnF 2 zQB
theorem bZ (T:Txt w K mg):OkT P w base T.q30 1 2 uK :=
 wU (k:=0) T.q30.F zRf fun cdv A outer s H E hr =>
   (zS (yV (uG rfl T.z_tuple (vH (wF (zU dL) ["place","corner"] ["along","bit"] [] [] (zWF (xE (tD 0) (xE (tD 1) qG))) (zPO rfl T.z_zip (zT 0) (zT 1)) rfl rfl rfl (by decide +kernel) (fun _ _ _ _=>(oS 2 rfl (zK (xV 0 (show(List.Nodup (α:=PySem.Str) ["along","bit"]) from by decide +kernel)) (zK (xV 1 (show(List.Nodup (α:=PySem.Str) ["along","bit"]) from by decide +kernel)) xW)) (yU (yU xF)))) (fun _ _ _ _=>xX) (fun _ _ _ _=>(uP (lZ zX (zT 0)) (zT 1))))))))
theorem xY:FnScope ["curve","first","whole","end","ending","start","starting","level","seen","corner"] ["curve","first"] (zU fL):=y0 (by decide +kernel)
def dN:Sf:=(xU (eV 7))
def dC:Sf:=(zO (uM (tB1 (zL 2 rY (zY (eV 3) (zY (eV 5) zR)))) (zO (sIf (zWJ 8 (yX (zY (eV 4) (zY (eV 6) zR)))) (xU (eC .non)) xH)
   (zO (bH 8 (yX (zY (eV 4) (zY (eV 6) zR))) (eC (.bl true)))
   (zO (pK (zL 3 wJ (zY (eV 0) (zY (eV 4) (zY (wO (wA (wX "Curve" "parts" (eV 0))) (eC (.int 1))) zR)))) (gT (zN (gN 9) (zN (gN 4) xS))))
   (zO (yY 3 (zL 2 uK (zY (eV 3) (zY (eV 9) zR))))
   (zO (pK (zL 3 wJ (zY (eV 0) (zY (eV 6) (zY (eC (.int 0)) zR)))) (gT (zN (gN 9) (zN (gN 6) xS))))
   (zO (yY 5 (zL 2 uK (zY (eV 5) (zY (eV 9) zR))))
   (yY 7 (tG (eV 7) (eC (.int 1)))))))))) 10000)
   (dN))
def mB:Sf:=(zO (zQw 8)
   (dC))
def lP:Sf:=(zO (yY 7 (eC (.int 1)))
   (mB))
def lL:Sf:=(zO (pK (zL 3 wJ (zY (eV 0) (zY (eV 2) (zY (tG (eV 1) (eC (.int 1))) zR)))) (gT (zN (gN 5) (zN (gN 6) xS))))
   (lP))
def mD:Sf:=(zO (pK (zL 3 wJ (zY (eV 0) (zY (eV 2) (zY (eV 1) zR)))) (gT (zN (gN 3) (zN (gN 4) xS))))
   (lL))
def qQ:Sf:=(zO (yY 2 (zL 1 rP (zY (wX "Curve" "dims" (eV 0)) zR)))
   (mD))
def zTN:Sf :=
   (qQ)
def vC:List D->Option D:=fnF 10 zTN
theorem zVf (T:Txt w K mg):OkT P w base T.q31 3 2 vC :=
 wU (k:=2) T.q31.F xY fun cdv A outer s H E hr =>
   (zV qQ rfl (zQ 2 xY.nd (xQ (jN T) hr (zZ (w9 T.ca_Curve T.cl_Curve T.n_Curve_dims (zT 0)) zW)))
     (zV mD rfl (rW (xQ (pW T) hr (zZ (zT 0) (zZ (zT 2) (zZ (zT 1) zW)))) (oS 2 rfl (zK (xV 3 xY.nd) (zK (xV 4 xY.nd) xW)) (yU (yU xF))))
     (zV lL rfl (rW (xQ (pW T) hr (zZ (zT 0) (zZ (zT 2) (zZ (uP (zT 1) zX) zW)))) (oS 2 rfl (zK (xV 5 xY.nd) (zK (xV 6 xY.nd) xW)) (yU (yU xF))))
     (zV lP rfl (zQ 7 xY.nd zX)
     (zV mB rfl (zSE 8 xY.nd)
     (zV dC rfl (zXQ 10000 Ey (qP (xQ (zTr T) hr (zZ (zT 3) (zZ (zT 5) zW)))) (xN (yK (zQP 8 hr (zP (zZ (zT 4) (zZ (zT 6) zW)))) (zS (yV vJ)) yW)
     (xN (zTi 8 hr pG (zP (zZ (zT 4) (zZ (zT 6) zW))))
     (xN (rW (xQ (pW T) hr (zZ (zT 0) (zZ (zT 4) (zZ (uN (vT rfl T.z_len (w9 T.ca_Curve T.cl_Curve T.n_Curve_parts (zT 0))) zX) zW)))) (oS 2 rfl (zK (xV 9 xY.nd) (zK (xV 4 xY.nd) xW)) (yU (yU xF))))
     (xN (zQ 3 xY.nd (xQ (bZ T) hr (zZ (zT 3) (zZ (zT 9) zW))))
     (xN (rW (xQ (pW T) hr (zZ (zT 0) (zZ (zT 6) (zZ zX zW)))) (oS 2 rfl (zK (xV 9 xY.nd) (zK (xV 6 xY.nd) xW)) (yU (yU xF))))
     (xN (zQ 5 xY.nd (xQ (bZ T) hr (zZ (zT 5) (zZ (zT 9) zW))))
     (zS (zQ 7 xY.nd (uP (zT 7) zX))))))))))
     (zS (yV (zT 7)))))))))
theorem nL:FnScope ["curve","levels","least"] ["curve"] (zU tO):=y0 (by decide +kernel)
def kE:Sf:=(xU (yX (zY (zZU (iL (eV 1)) (eV 2)) (zY (eV 2) zR))))
def sZ:Sf:=(zO (sIf (eB2 zNh (eV 2) (eC .non)) (xU (eC .non)) xH)
   (kE))
def pR:Sf:=(zO (bQ 1 (yY 2 (zZt (yA (iL (eV 1)) 1 [] (gN 0) (eB2 uR (eV 0) (eC .non)) (eV 0)))))
   (sZ))
def sT:Sf:=(zO (sK 1 (yA (iR (wO (wA (wX "Curve" "parts" (eV 0))) (eC (.int 1)))) 1 [0] (gN 0) tOK (zL 2 vC (zY (eV 1) (zY (eV 0) zR)))))
   (pR))
def zWY:Sf :=
   (sT)
def wZ:List D->Option D:=fnF 3 zWY
theorem gY (T:Txt w K mg):OkT P w base T.q32 4 1 wZ :=
 wU (k:=3) T.q32.F nL fun cdv A outer s H E hr =>
   (zV sT rfl (lT (zU tO) ["curve","levels","least"] ["first"] ["curve"] [0] (tD 0) 1 nL.nd rfl rfl (zYR rfl T.z_range (uN (vT rfl T.z_len (w9 T.ca_Curve T.cl_Curve T.n_Curve_parts (zT 0))) zX)) rfl rfl rfl (by decide +kernel) (fun _ _ _ _=>(xV 0 (show(List.Nodup (α:=PySem.Str) ["first","curve"]) from by decide +kernel))) (fun _ _ _ _=>xX) (fun _ _ _ _=>(xQ (zVf T) hr (zZ (zT 1) (zZ (zT 0) zW)))))
     (zV pR rfl (qT 1 (zQ 2 nL.nd (zO5 rfl rfl T.z_min (dP (wF (zU tO) ["curve","levels","least"] ["level"] [] [] (tD 0) (zSd (zT 1)) rfl rfl rfl (by decide +kernel) (fun _ _ _ _=>(xV 0 (show(List.Nodup (α:=PySem.Str) ["level"]) from by decide +kernel))) (fun _ _ _ _=>(zRk (yR kJ (zT 0) vJ))) (fun _ _ _ _=>(zT 0)))))))
     (zV sZ rfl (yK (yR zTD (zT 2) vJ) (zS (yV vJ)) yW)
     (zS (yV (zP (zZ (zRL hr (rK Ea PySem.F.slot_list_index PySem.F.type_list_index (zRC hr) (gX (zT 1)) (yO (zT 2) yE))) (zZ (zT 2) zW))))))))
theorem rZ:FnScope ["curve","unmet","first","level"] ["curve"] (zU zY2):=y0 (by decide +kernel)
def zUd:Sf:=(xU (eV 0))
def zYF:Sf:=(zO (sIf (eB2 uR (eV 1) (eC .non)) (zO (pK (eV 1) (gT (zN (gN 2) (zN (gN 3) xS))))
   (fun _=>none)) xH)
   (zUd))
def lO:Sf:=(zO (yY 1 (eIf (tB1 (wX "Curve" "joined" (eV 0))) (zL 1 wZ (zY (eV 0) zR)) (eC .non)))
   (zYF))
def zVj:Sf :=
   (lO)
def jJ:List D->Option D:=fnF 4 zVj
def qD:Ef:=(zXT zZp (yY 1 (eIf (tB1 (wX "Curve" "joined" (eV 0))) (zL 1 wZ (zY (eV 0) zR)) (eC .non))) (vIf (eB2 uR (eV 1) (eC .non)) (zXT zZp (pK (eV 1) (gT (zN (gN 2) (zN (gN 3) xS)))) (zTE "Unmet" ["first","second","level"] 3 zV6 (zY (eV 2) (zY (tG (eV 2) (eC (.int 1))) (zY (eV 3) zR))))) zZp))
def jG:List D->Option D:=fnV 4 qD
theorem zXR (T:Txt w K mg):FnOk P w K mg base (CXv P w) 5 T.q33.f T.q33.fd ["curve"] (spV K 1 jJ jG) :=
 zPZ (N:=["curve","unmet","first","level"]) (ps:=["curve"]) (k:=4) (body:=zVj) (xb:=qD) T.q33.F rZ (fun cdv A outer s H E hr =>
   (zV lO rfl (zQ 1 rZ.nd (zS3 (qP (w9 T.ca_Curve T.cl_Curve T.n_Curve_joined (zT 0))) (xQ (gY T) hr (zZ (zT 0) zW)) vJ))
     (zV zYF rfl (yK (yR kJ (zT 1) vJ) (xN (rW (zT 1) (oS 2 rfl (zK (xV 2 rZ.nd) (zK (xV 3 rZ.nd) xW)) (yU (yU xF))))
     (zS uJ)) yW)
     (zS (yV (zT 0))))))
   (fun cdv A outer s H E hr=>(bW zXi (PFS.nox (zQ 1 rZ.nd (zS3 (qP (w9 T.ca_Curve T.cl_Curve T.n_Curve_joined (zT 0))) (xQ (gY T) hr (zZ (zT 0) zW)) vJ))) (zWA (zKR (yR kJ (zT 1) vJ) (bW zXi (PFS.nox (rW (zT 1) (oS 2 rfl (zK (xV 2 rZ.nd) (zK (xV 3 rZ.nd) xW)) (yU (yU xF))))) (zWA (zQ7 T.ca_Unmet T.xm_Unmet (zRB T) rfl (hr.mono (by omega)) T.mc_Unmet T.bi_Unmet rfl rfl zOu (zZ (zT 2) (zZ (uP (zT 2) zX) (zZ (zT 3) zW)))))) zLE))))
theorem vA:FnScope ["text","rows","curve","told"] ["text"] (zU fO):=y0 (by decide +kernel)
def fE:Sf:=(xU (zL 1 jJ (zY (eV 2) zR)))
def lM:Sf:=(zO (sIf (eB2 gGt (wA (eV 1)) (eV 3)) (fun _=>none) xH)
   (fE))
def lE:Sf:=(zO (yY 3 (tG (eC (.int 1)) (wA (wX "Curve" "parts" (eV 2)))))
   (lM))
def lU:Sf:=(zO (yY 2 (zL 1 sW (zY (eV 1) zR)))
   (lE))
def qR:Sf:=(zO (yY 1 (eL (jY (eV 0) (eC (.str "\n")))))
   (lU))
def zYE:Sf :=
   (qR)
def lN:List D->Option D:=fnF 4 zYE
def oM:Ef:=(zXT zZp (yY 1 (eL (jY (eV 0) (eC (.str "\n"))))) (zXT zZp (yY 2 (zL 1 sW (zY (eV 1) zR))) (zXT zZp (yY 3 (tG (eC (.int 1)) (wA (wX "Curve" "parts" (eV 2))))) (zXT zZp (sIf (eB2 gGt (wA (eV 1)) (eV 3)) (fun _=>none) xH) (zL 1 jG (zY (eV 2) zR))))))
def gC:List D->Option D:=fnV 4 oM
theorem jF (T:Txt w K mg):FnOk P w K mg base (CXv P w) 6 T.q34.f T.q34.fd ["text"] (spV K 1 lN gC) :=
 zPZ (N:=["text","rows","curve","told"]) (ps:=["text"]) (k:=5) (body:=zYE) (xb:=oM) T.q34.F vA (fun cdv A outer s H E hr =>
   (zV qR rfl (zQ 1 vA.nd (vH (zZl (rK Eu Um Iq zYQ (zT 0) (yO vO yE)))))
     (zV lU rfl (zQ 2 vA.nd (xQ (iB T) hr (zZ (zT 1) zW)))
     (zV lE rfl (zQ 3 vA.nd (uP zX (vT rfl T.z_len (w9 T.ca_Curve T.cl_Curve T.n_Curve_parts (zT 2)))))
     (zV lM rfl (yK (yR zVG (vT rfl T.z_len (zT 1)) (zT 3)) (zS uJ) yW)
     (zS (yV (zYC (zXR T) (hr.mono (by omega)) T.q33.m T.q33.F.kp T.q33.b rfl (zZ (zT 2) zW)))))))))
   (fun cdv A outer s H E hr=>(bW zXi (PFS.nox (zQ 1 vA.nd (vH (zZl (rK Eu Um Iq zYQ (zT 0) (yO vO yE)))))) (bW zXi (PFS.nox (zQ 2 vA.nd (xQ (iB T) hr (zZ (zT 1) zW)))) (bW zXi (PFS.nox (zQ 3 vA.nd (uP zX (vT rfl T.z_len (w9 T.ca_Curve T.cl_Curve T.n_Curve_parts (zT 2)))))) (bW zXi (PFS.nox (yK (yR zVG (vT rfl T.z_len (zT 1)) (zT 3)) (zS uJ) yW)) (zWA (zL6 (zN3 (zXR T) zNy (hr.mono (by omega)) T.q33.m T.q33.F.kp T.q33.b rfl (zZ (zT 2) zW)))))))))
theorem w6:FnScope ["_law_dims","_law_joined_here","_law_parts","_law_rows","_law_corner","_law_turn_here","_law_back","_law_signs","_law_row"] ["_law_dims","_law_joined_here","_law_parts"] (zU pC):=y0 (by decide +kernel)
def gL:Sf:=(bV 3 (eV 8))
def nK:Sf:=(zO (sIf (tB1 (eV 6)) (yY 8 (xO (eV 8) (eC (.str " back")))) xH)
   (gL))
def nI:Sf:=(zO (yY 8 (xO (xO (xO (eC (.str "part ")) (rH (eC (.str "")) (yA (iT (eV 4)) 1 [] (gN 0) tOK (pU (eV 0))))) (eC (.str " "))) (eV 7)))
   (nK))
def vP:Sf:=(zO (yY 7 (rH (eC (.str "")) (yA (iT (eV 5)) 2 [] (gT (zN (gN 0) (zN (gN 1) xS))) tOK (xO (eIx (eC (.str "+-")) (eV 1)) (eIx (eC (.str "xyz")) (eV 0))))))
   (nI))
def dM:Sf:=(bQ 3 (xU (rH (eC (.str "\n")) (iL (eV 3)))))
def mE:Sf:=(zO (tU (iL (eV 2)) (gT (zN (gN 4) (zN (gN 5) (zN (gN 6) xS)))) (vP))
   (dM))
def qI:Sf:=(zO (sK 3 (xP (zY (xO (xO (xO (eC (.str "curve fold ")) (eIx (eL (xP (zY (eC (.str "loose")) (zY (eC (.str "joined")) zR)))) (zZD (eV 1)))) (eC (.str " "))) (pU (eV 0))) zR)))
   (mE))
def zTs:Sf :=
   (qI)
def uA:List D->Option D:=fnF 9 zTs
theorem kO (T:Txt w K mg):OkT P w base T.q35 1 3 uA :=
 wU (k:=0) T.q35.F w6 fun cdv A outer s H E hr =>
   (zV qI rfl (tY 3 w6.nd (yC (zZ (oC (oC (oC vO (xD (vH (yC (zZ vO (zZ vO zW)))) (zUX rfl T.z_int (zT 1)))) vO) (zV9 rfl T.z_str (zT 0))) zW)))
     (zV mE rfl (uB Ey rfl (zSd (zT 2)) (oS 3 rfl (zK (xV 4 w6.nd) (zK (xV 5 w6.nd) (zK (xV 6 w6.nd) xW))) (yU (yU (yU xF)))) (zV vP rfl (zQ 7 w6.nd (zWx (rK Eu Ii Ip zVZ vO (yO (dP (wF (zU pC) ["_law_dims","_law_joined_here","_law_parts","_law_rows","_law_corner","_law_turn_here","_law_back","_law_signs","_law_row"] ["_law_axis","_law_flip"] [] [] (zWF (xE (tD 0) (xE (tD 1) qG))) (zSa (zT 5)) rfl rfl rfl (by decide +kernel) (fun _ _ _ _=>(oS 2 rfl (zK (xV 0 (show(List.Nodup (α:=PySem.Str) ["_law_axis","_law_flip"]) from by decide +kernel)) (zK (xV 1 (show(List.Nodup (α:=PySem.Str) ["_law_axis","_law_flip"]) from by decide +kernel)) xW)) (yU (yU xF)))) (fun _ _ _ _=>xX) (fun _ _ _ _=>(oC (xD vO (zT 1)) (xD vO (zT 0)))))) yE))))
     (zV nI rfl (zQ 8 w6.nd (oC (oC (oC vO (zWx (rK Eu Ii Ip zVZ vO (yO (dP (wF (zU pC) ["_law_dims","_law_joined_here","_law_parts","_law_rows","_law_corner","_law_turn_here","_law_back","_law_signs","_law_row"] ["_law_bit"] [] [] (tD 0) (zSa (zT 4)) rfl rfl rfl (by decide +kernel) (fun _ _ _ _=>(xV 0 (show(List.Nodup (α:=PySem.Str) ["_law_bit"]) from by decide +kernel))) (fun _ _ _ _=>xX) (fun _ _ _ _=>(zV9 rfl T.z_str (zT 0))))) yE)))) vO) (zT 7)))
     (zV nK rfl (yK (qP (zT 6)) (zS (zQ 8 w6.nd (oC (zT 8) vO))) yW)
     (zS (bT 3 (rK Ea Rr Rt sF (pv 3) (yO (zT 8) yE))))))))
     (zS (qT 3 (yV (zWx (rK Eu Ii Ip zVZ vO (yO (gX (zT 3)) yE))))))))
theorem qK:FnScope ["number","base","many","digits","step"] ["number","base","many"] (zU kK):=y0 (by decide +kernel)
def jS:Sf:=(yY 0 (uO (eV 0) (eV 1)))
def vB:Sf:=(zO (bV 3 (xK (eV 0) (eV 1)))
   (jS))
def gQ:Sf:=(bQ 3 (sJ (zOY (iL (eV 3)) (zPh (eC (.int 1))))))
def nW:Sf:=(zO (tU (iR (eV 2)) (gN 4) (vB))
   (gQ))
def rR:Sf:=(zO (sK 3 (xP zR))
   (nW))
def zUU:Sf :=
   (rR)
def kF:List D->Option (List D):=fnL 5 zUU
theorem zXa (T:Txt w K mg):zWd P w base T.q36 1 3 kF :=
 lS (k:=0) T.q36.F qK fun cdv A outer s H E hr =>
   (zV rR rfl (tY 3 qK.nd (yC zW))
     (zV nW rfl (uB Ey rfl (zYR rfl T.z_range (zT 2)) (xV 4 qK.nd) (zV vB rfl (bT 3 (rK Ea Rr Rt sF (pv 3) (yO (xT (zT 0) (zT 1)) yE)))
     (zS (zQ 0 qK.nd (vV (zT 0) (zT 1))))))
     (zS (qT 3 (lG (zNo (gX (zT 3)) (zUj zX)))))))
theorem uX:FnScope ["curve","level","number","state","place","digit","corner"] ["curve","level","number"] (zU gF):=y0 (by decide +kernel)
def gK:Sf:=(yY 4 (zL 2 uK (zY (eV 4) (zY (eV 6) zR))))
def rM:Sf:=(zO (pK (zL 3 wJ (zY (eV 0) (zY (eV 3) (zY (eV 5) zR)))) (gT (zN (gN 6) (zN (gN 3) xS))))
   (gK))
def zVV:Sf:=(xU (eV 4))
def mG:Sf:=(zO (tU (wD 3 kF (zY (eV 2) (zY (wA (wX "Curve" "parts" (eV 0))) (zY (eV 1) zR)))) (gN 5) (rM))
   (zVV))
def mK:Sf:=(zO (yY 4 (zSY (yX (zY (eC (.int 0)) zR)) (wX "Curve" "dims" (eV 0))))
   (mG))
def lY:Sf:=(zO (yY 3 (zL 1 rP (zY (wX "Curve" "dims" (eV 0)) zR)))
   (mK))
def qN:Sf:=(zO (sIf (rF (eB3 gLe gLt (eC (.int 0)) (eV 2) (zL 2 fZ (zY (wX "Curve" "dims" (eV 0)) (zY (eV 1) zR))))) (fun _=>none) xH)
   (lY))
def zTn:Sf :=
   (qN)
def sB:List D->Option D:=fnF 7 zTn
theorem bF (T:Txt w K mg):OkT P w base T.q37 3 3 sB :=
 wU (k:=2) T.q37.F uX fun cdv A outer s H E hr =>
   (zV qN rfl (yK (dZ (zX2 zSU zSS zX (zT 2) (xQ (zSD T) hr (zZ (w9 T.ca_Curve T.cl_Curve T.n_Curve_dims (zT 0)) (zZ (zT 1) zW))))) (zS uJ) yW)
     (zV lY rfl (zQ 3 uX.nd (xQ (jN T) hr (zZ (w9 T.ca_Curve T.cl_Curve T.n_Curve_dims (zT 0)) zW)))
     (zV mK rfl (zQ 4 uX.nd (zNU (zP (zZ zX zW)) (w9 T.ca_Curve T.cl_Curve T.n_Curve_dims (zT 0))))
     (zV mG rfl (uB Ey rfl (zMO (zYG (zXa T) hr (zZ (zT 2) (zZ (vT rfl T.z_len (w9 T.ca_Curve T.cl_Curve T.n_Curve_parts (zT 0))) (zZ (zT 1) zW))))) (xV 5 uX.nd) (zV rM rfl (rW (xQ (pW T) hr (zZ (zT 0) (zZ (zT 3) (zZ (zT 5) zW)))) (oS 2 rfl (zK (xV 6 uX.nd) (zK (xV 3 uX.nd) xW)) (yU (yU xF))))
     (zS (zQ 4 uX.nd (xQ (bZ T) hr (zZ (zT 4) (zZ (zT 6) zW)))))))
     (zS (yV (zT 4)))))))
theorem fN:FnScope ["_law_curve","_law_dims","_law_level_here","_law_asked","_law_one","_law_other"] ["_law_curve","_law_dims","_law_level_here","_law_asked"] (zU iH):=y0 (by decide +kernel)
def bJ:Sf:=(xU (sE (eB2 gEq (zVK (yA (iR (eV 1)) 1 [4,5] (gN 0) tOK (zQJ (wO (eIx (eV 1) (eV 0)) (eIx (eV 2) (eV 0)))))) (eC (.int 1)))))
def jB:Sf:=(zO (yY 5 (zL 3 sB (zY (eV 0) (zY (eV 2) (zY (tG (eV 3) (eC (.int 1))) zR)))))
   (bJ))
def oO:Sf:=(zO (yY 4 (zL 3 sB (zY (eV 0) (zY (eV 2) (zY (eV 3) zR)))))
   (jB))
def zRy:Sf :=
   (oO)
def uU:List D->Option D:=fnF 6 zRy
theorem zYV (T:Txt w K mg):OkT P w base T.q38 4 4 uU :=
 wU (k:=3) T.q38.F fN fun cdv A outer s H E hr =>
   (zV oO rfl (zQ 4 fN.nd (xQ (bF T) hr (zZ (zT 0) (zZ (zT 2) (zZ (zT 3) zW)))))
     (zV jB rfl (zQ 5 fN.nd (xQ (bF T) hr (zZ (zT 0) (zZ (zT 2) (zZ (uP (zT 3) zX) zW)))))
     (zS (yV (mL uT (zSV rfl rfl T.z_sum (dP (wF (zU iH) ["_law_curve","_law_dims","_law_level_here","_law_asked","_law_one","_law_other"] ["_law_k"] ["_law_one","_law_other"] [4,5] (tD 0) (zYR rfl T.z_range (zT 1)) rfl rfl rfl (by decide +kernel) (fun _ _ _ _=>(xV 0 (show(List.Nodup (α:=PySem.Str) ["_law_k","_law_one","_law_other"]) from by decide +kernel))) (fun _ _ _ _=>xX) (fun _ _ _ _=>(zPw rfl T.z_abs (uN (xD (zT 1) (zT 0)) (xD (zT 2) (zT 0)))))))) zX)))))
theorem qO:FnScope ["_law_curve","_law_dims","_law_refusal","_law_size","_law_k"] ["_law_curve","_law_dims","_law_refusal"] (zU jC):=y0 (by decide +kernel)
def sP:Sf:=(yY 3 (oK (eV 3) (wA (wX "Curve" "parts" (eV 0)))))
def hW:Sf:=(xU (sE (rF (tB1 (zL 4 uU (zY (eV 0) (zY (eV 1) (zY (wQ xB "level" (eV 2)) (zY (wO (oK (wQ tW "second" (eV 2)) (eV 3)) (eC (.int 1))) zR)))))))))
def nD:Sf:=(zO (tU (iR (wO (wQ xB "level" (eV 2)) (eC (.int 1)))) (gN 4) (sP))
   (hW))
def nJ:Sf:=(zO (yY 3 (eC (.int 1)))
   (nD))
def nO:Sf:=(zO (sIf (rF (eB3 gLe gLt (eC (.int 0)) (wQ sA "first" (eV 2)) (wO (wA (wX "Curve" "parts" (eV 0))) (eC (.int 1))))) (xU (eC (.bl false))) xH)
   (nJ))
def rS:Sf:=(zO (sIf (aR (eB2 gNe (wQ tW "second" (eV 2)) (tG (wQ sA "first" (eV 2)) (eC (.int 1)))) (eB2 gLt (wQ xB "level" (eV 2)) (eC (.int 1)))) (xU (eC (.bl false))) xH)
   (nO))
def zUA:Sf :=
   (rS)
def jQ:List D->Option D:=fnF 5 zUA
theorem zWb (T:Txt w K mg):OkT P w base T.q39 5 3 jQ :=
 wU (k:=4) T.q39.F qO fun cdv A outer s H E hr =>
   (zV rS rfl (yK (zUS (jZ (yR zV2 (oE (zX5 T) (zT 2)) (uP (oE (zVl T) (zT 2)) zX)) (mH (yR zSS (oE (dG T) (zT 2)) zX)))) (zS (yV pG)) yW)
     (zV nO rfl (yK (dZ (zX2 zSU zSS zX (oE (zVl T) (zT 2)) (uN (vT rfl T.z_len (w9 T.ca_Curve T.cl_Curve T.n_Curve_parts (zT 0))) zX))) (zS (yV pG)) yW)
     (zV nJ rfl (zQ 3 qO.nd zX)
     (zV nD rfl (uB Ey rfl (zYR rfl T.z_range (uN (oE (dG T) (zT 2)) zX)) (xV 4 qO.nd) (zS (zQ 3 qO.nd (iP (zT 3) (vT rfl T.z_len (w9 T.ca_Curve T.cl_Curve T.n_Curve_parts (zT 0)))))))
     (zS (yV (zP1 (xQ (zYV T) hr (zZ (zT 0) (zZ (zT 1) (zZ (oE (dG T) (zT 2)) (zZ (uN (iP (oE (zX5 T) (zT 2)) (zT 3)) zX) zW))))))))))))
theorem zVU:FnScope ["_law_number_here"] ["_law_number_here"] (zU kD):=y0 (by decide +kernel)
def gR:Sf:=(xU (xK (uO (eV 0) (eC (.int 6))) (eC (.int 13))))
def rX:Sf:=(zO (sIf (eB2 gEq (xK (eV 0) (eC (.int 6))) (eC (.int 0))) (xU (xK (uO (eV 0) (eC (.int 6))) (eC (.int 61)))) xH)
   (gR))
def zVE:Sf :=
   (rX)
def oF:List D->Option D:=fnF 1 zVE
theorem zWf (T:Txt w K mg):OkT P w base T.q40 1 1 oF :=
 wU (k:=0) T.q40.F zVU fun cdv A outer s H E hr =>
   (zV rX rfl (yK (yR uT (xT (zT 0) zX) zX) (zS (yV (xT (vV (zT 0) zX) zX))) yW)
     (zS (yV (xT (vV (zT 0) zX) zX))))
theorem wS:FnScope ["_law_cell","_law_dims","_law_level_here","_law_base_here","_law_k","_law_pick","_law_big"] ["_law_cell","_law_dims","_law_level_here"] (zU lK):=y0 (by decide +kernel)
def uF:Sf:=(yY 3 (oK (eV 3) (eIx (eL (xP (zY (eC (.int 4)) (zY (eC (.int 8)) zR)))) (wO (eV 1) (eC (.int 2))))))
def zZc:Sf:=(xU (eV 6))
def pA:Sf:=(zO (sIf (eB2 gEq (eV 5) (eC (.int 1))) (xU (wO (eV 3) (eC (.int 1)))) xH)
   (zZc))
def sR:Sf:=(zO (sIf (eB2 gEq (eV 5) (eC (.int 0))) (xU (eC (.int 0))) xH)
   (pA))
def pI:Sf:=(zO (sIf (eB2 gGe (eV 0) (aJ (eC (.int 10)) (eC (.int 12)))) (zO (yY 5 (xK (xK (zU7 (eV 0) (eC (.int 30))) (eC (.int 1024))) (eC (.int 5))))
   (yY 6 (xK (zU7 (eV 0) (eC (.int 40))) (eV 3)))) xH)
   (sR))
def pM:Sf:=(zO (yY 6 (xK (oK (eV 0) (aJ (eC (.int 7046029254386353131)) (eC (.int 3)))) (eV 3)))
   (pI))
def pL:Sf:=(zO (yY 5 (xK (eV 0) (eC (.int 5))))
   (pM))
def qA:Sf:=(zO (tU (iR (eV 2)) (gN 4) (uF))
   (pL))
def sX:Sf:=(zO (yY 3 (eC (.int 1)))
   (qA))
def zWE:Sf :=
   (sX)
def qH:List D->Option D:=fnF 7 zWE
theorem gG (T:Txt w K mg):OkT P w base T.q41 1 3 qH :=
 wU (k:=0) T.q41.F wS fun cdv A outer s H E hr =>
   (zV sX rfl (zQ 3 wS.nd zX)
     (zV qA rfl (uB Ey rfl (zYR rfl T.z_range (zT 2)) (xV 4 wS.nd) (zS (zQ 3 wS.nd (iP (zT 3) (xD (vH (yC (zZ zX (zZ zX zW)))) (uN (zT 1) zX))))))
     (zV pL rfl (zQ 5 wS.nd (xT (zT 0) zX))
     (zV pM rfl (zQ 6 wS.nd (xT (iP (zT 0) (zZC zX zX)) (zT 3)))
     (zV pI rfl (yK (yR zSz (zT 0) (zZC zX zX)) (xN (zQ 5 wS.nd (xT (xT (zWv (zT 0) zX) zX) zX))
     (zS (zQ 6 wS.nd (xT (zWv (zT 0) zX) (zT 3))))) yW)
     (zV sR rfl (yK (yR uT (zT 5) zX) (zS (yV zX)) yW)
     (zV pA rfl (yK (yR uT (zT 5) zX) (zS (yV (uN (zT 3) zX))) yW)
     (zS (yV (zT 6))))))))))
theorem xA:FnScope ["_law_cell","_law_dims","_law_level_here","_law_number_here","_law_base_here","_law_most","_law_asked","_law_size","_law_k"] ["_law_cell","_law_dims","_law_level_here"] (zU kQ):=y0 (by decide +kernel)
def sY:Sf:=(yY 7 (oK (eV 7) (eV 4)))
def nP:Sf:=(xU (zTv (eC (.int 0)) (zWR (wO (eV 5) (eC (.int 1))) (eV 6))))
def uH:Sf:=(zO (sIf (eB2 gEq (xK (eV 3) (eC (.int 2))) (eC (.int 0))) (zO (yY 7 (eC (.int 1)))
   (zO (tU (iR (xK (eF (eV 3) (eC (.int 2))) (eV 2))) (gN 8) (sY))
   (yY 6 (wO (oK (eF (eV 6) (eV 7)) (eV 7)) (eC (.int 1)))))) xH)
   (nP))
def nE:Sf:=(zO (yY 6 (zL 3 qH (zY (eV 0) (zY (eV 1) (zY (eV 2) zR)))))
   (uH))
def nV:Sf:=(zO (yY 5 (zL 3 qH (zY (eC (.int 1)) (zY (eV 1) (zY (eV 2) zR)))))
   (nE))
def nA:Sf:=(zO (yY 4 (eIx (eL (xP (zY (eC (.int 4)) (zY (eC (.int 8)) zR)))) (wO (eV 1) (eC (.int 2)))))
   (nV))
def nC:Sf:=(zO (sIf (eB2 gGe (eV 0) (aJ (eC (.int 10)) (eC (.int 12)))) (yY 3 (eF (xK (zU7 (eV 0) (eC (.int 30))) (eC (.int 1024))) (eC (.int 5)))) xH)
   (nA))
def rN:Sf:=(zO (yY 3 (zL 2 qE (zY (eV 0) (zY (eC (.int 16807)) zR))))
   (nC))
def zVu:Sf :=
   (rN)
def oB:List D->Option D:=fnF 9 zVu
theorem zWD (T:Txt w K mg):OkT P w base T.q42 2 3 oB :=
 wU (k:=1) T.q42.F xA fun cdv A outer s H E hr =>
   (zV rN rfl (zQ 3 xA.nd (xQ (fU T) hr (zZ (zT 0) (zZ zX zW))))
     (zV nC rfl (yK (yR zSz (zT 0) (zZC zX zX)) (zS (zQ 3 xA.nd (zWQ (xT (zWv (zT 0) zX) zX) zX))) yW)
     (zV nA rfl (zQ 4 xA.nd (xD (vH (yC (zZ zX (zZ zX zW)))) (uN (zT 1) zX)))
     (zV nV rfl (zQ 5 xA.nd (xQ (gG T) hr (zZ zX (zZ (zT 1) (zZ (zT 2) zW)))))
     (zV nE rfl (zQ 6 xA.nd (xQ (gG T) hr (zZ (zT 0) (zZ (zT 1) (zZ (zT 2) zW)))))
     (zV uH rfl (yK (yR uT (xT (zT 3) zX) zX) (xN (zQ 7 xA.nd zX)
     (xN (uB Ey rfl (zYR rfl T.z_range (xT (zWQ (zT 3) zX) (zT 2))) (xV 8 xA.nd) (zS (zQ 7 xA.nd (iP (zT 7) (zT 4)))))
     (zS (zQ 6 xA.nd (uN (iP (zWQ (zT 6) (zT 7)) (zT 7)) zX))))) yW)
     (zS (yV (zOO rfl rfl T.z_max zX (zPX rfl rfl T.z_min (uN (zT 5) zX) (zT 6)))))))))))
theorem vM:FnScope ["_law_script","_law_dims","_law_parts","_law_refusal","_law_curve","e","_law_spent","_law_cell","_law_level_here","_law_asked"] ["_law_script"] (zU zPd):=y0 (by decide +kernel)
def zYB:Sf:=(sIf (eB2 gGt (eV 8) (eC (.int 0))) (zO (yY 9 (zL 3 oB (zY (eV 7) (zY (eV 1) (zY (eV 8) zR)))))
   (sIf (rF (tB1 (zL 4 uU (zY (eV 4) (zY (eV 1) (zY (eV 8) (zY (eV 9) zR))))))) (xU (eC (.bl false))) xH)) xH)
def zZx:Sf:=(zO (sIf (eB2 uR (eV 3) (eC .non)) (yY 8 (zWR (eV 8) (wO (wQ xB "level" (eV 3)) (eC (.int 1))))) xH)
   (zYB))
def fB:Sf:=(zO (yY 6 (tG (eV 6) (eV 8)))
   (zZx))
def zZ0:Sf:=(zO (sIf (eB2 gGt (eV 6) (eC (.int 900))) (yY 8 (tG (eC (.int 1)) (xK (eV 8) (eC (.int 6))))) xH)
   (fB))
def zYA:Sf:=(zO (yY 8 (zTv (eC (.int 1)) (zL 1 oF (zY (eV 8) zR))))
   (zZ0))
def zZ7:Sf:=(zO (sIf (eB2 gGe (eV 7) (aJ (eC (.int 10)) (eC (.int 12)))) (yY 8 (xK (eV 7) (eC (.int 1073741824)))) xH)
   (zYA))
def jU:Sf:=(zO (yY 8 (zL 2 qE (zY (eV 7) (zY (eC (.int 48271)) zR))))
   (zZ7))
def zS1:Sf:=(xU (eC (.bl true)))
def zWT:Sf:=(zO (tU (aG (fV (eV 0) (mQ (eC (.int 2))) (mQ (eC (.int 62)))) (xP (zY (eC (.int 19)) zR))) (gN 7) (jU))
   (zS1))
def zZO:Sf:=(zO (yY 6 (eC (.int 0)))
   (zWT))
def aB:Sf:=(zO (sIf (eB2 uR (eV 3) (eC .non)) (zO (yY 4 (zL 1 lN (zY (zL 3 uA (zY (eV 1) (zY (eC (.bl false)) (zY (eV 2) zR)))) zR)))
   (sIf (rF (tB1 (zL 3 jQ (zY (eV 4) (zY (eV 1) (zY (eV 3) zR)))))) (xU (eC (.bl false))) xH)) xH)
   (zZO))
def zWp:Sf:=(zO (zVH ["Unmet"] (zL 1 gC (zY (zL 3 uA (zY (eV 1) (zY (eC (.bl true)) (zY (eV 2) zR)))) zR)) (yY 4 (zL 1 lN (zY (zL 3 uA (zY (eV 1) (zY (eC (.bl true)) (zY (eV 2) zR)))) zR))) 5 (yY 3 (eV 5)))
   (aB))
def zWu:Sf:=(zO (yY 4 (eC .non))
   (zWp))
def zXd:Sf:=(zO (yY 3 (eC .non))
   (zWu))
def zWl:Sf:=(zO (yY 2 (eL (wD 2 kH (zY (eV 1) (zY (zL 2 rO (zY (eV 0) (zY (eC (.int 1)) zR))) zR)))))
   (zXd))
def zZZ:Sf:=(zO (yY 1 (tG (eC (.int 2)) (xK (zL 3 wE (zY (zL 2 rO (zY (eV 0) (zY (eC (.int 0)) zR))) (zY (eC (.int 0)) (zY (eC (.int 69621)) zR)))) (eC (.int 2)))))
   (zWl))
def zK4:Sf :=
   (zZZ)
def zXA:List D->Option D:=fnF 10 zK4
theorem zLS (T:Txt w K mg):OkT P w base T.q43 7 1 zXA :=
 wU (k:=6) T.q43.F vM fun cdv A outer s H E hr =>
   (zV zZZ rfl (zQ 1 vM.nd (uP zX (xT (xQ (pQ T) hr (zZ (xQ (jV T) hr (zZ (zT 0) (zZ zX zW))) (zZ zX (zZ zX zW)))) zX)))
     (zV zWl rfl (zQ 2 vM.nd (vH (zYG (zWn T) hr (zZ (zT 1) (zZ (xQ (jV T) hr (zZ (zT 0) (zZ zX zW))) zW)))))
     (zV zXd rfl (zQ 3 vM.nd vJ)
     (zV zWu rfl (zQ 4 vM.nd vJ)
     (zV zWp rfl (zOc (i:=5) (zRY T) (zNS (zOI zKn (jF T) (hr.mono (by omega)) T.q34.m T.q34.F.kp T.q34.b rfl (zZ (xQ (kO T) hr (zZ (zT 1) (zZ pG (zZ (zT 2) zW)))) zW))) (zQ 4 vM.nd (zYC (jF T) (hr.mono (by omega)) T.q34.m T.q34.F.kp T.q34.b rfl (zZ (xQ (kO T) hr (zZ (zT 1) (zZ pG (zZ (zT 2) zW)))) zW))) rfl rfl rfl T.mc_Unmet vM.nd (fun _=>(zS (zQ 3 vM.nd (zT 5)))))
     (zV aB rfl (yK (yR kJ (zT 3) vJ) (xN (zQ 4 vM.nd (zYC (jF T) (hr.mono (by omega)) T.q34.m T.q34.F.kp T.q34.b rfl (zZ (xQ (kO T) hr (zZ (zT 1) (zZ pG (zZ (zT 2) zW)))) zW)))
     (zS (yK (dZ (qP (xQ (zWb T) hr (zZ (zT 4) (zZ (zT 1) (zZ (zT 3) zW)))))) (zS (yV pG)) yW))) yW)
     (zV zZO rfl (zQ 6 vM.nd zX)
     (zV zWT rfl (uB Ey rfl (zMO (zQT (zVi (zT 0) (zXF zX) (zXF zX)) (yC (zZ zX zW)))) (xV 7 vM.nd) (zV jU rfl (zQ 8 vM.nd (xQ (fU T) hr (zZ (zT 7) (zZ zX zW))))
     (zV zZ7 rfl (yK (yR zSz (zT 7) (zZC zX zX)) (zS (zQ 8 vM.nd (xT (zT 7) zX))) yW)
     (zV zYA rfl (zQ 8 vM.nd (zOO rfl rfl T.z_max zX (xQ (zWf T) hr (zZ (zT 8) zW))))
     (zV zZ0 rfl (yK (yR zVG (zT 6) zX) (zS (zQ 8 vM.nd (uP zX (xT (zT 8) zX)))) yW)
     (zV fB rfl (zQ 6 vM.nd (uP (zT 6) (zT 8)))
     (zV zZx rfl (yK (yR kJ (zT 3) vJ) (zS (zQ 8 vM.nd (zPX rfl rfl T.z_min (zT 8) (uN (oE (dG T) (zT 3)) zX)))) yW)
     (zS (yK (yR zVG (zT 8) zX) (xN (zQ 9 vM.nd (xQ (zWD T) hr (zZ (zT 7) (zZ (zT 1) (zZ (zT 8) zW)))))
     (zS (yK (dZ (qP (xQ (zYV T) hr (zZ (zT 4) (zZ (zT 1) (zZ (zT 8) (zZ (zT 9) zW))))))) (zS (yV pG)) yW))) yW)))))))))
     (zS (yV pG))))))))))
end
open PySem.W
theorem zLw {l:OpenLaw}{w:World}{K:Frag}{h:Heap}{mg:Str->Option Value}{fa:Addr}
   {cC0 cF0:Addr} {codi0 cani0:Option Addr} {csl0:Array (Option Value)} {coc0 ckV0 cdc0 cpm0 ccd0 cct0:Value}
   {cC1 cF1:Addr} {codi1 cani1:Option Addr} {csl1:Array (Option Value)} {coc1 ckV1 cdc1 cpm1 ccd1 cct1:Value}
   {yF0:Addr} {yodi0 yani0:Option Addr} {ysl0:Array (Option Value)} {yoc0 ykV0 ydc0 ypm0 ycd0 yct0:Value}
   {xC0:Addr}
   {t_BITS:Tok}
   {t_FLIPS:Tok}
   {t_AXES:Tok}
   {t_LETTERS:Tok}
   {t_LONGEST_WORD:Tok}
   {da_PROMISES:Addr} {dn_PROMISES:Nat} {dt_PROMISES_0  dt_PROMISES_1  : Tok}
   {da_DIMS:Addr} {dn_DIMS:Nat} {dt_DIMS_0 dv_DIMS_0 dt_DIMS_1 dv_DIMS_1:Tok} (X:K.In h) (G:h.Ns mainGlobals mg) (hfa:mg "law"=some (.ref fa))
   (g0:wL K "_law_mix" cK)
   (g1:wL K "_law_cut" cH)
   (g2:wL K "_law_base" gA)
   (g3:wL K "_law_turn" lI)
   (g4:wL K "_law_after" oR)
   (g5:wL K "_law_undone" lF)
   (g6:wL K "_law_turned" qL)
   (g7:wL K "_law_joined" qS)
   (g8:wL K "_law_altered" mZ)
   (g9:wL K "_law_fourth" mC)
   (g10:wL K "_law_corners" uL)
   (g11:wL K "_law_loose" kA)
   (g12:wL K "_law_drawn" jX)
   (g13:wL K "_law_cell_at" nN)
   (g14:wL K "is_made_of" qJ)
   (g15:wL K "is_word" dA)
   (g16:wL K "read_head" kI)
   (g17:wL K "words_at" fQ)
   (g18:wL K "corner_of" oN)
   (g19:wL K "turn_of" mO)
   (g20:wL K "read_part" kG)
   (g21:wL K "full" zTM)
   (g22:wL K "curve_from" lH)
   (g23:wL K "still" zZT)
   (g24:wL K "first_state" mY)
   (g25:wL K "walked" zZy)
   (g26:wL K "after" zZX)
   (g27:wL K "turned" eN)
   (g28:wL K "part_at" cI)
   (g29:wL K "next_to" iI)
   (g30:wL K "deeper" dL)
   (g31:wL K "unmet_at" fL)
   (g32:wL K "meeting_of" tO)
   (g33:wL K "fitted" zY2)
   (g34:wL K "curve_of" fO)
   (g35:wL K "_law_text" pC)
   (g36:wL K "digits_of" kK)
   (g37:wL K "place_at" gF)
   (g38:wL K "_law_met" iH)
   (g39:wL K "_law_shown" jC)
   (g40:wL K "_law_level" kD)
   (g41:wL K "_law_number" lK)
   (g42:wL K "_law_ahead" kQ)
   (g43:wL K "law" zPd)
   (ca0:nsIn K mainGlobals "Part"=some (some (.ref cC0))) (ci0:findIn K (.ref cC0) "__init__"=some (some (.ref cF0))) (cn0:isFn K (.ref cF0)=true) (cl0:K.lookup cF0=some ⟨coc0,codi0,.func (fnOf "__init__" "Part.__init__" (zB iX) (zI iX) (zU iX) .none ckV0 cdc0 cpm0 cani0 ccd0 cct0),csl0⟩) (cc0:codeIn K ccd0 "Part.__init__"=true) (ck0:keepIn K (.ref cF0)=true)
   (cpg0:plainGet K cC0 Str.empty=true) (chd0:hasDictIn K cC0=true) (cpo0:plainOver K cC0=true) (csa0:findIn K (.ref cC0) "__setattr__"=some (some (.builtin "object.__setattr__"))) (cmk0:makesIn K cC0=true) (ckc0:keepIn K (.ref cC0)=true)
   (cf0_back:findIn K (.ref cC0) "back"=some none)
   (cf0_corner:findIn K (.ref cC0) "corner"=some none)
   (cf0_turn:findIn K (.ref cC0) "turn"=some none)
   (ca1:nsIn K mainGlobals "Curve"=some (some (.ref cC1))) (ci1:findIn K (.ref cC1) "__init__"=some (some (.ref cF1))) (cn1:isFn K (.ref cF1)=true) (cl1:K.lookup cF1=some ⟨coc1,codi1,.func (fnOf "__init__" "Curve.__init__" (zB mU) (zI mU) (zU mU) .none ckV1 cdc1 cpm1 cani1 ccd1 cct1),csl1⟩) (cc1:codeIn K ccd1 "Curve.__init__"=true) (ck1:keepIn K (.ref cF1)=true)
   (cpg1:plainGet K cC1 Str.empty=true) (chd1:hasDictIn K cC1=true) (cpo1:plainOver K cC1=true) (csa1:findIn K (.ref cC1) "__setattr__"=some (some (.builtin "object.__setattr__"))) (cmk1:makesIn K cC1=true) (ckc1:keepIn K (.ref cC1)=true)
   (cf1_dims:findIn K (.ref cC1) "dims"=some none)
   (cf1_joined:findIn K (.ref cC1) "joined"=some none)
   (cf1_name:findIn K (.ref cC1) "name"=some none)
   (cf1_parts:findIn K (.ref cC1) "parts"=some none)
   (xa0:nsIn K mainGlobals "Unmet"=some (some (.ref xC0)))
   (xk0:zTJ K xC0=true)
   (xe0:keepIn K (.ref xC0)=true)
   (xo0:zTP K xC0=true)
   (xi0:findIn K (.ref xC0) "__init__"=some (some (.ref yF0)))
   (xn0:isFn K (.ref yF0)=true)
   (xt0:findIn K (.ref xC0) "__setattr__"=some (some (.builtin "object.__setattr__")))
   (xf0_first:findIn K (.ref xC0) "first"=some none)
   (xf0_second:findIn K (.ref xC0) "second"=some none)
   (xf0_level:findIn K (.ref xC0) "level"=some none)
   (yl0:K.lookup yF0=some ⟨yoc0,yodi0,.func (fnOf "__init__" "Unmet.__init__" (zB mW) (zI mW) (zU mW) .none ykV0 ydc0 ypm0 yani0 ycd0 yct0),ysl0⟩) (yc0:codeIn K ycd0 "Unmet.__init__"=true) (yk0:keepIn K (.ref yF0)=true)
   (em_Unmet_Unmet:exmOne K (.ref xC0) (.ref xC0)=some true)
   (g_BITS:nsIn K mainGlobals "BITS"=some (some (.str "01" t_BITS)))
   (g_FLIPS:nsIn K mainGlobals "FLIPS"=some (some (.str "+-" t_FLIPS)))
   (g_AXES:nsIn K mainGlobals "AXES"=some (some (.str "xyz" t_AXES)))
   (g_LETTERS:nsIn K mainGlobals "LETTERS"=some (some (.str "abcdefghijklmnopqrstuvwxyz" t_LETTERS)))
   (g_LONGEST_WORD:nsIn K mainGlobals "LONGEST_WORD"=some (some (.int 12 t_LONGEST_WORD)))
   (g_PROMISES:nsIn K mainGlobals "PROMISES"=some (some (.ref da_PROMISES))) (dl_PROMISES:K.lookup da_PROMISES=some ⟨.type "dict",none,.dict #[⟨PyData.keyHash w.params "joined",.str "joined" dt_PROMISES_0,.bool true⟩,⟨PyData.keyHash w.params "loose",.str "loose" dt_PROMISES_1,.bool false⟩] dn_PROMISES,#[]⟩) (ds_PROMISES:(da_PROMISES==sysModules)=false)
   (g_DIMS:nsIn K mainGlobals "DIMS"=some (some (.ref da_DIMS))) (dl_DIMS:K.lookup da_DIMS=some ⟨.type "dict",none,.dict #[⟨PyData.keyHash w.params "2",.str "2" dt_DIMS_0,.int 2 dv_DIMS_0⟩,⟨PyData.keyHash w.params "3",.str "3" dt_DIMS_1,.int 3 dv_DIMS_1⟩] dn_DIMS,#[]⟩) (ds_DIMS:(da_DIMS==sysModules)=false)
   (z_abs:nsIn K mainGlobals "abs"=some none)
   (z_all:nsIn K mainGlobals "all"=some none)
   (z_int:nsIn K mainGlobals "int"=some none)
   (z_len:nsIn K mainGlobals "len"=some none)
   (z_list:nsIn K mainGlobals "list"=some none)
   (z_max:nsIn K mainGlobals "max"=some none)
   (z_min:nsIn K mainGlobals "min"=some none)
   (z_range:nsIn K mainGlobals "range"=some none)
   (z_reversed:nsIn K mainGlobals "reversed"=some none)
   (z_sorted:nsIn K mainGlobals "sorted"=some none)
   (z_str:nsIn K mainGlobals "str"=some none)
   (z_sum:nsIn K mainGlobals "sum"=some none)
   (z_tuple:nsIn K mainGlobals "tuple"=some none)
   (z_zip:nsIn K mainGlobals "zip"=some none) :
   ∃fd:FuncData,(∀(s:Shared) (v:Value),BindsTo s fd ⟨[v],[]⟩ [("_law_script",v)])/\∀base:Heap,K.In base->base.Ns mainGlobals mg->FnOk l.prog w K mg base CX0 7 fa fd ["_law_script"] (spF K 1 zXA):=by
 have cFF0:=zZh (st:=iX) cl0 cc0 ck0
 have cb0:=cFF0.binds (ps:=["self","corner","turn","back"]) fun _ _ _ _ _ _ us hl=>match us,hl with | [_,_,_,_],_=>rfl
 have cFF1:=zZh (st:=mU) cl1 cc1 ck1
 have cb1:=cFF1.binds (ps:=["self","name","dims","joined","parts"]) fun _ _ _ _ _ _ us hl=>match us,hl with | [_,_,_,_,_],_=>rfl
 have yFF0:=zZh (st:=mW) yl0 yc0 yk0
 have yb0:=yFF0.binds (ps:=["self","first","second","level"]) fun _ _ _ _ _ _ us hl=>match us,hl with | [_,_,_,_],_=>rfl
 exact zM4 _ (bd1 fun _ _ _ _ _ _ _=>rfl) hfa fun base=>zLS ({ q0:=wG X G g0 (bd2 fun _ _ _ _ _ _ _ _=>rfl),q1:=wG X G g1 (bd3 fun _ _ _ _ _ _ _ _ _=>rfl),q2:=wG X G g2 (bd1 fun _ _ _ _ _ _ _=>rfl),q3:=wG X G g3 (bd2 fun _ _ _ _ _ _ _ _=>rfl),q4:=wG X G g4 (bd2 fun _ _ _ _ _ _ _ _=>rfl),q5:=wG X G g5 (bd1 fun _ _ _ _ _ _ _=>rfl),q6:=wG X G g6 (bd2 fun _ _ _ _ _ _ _ _=>rfl),q7:=wG X G g7 (bd2 fun _ _ _ _ _ _ _ _=>rfl),q8:=wG X G g8 (bd2 fun _ _ _ _ _ _ _ _=>rfl),q9:=wG X G g9 (bd1 fun _ _ _ _ _ _ _=>rfl),q10:=wG X G g10 (bd1 fun _ _ _ _ _ _ _=>rfl),q11:=wG X G g11 (bd2 fun _ _ _ _ _ _ _ _=>rfl),q12:=wG X G g12 (bd2 fun _ _ _ _ _ _ _ _=>rfl),q13:=wG X G g13 (bd2 fun _ _ _ _ _ _ _ _=>rfl),q14:=wG X G g14 (bd3 fun _ _ _ _ _ _ _ _ _=>rfl),q15:=wG X G g15 (bd1 fun _ _ _ _ _ _ _=>rfl),q16:=wG X G g16 (bd1 fun _ _ _ _ _ _ _=>rfl),q17:=wG X G g17 (bd2 fun _ _ _ _ _ _ _ _=>rfl),q18:=wG X G g18 (bd2 fun _ _ _ _ _ _ _ _=>rfl),q19:=wG X G g19 (bd2 fun _ _ _ _ _ _ _ _=>rfl),q20:=wG X G g20 (bd3 fun _ _ _ _ _ _ _ _ _=>rfl),q21:=wG X G g21 (bd2 fun _ _ _ _ _ _ _ _=>rfl),q22:=wG X G g22 (bd1 fun _ _ _ _ _ _ _=>rfl),q23:=wG X G g23 (bd1 fun _ _ _ _ _ _ _=>rfl),q24:=wG X G g24 (bd1 fun _ _ _ _ _ _ _=>rfl),q25:=wG X G g25 (bd3 fun _ _ _ _ _ _ _ _ _=>rfl),q26:=wG X G g26 (bd2 fun _ _ _ _ _ _ _ _=>rfl),q27:=wG X G g27 (bd2 fun _ _ _ _ _ _ _ _=>rfl),q28:=wG X G g28 (bd3 fun _ _ _ _ _ _ _ _ _=>rfl),q29:=wG X G g29 (bd2 fun _ _ _ _ _ _ _ _=>rfl),q30:=wG X G g30 (bd2 fun _ _ _ _ _ _ _ _=>rfl),q31:=wG X G g31 (bd2 fun _ _ _ _ _ _ _ _=>rfl),q32:=wG X G g32 (bd1 fun _ _ _ _ _ _ _=>rfl),q33:=wG X G g33 (bd1 fun _ _ _ _ _ _ _=>rfl),q34:=wG X G g34 (bd1 fun _ _ _ _ _ _ _=>rfl),q35:=wG X G g35 (bd3 fun _ _ _ _ _ _ _ _ _=>rfl),q36:=wG X G g36 (bd3 fun _ _ _ _ _ _ _ _ _=>rfl),q37:=wG X G g37 (bd3 fun _ _ _ _ _ _ _ _ _=>rfl),q38:=wG X G g38 (bd4 fun _ _ _ _ _ _ _ _ _ _=>rfl),q39:=wG X G g39 (bd3 fun _ _ _ _ _ _ _ _ _=>rfl),q40:=wG X G g40 (bd1 fun _ _ _ _ _ _ _=>rfl),q41:=wG X G g41 (bd3 fun _ _ _ _ _ _ _ _ _=>rfl),q42:=wG X G g42 (bd3 fun _ _ _ _ _ _ _ _ _=>rfl),q43:=wG X G g43 (bd1 fun _ _ _ _ _ _ _=>rfl),C_Part:=_,fi_Part:=_,fdi_Part:=_,ca_Part:=ca0,cl_Part:=⟨cpg0,chd0,cpo0,csa0⟩,mc_Part:=mg_of X G ca0,Fi_Part:=cFF0,bi_Part:=cb0,mk_Part:=⟨cmk0,ci0,cn0,ckc0⟩,n_Part_back:=cf0_back,n_Part_corner:=cf0_corner,n_Part_turn:=cf0_turn,C_Curve:=_,fi_Curve:=_,fdi_Curve:=_,ca_Curve:=ca1,cl_Curve:=⟨cpg1,chd1,cpo1,csa1⟩,mc_Curve:=mg_of X G ca1,Fi_Curve:=cFF1,bi_Curve:=cb1,mk_Curve:=⟨cmk1,ci1,cn1,ckc1⟩,n_Curve_dims:=cf1_dims,n_Curve_joined:=cf1_joined,n_Curve_name:=cf1_name,n_Curve_parts:=cf1_parts,C_Unmet:=_,ca_Unmet:=xa0,mc_Unmet:=mg_of X G xa0,xk_Unmet:=zSO xk0,xs_Unmet:=⟨zSO xk0,zTm xo0,xt0⟩,xm_Unmet:=⟨zTm xo0,xi0,xn0,xe0⟩,n_Unmet_first:=xf0_first,n_Unmet_second:=xf0_second,n_Unmet_level:=xf0_level,fi_Unmet:=_,fdi_Unmet:=_,Fi_Unmet:=yFF0,bi_Unmet:=yb0,em_Unmet_Unmet:=em_Unmet_Unmet,t_BITS:=t_BITS,c_BITS:=mg_of X G g_BITS,t_FLIPS:=t_FLIPS,c_FLIPS:=mg_of X G g_FLIPS,t_AXES:=t_AXES,c_AXES:=mg_of X G g_AXES,t_LETTERS:=t_LETTERS,c_LETTERS:=mg_of X G g_LETTERS,t_LONGEST_WORD:=t_LONGEST_WORD,c_LONGEST_WORD:=mg_of X G g_LONGEST_WORD,da_PROMISES:=da_PROMISES,c_PROMISES:=mg_of X G g_PROMISES,dc_PROMISES:=zUZ [("joined",dt_PROMISES_0,.bool true),("loose",dt_PROMISES_1,.bool false)] dl_PROMISES ds_PROMISES,da_DIMS:=da_DIMS,c_DIMS:=mg_of X G g_DIMS,dc_DIMS:=zUZ [("2",dt_DIMS_0,.int 2 dv_DIMS_0),("3",dt_DIMS_1,.int 3 dv_DIMS_1)] dl_DIMS ds_DIMS,z_abs:=mg_none_of X G z_abs,z_all:=mg_none_of X G z_all,z_int:=mg_none_of X G z_int,z_len:=mg_none_of X G z_len,z_list:=mg_none_of X G z_list,z_max:=mg_none_of X G z_max,z_min:=mg_none_of X G z_min,z_range:=mg_none_of X G z_range,z_reversed:=mg_none_of X G z_reversed,z_sorted:=mg_none_of X G z_sorted,z_str:=mg_none_of X G z_str,z_sum:=mg_none_of X G z_sum,z_tuple:=mg_none_of X G z_tuple,z_zip:=mg_none_of X G z_zip }:Txt w K mg)
theorem zL7 {K:Frag}{H:Hp}{a:Addr}{ns:List Int}(hS:SqL K H a (ns.map V.int))(h:zXA [.lst (ns.map .int)]=some (.bl true)):spF K 1 zXA [.ref a] H (fun v _=>v = .bl true) fun _ _ _=>False:=by
 have rs:∀ns:List Int,Reps K H (ns.map .int) (ns.map V.int):=fun ns=>by
   induction ns with
   | nil=>exact yQ.mpr rfl
   | cons n r ih=>exact yZ.mpr ⟨_,_,rfl,zH.mpr rfl,ih⟩
 exact⟨H,[.lst (ns.map .int)],.bl true,Same.refl _,yZ.mpr ⟨_,_,rfl,xG.mpr ⟨a,_,rfl,hS,rs ns⟩,yQ.mpr rfl⟩,rfl,h,fun v H' G' _ r=>wM.mp r⟩
end My
end
namespace My
open PySem L2
theorem zMX:tX 0 2=[.int 0,.int 1]:=rfl
theorem zKO:tX 0 3=[.int 0,.int 1,.int 2]:=rfl
theorem bit (x:Int):x % 2=0∨x % 2=1:=by omega
def zRS (a b c:Int):Prop:=(a=0/\b=1/\c=2)∨(a=0/\b=2/\c=1)∨(a=1/\b=0/\c=2)∨(a=1/\b=2/\c=0)∨(a=2/\b=0/\c=1)∨(a=2/\b=1/\c=0)
abbrev Tn:=List (Int×Int)
def kW (p:Int×Int):D:=.tup [.int p.1,.int p.2]
def zC (t:Tn):D:=.tup (t.map kW)
def yS (c:List Int):D:=.tup (c.map .int)
def zG (t:Tn)(c:List Int):List Int:=t.map fun p=>Builtin.bitXor (c.getD p.1.toNat 0) p.2
def yM (t u:Tn):Tn:=t.map fun p=>((u.getD p.1.toNat (0,0)).1,Builtin.bitXor (u.getD p.1.toNat (0,0)).2 p.2)
theorem gE {elt:Ef}{h:Int×Int->D}{rest:List B}:∀(t:Tn) (x0 x1:B) (acc:List D),(∀p∈t,elt (.fz (.int p.1) :: .fz (.int p.2)::rest)=some (h p)) ->
   mT (gT (zN (gN 0) (zN (gN 1) xS))) tOK elt (t.map kW) (x0::x1::rest) acc=some (acc++t.map h)
 | [],_,_,acc,_=>by simp[mT]
 | p::r,x0,x1,acc,hh=>by
   rw[Qj]
   unfold mT
   have e1:gT (zN (gN 0) (zN (gN 1) xS)) (kW p) (x0::x1::rest)=some (.fz (.int p.1) :: .fz (.int p.2)::rest):=rfl
   rw[e1,Qr]
   have e2:tOK (.fz (.int p.1) :: .fz (.int p.2)::rest)=some true:=rfl
   rw[e2,Qr,Qx rfl,hh p Qh,Qr,gE r _ _ _ fun q hq=>hh q (Qd _ hq)]
   simp
theorem dF {α:Type}(xs:List α)(i:Int)(d:α)(h0:0<=i)(h1:i < xs.length):atI xs i=some (xs.getD i.toNat d):=by
 unfold atI ixN
 rw[Qx h0,Qx h1]
 have:i.toNat < xs.length:=by omega
 simp[List.getD,this]
def zLD (t:Tn)(n:Nat):Prop:=∀p∈t,0<=p.1/\p.1 < n
theorem zSr {t:List D}(h:t.length<=1000):okL t=some t:=by
 unfold okL
 rw[Qx (Wi h (by decide))]
theorem dR {α β:Type}(f:α->β)(xs:List α)(i:Int):atI (xs.map f) i=(atI xs i).map f:=by
 unfold atI
 rw[Qg]
 cases ixN xs.length i with
 | none=>rfl
 | some j=>simp
theorem cV (t:Tn)(c:List Int)(h:zLD t c.length)(hl:t.length<=1000):pO [zC t,yS c]=some (yS (zG t c)):=by
 have e1:sN 2 [zC t,yS c]=[.fz (zC t),.fz (yS c)]:=rfl
 have e2:=gE (elt:=zWX (eIx (eV 2) (eV 0)) (eV 1)) (h:=fun p=>.int (Builtin.bitXor (c.getD p.1.toNat 0) p.2)) (rest:=[.fz (yS c)]) t .no .no [] fun p hp=>by
   obtain⟨h0,h1⟩:=h p hp
   simp[eI,eIx,eV,rC,yS,atD,dR,dF c p.1 0 h0 h1]
 have e3:okL (t.map kW)=some (t.map kW):=zSr (by rw[Qg];exact hl)
 have e4:upB 2 [1] [.fz (zC t),.fz (yS c)]=[.no,.no,.fz (yS c)]:=rfl
 unfold pO fnF
 rw[e1]
 have e5:yA (iT (eV 0)) 2 [1] (gT (zN (gN 0) (zN (gN 1) xS))) tOK (zWX (eIx (eV 2) (eV 0)) (eV 1)) [.fz (zC t),.fz (yS c)]=some (t.map fun p=>D.int (Builtin.bitXor (c.getD p.1.toNat 0) p.2)):=by
   unfold yA
   have e6:iT (eV 0) [.fz (zC t),.fz (yS c)]=some (t.map kW):=rfl
   rw[e6,Qr,e3,Qr,e4,e2]
   simp
 simp only[zUP,zY3,xU,vL,eL,e5,Wk,Qr,zUi,w8]
 simp only[yS,zG,Yu,Function.comp_def]
theorem zVo (t u:Tn)(h:zLD t u.length)(hl:t.length<=1000):mM [zC t,zC u]=some (zC (yM t u)):=by
 have e1:sN 2 [zC t,zC u]=[.fz (zC t),.fz (zC u)]:=rfl
 have e2:=gE (elt:=yX (zY (eIx (eIx (eV 2) (eV 0)) (eC (.int 0))) (zY (zWX (eIx (eIx (eV 2) (eV 0)) (eC (.int 1))) (eV 1)) zR))) (h:=fun p=>kW ((u.getD p.1.toNat (0,0)).1,Builtin.bitXor (u.getD p.1.toNat (0,0)).2 p.2)) (rest:=[.fz (zC u)]) t .no .no [] fun p hp=>by
   obtain⟨h0,h1⟩:=h p hp
   have a0:∀x y:D,atI [x,y] 0=some x:=fun _ _=>rfl
   have a1:∀x y:D,atI [x,y] 1=some y:=fun _ _=>rfl
   simp[eI,eIx,eV,eC,rC,zC,atD,dR,dF u p.1 (0,0) h0 h1,kW,yX,zY,zR,okL,lim,a0,a1]
 have e3:okL (t.map kW)=some (t.map kW):=zSr (by rw[Qg];exact hl)
 have e4:upB 2 [1] [.fz (zC t),.fz (zC u)]=[.no,.no,.fz (zC u)]:=rfl
 unfold mM fnF
 rw[e1]
 have e5:yA (iT (eV 0)) 2 [1] (gT (zN (gN 0) (zN (gN 1) xS))) tOK (yX (zY (eIx (eIx (eV 2) (eV 0)) (eC (.int 0))) (zY (zWX (eIx (eIx (eV 2) (eV 0)) (eC (.int 1))) (eV 1)) zR))) [.fz (zC t),.fz (zC u)]=some (t.map fun p=>kW ((u.getD p.1.toNat (0,0)).1,Builtin.bitXor (u.getD p.1.toNat (0,0)).2 p.2)):=by
   unfold yA
   have e6:iT (eV 0) [.fz (zC t),.fz (zC u)]=some (t.map kW):=rfl
   rw[e6,Qr,e3,Qr,e4,e2]
   simp
 simp only[zSt,zXt,xU,vL,eL,e5,Wk,Qr,zUi,w8]
 simp only[zC,yM,Yu,Function.comp_def]
def tV:List Int:=[0,1]
def vG:List Tn:=[((0:Int),(1:Int)),(1,0)].flatMap fun o=>tV.flatMap fun f=>tV.map fun g=>[(o.1,f),(o.2,g)]
def vF:List Tn:=[((0:Int),(1:Int),(2:Int)),(0,2,1),(1,0,2),(1,2,0),(2,0,1),(2,1,0)].flatMap fun o=>tV.flatMap fun f=>tV.flatMap fun g=>tV.map fun h=>[(o.1,f),(o.2.1,g),(o.2.2,h)]
theorem zLK {a b f g:Int}(h1:a=0/\b=1∨a=1/\b=0)(h2:f=0∨f=1)(h3:g=0∨g=1):[(a,f),(b,g)]∈vG:=by
 rcases h1 with⟨rfl,rfl⟩ | ⟨rfl,rfl⟩<;>rcases h2 with rfl | rfl<;>rcases h3 with rfl | rfl<;>decide
theorem zKL {a b c f g h:Int}(h1:zRS a b c)(h2:f=0∨f=1)(h3:g=0∨g=1)(h4:h=0∨h=1):[(a,f),(b,g),(c,h)]∈vF:=by
 rcases h1 with⟨rfl,rfl,rfl⟩ | ⟨rfl,rfl,rfl⟩ | ⟨rfl,rfl,rfl⟩ | ⟨rfl,rfl,rfl⟩ | ⟨rfl,rfl,rfl⟩ | ⟨rfl,rfl,rfl⟩<;>rcases h2 with rfl | rfl<;>rcases h3 with rfl | rfl<;>rcases h4 with rfl | rfl<;>decide
theorem zSL {t:Tn}(h:t∈vG):∃a b f g,(a=0/\b=1∨a=1/\b=0)/\(f=0∨f=1)/\(g=0∨g=1)/\t=[(a,f),(b,g)]:=by
 simp only[vG,tV,Yl,Wx,Qz,Et,Yp] at h
 obtain⟨o,ho,f,hf,g,hg,rfl⟩:=h
 refine⟨o.1,o.2,f,g,?_,hf,hg,rfl⟩
 rcases ho with rfl | rfl
 · exact .inl ⟨rfl,rfl⟩
 · exact .inr ⟨rfl,rfl⟩
theorem zSu {t:Tn}(h:t∈vF):∃a b c f g j,zRS a b c/\(f=0∨f=1)/\(g=0∨g=1)/\(j=0∨j=1)/\t=[(a,f),(b,g),(c,j)]:=by
 simp only[vF,tV,Yl,Wx,Qz,Et,Yp] at h
 obtain⟨o,ho,f,hf,g,hg,j,hj,rfl⟩:=h
 refine⟨o.1,o.2.1,o.2.2,f,g,j,?_,hf,hg,hj,rfl⟩
 unfold zRS
 rcases ho with rfl | rfl | rfl | rfl | rfl | rfl<;>simp
structure Tr (n:Nat)(t:Tn):Prop where
 len:t.length=n
 fits:zLD t n
 flip:∀p∈t,p.2=0∨p.2=1
theorem tr2 {t:Tn}(h:t∈vG):Tr 2 t:=by
 obtain⟨a,b,f,g,h1,h2,h3,rfl⟩:=zSL h
 refine⟨rfl,fun p hp=>?_,fun p hp=>?_⟩
 · simp only[Qz,Et,Yp] at hp
   rcases h1 with⟨rfl,rfl⟩ | ⟨rfl,rfl⟩<;>rcases hp with rfl | rfl<;>exact⟨by simp,by simp⟩
 · simp only[Qz,Et,Yp] at hp
   rcases hp with rfl | rfl
   · exact h2
   · exact h3
theorem tr3 {t:Tn}(h:t∈vF):Tr 3 t:=by
 obtain⟨a,b,c,f,g,j,h1,h2,h3,h4,rfl⟩:=zSu h
 refine⟨rfl,fun p hp=>?_,fun p hp=>?_⟩
 · simp only[Qz,Et,Yp] at hp
   unfold zRS at h1
   rcases h1 with⟨rfl,rfl,rfl⟩ | ⟨rfl,rfl,rfl⟩ | ⟨rfl,rfl,rfl⟩ | ⟨rfl,rfl,rfl⟩ | ⟨rfl,rfl,rfl⟩ | ⟨rfl,rfl,rfl⟩<;>rcases hp with rfl | rfl | rfl<;>exact⟨by simp,by simp⟩
 · simp only[Qz,Et,Yp] at hp
   rcases hp with rfl | rfl | rfl
   · exact h2
   · exact h3
   · exact h4
theorem zR8 {x y z:Int}(hx:x=0∨x=1)(hy:y=0∨y=1)(hz:z=0∨z=1):Builtin.bitXor x (Builtin.bitXor y z)=Builtin.bitXor (Builtin.bitXor x y) z:=by
 rcases hx with rfl | rfl<;>rcases hy with rfl | rfl<;>rcases hz with rfl | rfl<;>rfl
theorem zTj {α:Type}(l:List α)(i:Int)(d:α)(h0:0<=i)(h1:i < l.length):l.getD i.toNat d∈l:=by
 have:i.toNat < l.length:=by omega
 rw[Wq,Qp this]
 exact Yk this
theorem zQx {α β:Type}(f:α->β)(l:List α)(i:Int)(d:α)(e:β)(h0:0<=i)(h1:i < l.length):(l.map f).getD i.toNat e=f (l.getD i.toNat d):=by
 have:i.toNat < l.length:=by omega
 rw[Wq,Wq,Wu,Qp this]
 rfl
theorem zWc {n:Nat}{t u:Tn}{c:List Int}(ht:Tr n t)(hu:Tr n u)(hc:c.length=n)(bc:∀x∈c,x=0∨x=1):zG (yM t u) c=zG t (zG u c):=by
 unfold zG yM
 rw[Yu]
 refine Ti fun p hp=>?_
 obtain⟨h0,h1⟩:=ht.fits p hp
 have hul:p.1 < u.length:=by rw[hu.len];exact h1
 have hq:=zTj u p.1 (0,0) h0 hul
 obtain⟨q0,q1⟩:=hu.fits _ hq
 show Builtin.bitXor (c.getD (u.getD p.1.toNat (0,0)).1.toNat 0) (Builtin.bitXor (u.getD p.1.toNat (0,0)).2 p.2)=Builtin.bitXor ((u.map fun p=>Builtin.bitXor (c.getD p.1.toNat 0) p.2).getD p.1.toNat 0) p.2
 rw[zQx _ u p.1 (0,0) 0 h0 hul]
 exact zR8 (bc _ (zTj c _ 0 q0 (by rw[hc];exact q1))) (hu.flip _ hq) (ht.flip p hp)
def zPn (t:Tn):Bool:=match t with | [(a,f),(b,g)]=>(decide (a=0)&&decide (b=1)||decide (a=1)&&decide (b=0))&&(decide (f=0)||decide (f=1))&&(decide (g=0)||decide (g=1)) | _=>false
def zK9 (a b c:Int):Bool:=(decide (a=0)&&decide (b=1)&&decide (c=2))||(decide (a=0)&&decide (b=2)&&decide (c=1))||(decide (a=1)&&decide (b=0)&&decide (c=2))||(decide (a=1)&&decide (b=2)&&decide (c=0))||(decide (a=2)&&decide (b=0)&&decide (c=1))||(decide (a=2)&&decide (b=1)&&decide (c=0))
def zQg (t:Tn):Bool:=match t with | [(a,f),(b,g),(c,h)]=>zK9 a b c&&(decide (f=0)||decide (f=1))&&(decide (g=0)||decide (g=1))&&(decide (h=0)||decide (h=1)) | _=>false
theorem zU4 {t:Tn}(h:zPn t=true):t∈vG:=by
 unfold zPn at h
 split at h
 · simp only[Qn,Tj,Wo] at h
   exact zLK h.1.1 h.1.2 h.2
 · cases h
theorem zUR {t:Tn}(h:zQg t=true):t∈vF:=by
 unfold zQg zK9 at h
 split at h
 · simp only[Qn,Tj,Wo] at h
   obtain⟨⟨⟨h1,h2⟩,h3⟩,h4⟩:=h
   refine zKL ?_ h2 h3 h4
   unfold zRS
   rcases h1 with((((h1 | h1) | h1) | h1) | h1) | h1
   · exact .inl ⟨h1.1.1,h1.1.2,h1.2⟩
   · exact .inr (.inl ⟨h1.1.1,h1.1.2,h1.2⟩)
   · exact .inr (.inr (.inl ⟨h1.1.1,h1.1.2,h1.2⟩))
   · exact .inr (.inr (.inr (.inl ⟨h1.1.1,h1.1.2,h1.2⟩)))
   · exact .inr (.inr (.inr (.inr (.inl ⟨h1.1.1,h1.1.2,h1.2⟩))))
   · exact .inr (.inr (.inr (.inr (.inr ⟨h1.1.1,h1.1.2,h1.2⟩))))
 · cases h
theorem zUe {t u:Tn}(ht:t∈vG)(hu:u∈vG):yM t u∈vG:=by
 have key:(vG.all fun t=>vG.all fun u=>zPn (yM t u))=true:=by decide +kernel
 exact zU4 (Qv.mp (Qv.mp key t ht) u hu)
theorem zUp {t u:Tn}(ht:t∈vF)(hu:u∈vF):yM t u∈vF:=by
 have key:(vF.all fun t=>vF.all fun u=>zQg (yM t u))=true:=by decide +kernel
 exact zUR (Qv.mp (Qv.mp key t ht) u hu)
def zOf (k n:Nat):List Int:=(List.range n).map fun i=>(((k >>> i) % 2:Nat):Int)
def zD (n:Nat):List (List Int):=(List.range (2^n)).map fun k=>zOf k n
def yI (n:Nat):Tn:=(List.range n).map fun(i:Nat)=>((i:Int),(0:Int))
def wP (t:Tn):Tn:=(List.range t.length).map fun(i:Nat)=>match t.zipIdx.find? fun q=>q.1.1==(i:Int) with | some q=>((q.2:Int),q.1.2) | none=>(0,0)
def mX (n:Nat)(ok:Tn->Bool)(t:Tn):Bool:=ok (wP t)&&decide (yM (wP t) t=yI n)&&decide (yM t (wP t)=yI n)&&(zD n).all fun c=>decide (zG (wP t) (zG t c)=c)
theorem zU1 {t:Tn}(ht:t∈vG):mX 2 zPn t=true:=Qv.mp (show(vG.all (mX 2 zPn))=true by decide +kernel) t ht
theorem zTX {t:Tn}(ht:t∈vF):mX 3 zQg t=true:=Qv.mp (show(vF.all (mX 3 zQg))=true by decide +kernel) t ht
def zJ (n:Nat):List Tn:=if n=2 then vG else vF
section
variable {n:Nat} (hn:n=2∨n=3)
include hn
theorem trM {t:Tn}(h:t∈zJ n):Tr n t:=by
 rcases hn with rfl | rfl
 · exact tr2 h
 · exact tr3 h
theorem rG {t u:Tn}(h:t∈zJ n)(h':u∈zJ n):yM t u∈zJ n:=by
 rcases hn with rfl | rfl
 · exact zUe h h'
 · exact zUp h h'
theorem kM {t:Tn}(h:t∈zJ n):wP t∈zJ n/\∀c∈zD n,zG (wP t) (zG t c)=c:=by
 rcases hn with rfl | rfl
 · have q:=zU1 h
   unfold mX at q
   simp only[Qn,Wo,Qv] at q
   exact⟨zU4 q.1.1.1,q.2⟩
 · have q:=zTX h
   unfold mX at q
   simp only[Qn,Wo,Qv] at q
   exact⟨zUR q.1.1.1,q.2⟩
end
def zWt (c f:Int):Int:=((c*f+12345) % 2147483647)*((c*f+12345) % 2147483647) % 2147483629 / 3
theorem zUc (c f:Int)(h1 : -18446744073709551616 < f)(h2:f < 18446744073709551616):qE [.int c,.int f]=some (.int (zWt c f)):=by
 have e1:zZg c f=true:=zQN h1 h2
 have e2:zZg ((c*f+12345) % 2147483647) ((c*f+12345) % 2147483647)=true:=zZs (by omega) (by omega)
 have d1:decide ((0:Int) < 2147483647)=true:=rfl
 have d2:decide ((0:Int) < 2147483629)=true:=rfl
 have d3:(decide ((0:Int) < 3)&&decide ((3:Int) < 1073741824))=true:=rfl
 simp only[qE,fnF,zXL,jA,bP,sN,zO,yY,xU,eI,eV,eC,rC,List.map,Qi,Re,List.replicate,Ep,Eo,Wv,Wr,Qr,Wk,e1,e2,d1,d2,d3,Tp,w8,List.set,zYo]
 rfl
mutual
def okS:Nat->D->Bool
 | 0,_=>false
 | _+1,.obj _ _ _=>false
 | _+1,.exc _ _ _=>false
 | n+1,.tup ds=>decide (ds.length<=1000)&&zME n ds
 | n+1,.lst ds=>decide (ds.length<=1000)&&zME n ds
 | _+1,_=>true
def zME:Nat->List D->Bool
 | _,[]=>true
 | n,d::r=>okS n d&&zME n r
end
structure Pt where
 c:List Int
 t:Tn
 b:Bool
def yL (p:Pt):D:=.tup [yS p.c,zC p.t,.bl p.b]
def yD (p:Pt):D:=.obj (Str.ofString "Part") [Str.ofString "corner",Str.ofString "turn",Str.ofString "back"] [yS p.c,zC p.t,.bl p.b]
def zM (n:Int)(j:Bool)(ps:List Pt):D:=.obj (Str.ofString "Curve") [Str.ofString "name",Str.ofString "dims",Str.ofString "joined",Str.ofString "parts"] [.str (Str.ofString "fold"),.int n,.bl j,.lst (ps.map yD)]
theorem zVv (ρ:List B)(f:Ef)(p:Pt)(h:f ρ=some (yD p)):wX (Str.ofString "Part") (Str.ofString "corner") f ρ=some (yS p.c):=by
 unfold wX;rw[h];rfl
theorem zMa (ρ:List B)(f:Ef)(p:Pt)(h:f ρ=some (yD p)):wX (Str.ofString "Part") (Str.ofString "turn") f ρ=some (zC p.t):=by
 unfold wX;rw[h];rfl
theorem zMt (ρ:List B)(f:Ef)(p:Pt)(h:f ρ=some (yD p)):wX (Str.ofString "Part") (Str.ofString "back") f ρ=some (.bl p.b):=by
 unfold wX;rw[h];rfl
theorem zZR (ρ:List B)(f:Ef){n:Int}{j:Bool}{ps:List Pt}(h:f ρ=some (zM n j ps)):wX (Str.ofString "Curve") (Str.ofString "parts") f ρ=some (.lst (ps.map yD)):=by
 unfold wX;rw[h];rfl
structure PtsOk (n:Nat)(ps:List Pt):Prop where
 perm:(ps.map (·.c)).Perm (zD n)
 turn:∀p∈ps,p.t∈zJ n
theorem zYX {n:Nat}(hn:n=2∨n=3):(zD n).Nodup:=by
 rcases hn with rfl | rfl<;>decide +kernel
theorem vW {n:Nat}(hn:n=2∨n=3):∀c∈zD n,c.length=n:=by
 rcases hn with rfl | rfl<;>decide +kernel
theorem gI (n:Nat):(zD n).length=2^n:=by simp[zD]
theorem PtsOk.len {n:Nat}{ps:List Pt}(h:PtsOk n ps):ps.length=2^n:=by
 have:=h.perm.length_eq
 rw[Qg,gI] at this
 exact this
theorem PtsOk.small {n:Nat}{ps:List Pt}(hn:n=2∨n=3)(h:PtsOk n ps):ps.length<=8:=by
 rw[h.len]
 rcases hn with rfl | rfl<;>decide
theorem zZS (q:Int){n:Nat}(hn:n=2∨n=3):∃t∈zJ n,xC [.int q,.int n]=some (zC t):=by
 have q1:q / 1=q:=Int.ediv_one q
 rcases hn with rfl | rfl
 · rcases bit (q / 8) with h | h
   · refine⟨[(0,q / 1 % 2),(1,q / 2 % 2)],zLK (.inl ⟨rfl,rfl⟩) (bit _) (bit _),?_⟩
     simp[xC,fnF,lQ,tJ,tI,tN,sN,zO,yY,sIf,xU,xH,eI,eV,eC,rC,w8,zYo,eL,xP,zR,zY,okL,lim,eB2,gEq,h,yA,iR,zMX,upB,mT,gN,tOK,yX,eIx,atD,atI,ixN,vL,zUi,zC,kW]
   · refine⟨[(1,q / 1 % 2),(0,q / 2 % 2)],zLK (.inr ⟨rfl,rfl⟩) (bit _) (bit _),?_⟩
     simp[xC,fnF,lQ,tJ,tI,tN,sN,zO,yY,sIf,xU,xH,eI,eV,eC,rC,w8,zYo,eL,xP,zR,zY,okL,lim,eB2,gEq,h,yA,iR,zMX,upB,mT,gN,tOK,yX,eIx,atD,atI,ixN,vL,zUi,zC,kW]
 · have h6:q / 8 % 6=0∨q / 8 % 6=1∨q / 8 % 6=2∨q / 8 % 6=3∨q / 8 % 6=4∨q / 8 % 6=5:=by omega
   have key:∀a b c:Int,zRS a b c->atD (.lst [.lst [.int 0,.int 1,.int 2],.lst [.int 0,.int 2,.int 1],.lst [.int 1,.int 0,.int 2],.lst [.int 1,.int 2,.int 0],.lst [.int 2,.int 0,.int 1],.lst [.int 2,.int 1,.int 0]]) (.int (q / 8 % 6))=some (.lst [.int a,.int b,.int c])->∃t∈zJ 3,xC [.int q,.int 3]=some (zC t):=fun a b c ho ha=>by
     refine⟨[(a,q / 1 % 2),(b,q / 2 % 2),(c,q / 4 % 2)],zKL ho (bit _) (bit _) (bit _),?_⟩
     have r:xC [.int q,.int 3]=(tN [.fz (.int q),.fz (.int 3),.fz (.lst [.int a,.int b,.int c])]).bind w8:=by
       have d6:decide ((0:Int) < 6)=true:=rfl
       have o3:∀x y z:D,okL [x,y,z]=some [x,y,z]:=fun _ _ _=>rfl
       have o2:∀x y:D,okL [x,y]=some [x,y]:=fun _ _=>rfl
       have o6:∀x y z u v w:D,okL [x,y,z,u,v,w]=some [x,y,z,u,v,w]:=fun _ _ _ _ _ _=>rfl
       have g3:gEq (.int 3) (.int 3)=some true:=rfl
       have c8:zYo q 8=true:=rfl
       simp only[xC,fnF,lQ,tJ,tI,sN,zO,yY,sIf,eI,eV,eC,rC,eL,xP,zR,zY,eB2,eIx,Qj,Ro,Qi,Re,List.replicate,Ep,Eo,Wv,Wr,Qr,Wk,o2,o3,o6,g3,c8,d6,Tp,ha,List.set]
     rw[r]
     simp[tN,xU,eI,eV,eC,rC,w8,zYo,eL,xP,zR,zY,okL,lim,yA,iR,zKO,upB,mT,gN,tOK,yX,eIx,atD,atI,ixN,vL,zUi,zC,kW]
   rcases h6 with h | h | h | h | h | h
   · exact key 0 1 2 (.inl ⟨rfl,rfl,rfl⟩) (by rw[h];rfl)
   · exact key 0 2 1 (.inr (.inl ⟨rfl,rfl,rfl⟩)) (by rw[h];rfl)
   · exact key 1 0 2 (.inr (.inr (.inl ⟨rfl,rfl,rfl⟩))) (by rw[h];rfl)
   · exact key 1 2 0 (.inr (.inr (.inr (.inl ⟨rfl,rfl,rfl⟩)))) (by rw[h];rfl)
   · exact key 2 0 1 (.inr (.inr (.inr (.inr (.inl ⟨rfl,rfl,rfl⟩))))) (by rw[h];rfl)
   · exact key 2 1 0 (.inr (.inr (.inr (.inr (.inr ⟨rfl,rfl,rfl⟩))))) (by rw[h];rfl)
theorem zUl {n:Nat}(hn:n=2∨n=3):rQ [.int n]=some ((zD n).map yS):=by
 rcases hn with rfl | rfl<;>kernel_rfl
def zYb (c s f:Int):Int:=if 10^12<=c then c / 2^(30*s).toNat % 1073741824 else zWt (c+31*s) f
theorem zYU (c s f:Int)(h1:0<=s)(h2:s<=1000)(h3 : -18446744073709551616 < f)(h4:f < 18446744073709551616):wE [.int c,.int s,.int f]=some (.int (zYb c s f)):=by
 have hm:=zUc (c+31*s) f h3 h4
 have c1:zZg 30 s=true:=zZs (by decide) (by decide)
 have c2:zZg 31 s=true:=zZs (by decide) (by decide)
 have cp:zR9 10 12=true:=by decide
 have d0:decide ((0:Int)<=30*s)=true:=Qt (by omega)
 have d1:decide ((0:Int) < 1073741824)=true:=rfl
 have tn:(12:Int).toNat=12:=rfl
 unfold zYb
 by_cases h:(10:Int)^12<=c
 · have hd:decide ((10:Int)^12<=c)=true:=Qt h
   rw[Qx h]
   simp only[wE,fnF,cZ,oH,kN,sN,zO,sIf,xH,xU,eB2,gGe,eI,eV,eC,rC,List.map,Qi,Re,List.replicate,Ep,Eo,Wv,Wr,Qr,Wk,cp,tn,hd,c1,d0,d1,Tp,w8]
 · have hd:decide ((10:Int)^12<=c)=false:=Qf h
   rw[Wy h]
   simp only[wE,fnF,cZ,oH,kN,sN,zO,sIf,xH,xU,eB2,gGe,eI,eV,eC,rC,List.map,Qi,Re,List.replicate,Ep,Eo,Wv,Wr,Qr,Wk,cp,tn,hd,c2,Tp,Wg,Ta,zL,zY,zR,hm,w8]
def cS:Sf:=zO (yY 4 (zL 3 wE (zY (eV 1) (zY (tG (eC (.int 3)) (mP 2)) (zY (tG (eC (.int 48271)) (fR (eC (.int 997)) (mP 2))) zR)))))
   (zO (zRH 5 2 (xK (eV 4) (mP 2)))
   (bV 3 (yX (zY (eV 5) (zY (zL 2 xC (zY (uO (eV 4) (eC (.int 8))) (zY (eV 0) zR))) (zY (sE (eB2 gEq (xK (uO (eV 4) (eC (.int 800))) (eC (.int 2))) (eC (.int 1)))) zR))))))
theorem hV {α:Type}:∀(l:List α) (i:Nat) (x:α),l[i]?=some x->(x::l.eraseIdx i).Perm l
 | [],_,_,h=>by simp at h
 | a::r,0,x,h=>by cases h;exact .refl _
 | a::r,i+1,x,h=>by
   rw[Wr] at h
   rw[Yd]
   exact(List.Perm.swap a x _).trans (List.Perm.cons a (hV r i x h))
theorem eT {α β:Type}(f:α->β):∀(l:List α) (i:Nat),(l.map f).eraseIdx i=(l.eraseIdx i).map f
 | [],_=>rfl
 | a::r,0=>rfl
 | a::r,i+1=>by rw[Qj,Yd,Yd,Qj,eT f r i]
theorem zUm {n:Nat}(hn:n=2∨n=3)(cell:Int)(left:List (List Int))(acc:List Pt)(x4 x5:B)(h0:left≠[])(hl:left.length<=8)(ha:acc.length<=8)(ht:∀p∈acc,p.t∈zJ n) :
   ∃(left':List (List Int)) (acc':List Pt) (y4 y5:B),left'.length+1=left.length/\acc'.length=acc.length+1/\(acc'.map (·.c)++left').Perm (acc.map (·.c)++left)/\(∀p∈acc',p.t∈zJ n) /\
     cS [.fz (.int n),.fz (.int cell),.ow (left.map yS),.ow (acc.map yL),x4,x5]=some (.nx [.fz (.int n),.fz (.int cell),.ow (left'.map yS),.ow (acc'.map yL),y4,y5]):=by
 have hpos:0 < left.length:=List.length_pos_iff.mpr h0
 have m1:zZg 997 (left.length:Int)=true:=zZs (by decide) (by decide)
 have hm:=zYU cell (3+(left.length:Int)) (48271+997*(left.length:Int)) (by omega) (by omega) (by omega) (by omega)
 generalize zYb cell (3+(left.length:Int)) (48271+997*(left.length:Int))=r at hm
 have i0:0<=r % (left.length:Int):=Uw _ (by omega)
 have i1:r % (left.length:Int) < left.length:=Yf _ (by omega)
 generalize hi:r % (left.length:Int)=iv at i0 i1
 have hlt:iv.toNat < left.length:=by omega
 obtain⟨t,tm,te⟩:=zZS (r / 8) hn
 have px:=Qp hlt
 have pm:=hV left iv.toNat _ px
 generalize left[iv.toNat]=c at px pm
 refine⟨left.eraseIdx iv.toNat,acc++[⟨c,t,decide (r / 800 % 2=1)⟩],.fz (.int r),.fz (yS c),?_,?_,?_,?_,?_⟩
 · rw[List.length_eraseIdx_of_lt hlt];omega
 · simp
 · rw[Wl,Ra]
   exact List.Perm.append_left _ pm
 · intro p hp
   rcases Eh.mp hp with q | q
   · exact ht p q
   · rw[Wh.mp q];exact tm
 · have d1:decide ((0:Int) < (left.length:Nat))=true:=Qt (by omega)
   have d2:decide ((0:Int) < 2)=true:=rfl
   have c8:zYo r 8=true:=rfl
   have c800:zYo r 800=true:=rfl
   have ix:ixN left.length iv=some iv.toNat:=by unfold ixN;rw[Qx i0,Qx i1]
   have lz:left.length<=lim:=by show left.length<=100000;omega
   have az:acc.length < lim:=by show acc.length < 100000;omega
   have gx:(left.map yS)[iv.toNat]?=some (yS c):=by rw[Wu,px];rfl
   have o3:okL [yS c,zC t,.bl (decide (r / 800 % 2=1))]=some [yS c,zC t,.bl (decide (r / 800 % 2=1))]:=rfl
   simp only[cS,zO,yY,zRH,bV,zL,zY,zR,eI,eV,eC,rC,mP,yX,sE,eB2,gEq,Wv,Wr,Qg,Qi,Re,Qr,Wk,m1,hm,d1,d2,hi,ix,Qx lz,Qx az,gx,c8,c800,te,o3,Tp,List.set,eT,Wl,Qj,Ro,yL]
theorem zZ4 {n:Nat}(hn:n=2∨n=3)(cell:Int):∀(m fuel:Nat) (left:List (List Int)) (acc:List Pt) (x4 x5:B),left.length=m->m < fuel->left.length+acc.length<=8->(∀p∈acc,p.t∈zJ n) ->
   ∃(acc':List Pt) (y4 y5:B),(acc'.map (·.c)).Perm (acc.map (·.c)++left)/\(∀p∈acc',p.t∈zJ n) /\
     uM (bR 2) cS fuel [.fz (.int n),.fz (.int cell),.ow (left.map yS),.ow (acc.map yL),x4,x5]=some (.nx [.fz (.int n),.fz (.int cell),.ow [],.ow (acc'.map yL),y4,y5])
 | 0,0,_,_,_,_,_,hf,_,_=>by omega
 | m+1,0,_,_,_,_,_,hf,_,_=>by omega
 | 0,f+1,left,acc,x4,x5,hm,_,_,ht=>by
   have e:left=[]:=List.eq_nil_of_length_eq_zero hm
   subst e
   exact⟨acc,x4,x5,by rw[Wa],ht,rfl⟩
 | m+1,f+1,left,acc,x4,x5,hm,hf,hs,ht=>by
   have hne:left≠[]:=fun z=>by rw[z] at hm;simp at hm
   obtain⟨left',acc',y4,y5,l1,l2,l3,l4,l5⟩:=zUm hn cell left acc x4 x5 hne (by omega) (by omega) ht
   obtain⟨acc2,z4,z5,p1,p2,p3⟩:=zZ4 hn cell m f left' acc' y4 y5 (by omega) (by omega) (by omega) l4
   refine⟨acc2,z4,z5,p1.trans l3,p2,?_⟩
   have t:bR 2 [.fz (.int n),.fz (.int cell),.ow (left.map yS),.ow (acc.map yL),x4,x5]=some true:=by
     cases left with
     | nil=>exact absurd rfl hne
     | cons a r=>rfl
   rw[uM,t,Qr,Qx rfl,l5,Qr]
   exact p3
theorem zOM {n:Nat}(hn:n=2∨n=3)(cell:Int):∃ps:List Pt,PtsOk n ps/\oQ [.int n,.int cell]=some (ps.map yL):=by
 have hl:(zD n).length+([]:List Pt).length<=8:=by rw[gI];rcases hn with rfl | rfl<;>decide
 have hl2:(zD n).length<=8:=by simpa using hl
 obtain⟨ps,y4,y5,p1,p2,p3⟩:=zZ4 hn cell _ 100 (zD n) [] .no .no rfl (by omega) hl (by simp)
 refine⟨ps,⟨p1,p2⟩,?_⟩
 have hc:=zUl hn
 have s0:sK 2 (wD 1 rQ (zY (eV 0) zR)) [.fz (.int n),.fz (.int cell),.no,.no,.no,.no]=some (.nx [.fz (.int n),.fz (.int cell),.ow ((zD n).map yS),.no,.no,.no]):=by
   simp only[sK,wD,zY,zR,eV,rC,Wv,Qr,Wk,Qi,Re,Tp,hc,List.set]
 have s1:sK 3 (xP zR) [.fz (.int n),.fz (.int cell),.ow ((zD n).map yS),.no,.no,.no]=some (.nx [.fz (.int n),.fz (.int cell),.ow ((zD n).map yS),.ow [],.no,.no]):=rfl
 rw[Ro] at p3
 show(rL [.fz (.int n),.fz (.int cell),.no,.no,.no,.no]).bind zZ5=_
 unfold rL
 rw[zA s0]
 unfold nU
 rw[zA s1]
 unfold nF
 have p4:uM (bR 2) (zO (yY 4 (zL 3 wE (zY (eV 1) (zY (tG (eC (.int 3)) (mP 2)) (zY (tG (eC (.int 48271)) (fR (eC (.int 997)) (mP 2))) zR))))) (zO (zRH 5 2 (xK (eV 4) (mP 2))) (bV 3 (yX (zY (eV 5) (zY (zL 2 xC (zY (uO (eV 4) (eC (.int 8))) (zY (eV 0) zR))) (zY (sE (eB2 gEq (xK (uO (eV 4) (eC (.int 800))) (eC (.int 2))) (eC (.int 1)))) zR))))))) 100 _=_:=p3
 rw[zA p4]
 rfl
theorem zRF (n:Int)(j:Bool)(ps:List Pt)(b:Bool)(k:Int):jP [zM n j ps,.bl b,.int k]=some (.int (if b=true then(ps.length:Int) - 1 - k else k)):=by
 have e:=zZR [.fz (zM n j ps),.fz (.bl b),.fz (.int k)] (eV 0) (n:=n) (j:=j) (ps:=ps) rfl
 have l:wA (wX (Str.ofString "Curve") (Str.ofString "parts") (eV 0)) [.fz (zM n j ps),.fz (.bl b),.fz (.int k)]=some (.int (ps.length:Nat)):=by
   unfold wA
   rw[e]
   show some (D.int ((ps.map yD).length:Nat))=_
   rw[Qg]
 have q:=zWa (eIf (tB1 (eV 1)) (wO (wO (wA (wX (Str.ofString "Curve") (Str.ofString "parts") (eV 0))) (eC (.int 1))) (eV 2)) (eV 2) [.fz (zM n j ps),.fz (.bl b),.fz (.int k)])
 have r:eIf (tB1 (eV 1)) (wO (wO (wA (wX (Str.ofString "Curve") (Str.ofString "parts") (eV 0))) (eC (.int 1))) (eV 2)) (eV 2) [.fz (zM n j ps),.fz (.bl b),.fz (.int k)]=some (.int (if b=true then(ps.length:Int) - 1 - k else k)):=by
   cases b with
   | true=>simp only[eIf,tB1,eI,l,eV,eC,rC,Wv,Wr,Qr,Tp]
   | false=>rfl
 exact q.trans r
theorem zY0:uV=pO:=rfl
theorem zRX:wT=mM:=rfl
def ixB (b:Bool)(len k:Nat):Nat:=if b=true then len - 1 - k else k
theorem zQs {b:Bool}{len k:Nat}(h:k < len):(if b=true then(len:Int) - 1 - (k:Int) else(k:Int))=((ixB b len k:Nat):Int):=by
 unfold ixB
 cases b
 · rfl
 · rw[Qx rfl,Qx rfl];omega
theorem zZL {b:Bool}{len k:Nat}(h:k < len):ixB b len k < len:=by
 unfold ixB
 split<;>omega
def stD (t:Tn)(b:Bool):D:=.tup [zC t,.bl b]
def zKi (t:Tn)(b:Bool)(p:Pt):D:=.tup [yS (zG t p.c),.tup [zC (yM t p.t),.bl (b != p.b)]]
theorem zLU (x y:Bool):gNe (.bl x) (.bl y)=some (x != y):=by cases x<;>cases y<;>rfl
section
variable {n:Nat} (hn:n=2∨n=3) {ps:List Pt} (ok:PtsOk n ps) {t:Tn} (ht:t∈zJ n) (b j:Bool)
include hn ok ht
theorem zPP {p:Pt}(hp:p∈ps):pO [zC t,yS p.c]=some (yS (zG t p.c))/\mM [zC t,zC p.t]=some (zC (yM t p.t)):=by
 have T:=trM hn ht
 have U:=trM hn (ok.turn p hp)
 have small:n<=1000:=by rcases hn with rfl | rfl<;>decide
 have hc:p.c.length=n:=vW hn _ (ok.perm.mem_iff.mp (Wx.mpr ⟨p,hp,rfl⟩))
 exact⟨cV t p.c (by rw[hc];exact T.fits) (by rw[T.len];exact small),zVo t p.t (by rw[U.len];exact T.fits) (by rw[T.len];exact small)⟩
theorem zSQ {k:Nat}(hk:k < ps.length):wJ [zM n j ps,stD t b,.int k]=some (zKi t b (ps[ixB b ps.length k]'(zZL hk))):=by
 generalize hp:ps[ixB b ps.length k]'(zZL hk)=p
 have hm:p∈ps:=by rw[←hp];exact Yk _
 obtain⟨f1,f2⟩:=zPP hn ok ht hm
 have s0:pK (eV 1) (gT (zN (gN 3) (zN (gN 4) xS))) [.fz (zM n j ps),.fz (stD t b),.fz (.int k),.no,.no,.no,.no]=some (.nx [.fz (zM n j ps),.fz (stD t b),.fz (.int k),.fz (zC t),.fz (.bl b),.no,.no]):=rfl
 have q7:=fun r hk=>xL (g:=kL) (r:=r) s0 hk
 refine q7 _ ?_
 have w:=zRF n j ps b k
 rw[zQs hk] at w
 have at_:atD (.lst (ps.map yD)) (.int ((ixB b ps.length k:Nat):Int))=some (yD p):=by
   show atI (ps.map yD) _=_
   rw[dR,zNQ (Qp (zZL hk)),hp]
   rfl
 have s1:yY 5 (eIx (wX (Str.ofString "Curve") (Str.ofString "parts") (eV 0)) (zL 3 jP (zY (eV 0) (zY (eV 4) (zY (eV 2) zR))))) [.fz (zM n j ps),.fz (stD t b),.fz (.int k),.fz (zC t),.fz (.bl b),.no,.no]=some (.nx [.fz (zM n j ps),.fz (stD t b),.fz (.int k),.fz (zC t),.fz (.bl b),.fz (yD p),.no]):=by
   have e:=zZR [.fz (zM n j ps),.fz (stD t b),.fz (.int k),.fz (zC t),.fz (.bl b),.no,.no] (eV 0) (n:=n) (j:=j) (ps:=ps) rfl
   have e2:zL 3 jP (zY (eV 0) (zY (eV 4) (zY (eV 2) zR))) [.fz (zM n j ps),.fz (stD t b),.fz (.int k),.fz (zC t),.fz (.bl b),.no,.no]=some (.int ((ixB b ps.length k:Nat):Int)):=w
   simp only[yY,eIx,e,e2,Qr,at_,Wk,List.set]
 have q8:=fun r hk=>xL (g:=jW) (r:=r) s1 hk
 refine q8 _ ?_
 have o2:∀x y:D,okL [x,y]=some [x,y]:=fun _ _=>rfl
 have s2:yY 6 (yX (zY (zL 2 mM (zY (eV 3) (zY (wX (Str.ofString "Part") (Str.ofString "turn") (eV 5)) zR))) (zY (sE (eB2 gNe (eV 4) (wX (Str.ofString "Part") (Str.ofString "back") (eV 5)))) zR))) [.fz (zM n j ps),.fz (stD t b),.fz (.int k),.fz (zC t),.fz (.bl b),.fz (yD p),.no]=some (.nx [.fz (zM n j ps),.fz (stD t b),.fz (.int k),.fz (zC t),.fz (.bl b),.fz (yD p),.fz (.tup [zC (yM t p.t),.bl (b != p.b)])]):=by
   have e1:=zMa [.fz (zM n j ps),.fz (stD t b),.fz (.int k),.fz (zC t),.fz (.bl b),.fz (yD p),.no] (eV 5) p rfl
   have e2:=zMt [.fz (zM n j ps),.fz (stD t b),.fz (.int k),.fz (zC t),.fz (.bl b),.fz (yD p),.no] (eV 5) p rfl
   simp only[yY,yX,zY,zR,zL,sE,eB2,e1,e2]
   simp only[eV,rC,Wv,Wr,Qi,Re,Qr,Wk,Tp,f2,zLU,o2,List.set]
 have q9:=fun r hk=>xL (g:=aX) (r:=r) s2 hk
 refine q9 _ ?_
 have e3:=zVv [.fz (zM n j ps),.fz (stD t b),.fz (.int k),.fz (zC t),.fz (.bl b),.fz (yD p),.fz (.tup [zC (yM t p.t),.bl (b != p.b)])] (eV 5) p rfl
 show((yX (zY (zL 2 pO (zY (eV 3) (zY (wX (Str.ofString "Part") (Str.ofString "corner") (eV 5)) zR))) (zY (eV 6) zR)) _).map Out.rt).bind w8=_
 simp only[yX,zY,zR,zL,e3]
 simp only[eV,rC,Wv,Wr,Qi,Re,Qr,Wk,Tp,f1,o2,w8]
 rfl
end
theorem vE {i:Nat}{f:Ef}{g:Sf}{ρ:List B}{d:D}(h:f ρ=some d):zO (yY i f) g ρ=g (ρ.set i (.fz d)):=zA (by unfold yY;rw[h];rfl)
theorem pP {f:List D->Option D}{fa:Ef}{ρ:List B}{x:D}(h:fa ρ=some x):zL 1 f (zY fa zR) ρ=f [x]:=dW (yF h rfl) rfl
theorem vD {f:List D->Option D}{fa fb:Ef}{ρ:List B}{x y:D}(h1:fa ρ=some x)(h2:fb ρ=some y):zL 2 f (zY fa (zY fb zR)) ρ=f [x,y]:=dW (yF h1 (yF h2 rfl)) rfl
theorem sI {f:List D->Option D}{fa fb fc:Ef}{ρ:List B}{x y z:D}(h1:fa ρ=some x)(h2:fb ρ=some y)(h3:fc ρ=some z):zL 3 f (zY fa (zY fb (zY fc zR))) ρ=f [x,y,z]:=dW (yF h1 (yF h2 (yF h3 rfl))) rfl
theorem zMV {f:List D->Option D}{fa fb fc fd:Ef}{ρ:List B}{x y z u:D}(h1:fa ρ=some x)(h2:fb ρ=some y)(h3:fc ρ=some z)(h4:fd ρ=some u):zL 4 f (zY fa (zY fb (zY fc (zY fd zR)))) ρ=f [x,y,z,u]:=dW (yF h1 (yF h2 (yF h3 (yF h4 rfl)))) rfl
theorem fK {f:List D->Option (List D)}{fa fb:Ef}{ρ:List B}{x y:D}(h1:fa ρ=some x)(h2:fb ρ=some y):wD 2 f (zY fa (zY fb zR)) ρ=f [x,y]:=by unfold wD;rw[yF h1 (yF h2 rfl),Qr];rfl
theorem zMc {f:List D->Option (List D)}{fa fb fc:Ef}{ρ:List B}{x y z:D}(h1:fa ρ=some x)(h2:fb ρ=some y)(h3:fc ρ=some z):wD 3 f (zY fa (zY fb (zY fc zR))) ρ=f [x,y,z]:=by unfold wD;rw[yF h1 (yF h2 (yF h3 rfl)),Qr];rfl
theorem yN {C:Int->Int->Bool}{g:Int->Int->Int}{fa fb:Ef}{ρ:List B}{i j:Int}(h1:fa ρ=some (.int i))(h2:fb ρ=some (.int j))(h:C i j=true):eI C g fa fb ρ=some (.int (g i j)):=by
 unfold eI
 rw[h1,Qr,h2,Qr]
 show(if C i j then _ else none)=_
 rw[Qx h]
theorem xZ {t:Tf}{f:Sf}{ρ:List B}{b:Bool}(h:t ρ=some b):sIf t f xH ρ=if b then f ρ else some (.nx ρ):=by unfold sIf;rw[h];cases b<;>rfl
theorem zYH {i:Nat}{f:Ef}{ρ:List B}{d:D}{ds:List D}(e1:f ρ=some d)(e2:ρ[i]?=some (.ow ds))(e3:ds.length<=90000):bV i f ρ=some (.nx (ρ.set i (.ow (ds++[d])))):=by
 unfold bV;rw[e1,Qr,e2]
 show(if ds.length < lim then _ else none)=_
 rw[Qx (show ds.length < 100000 by omega)]
theorem uQ {f:Ef}{ρ:List B}{x k:Int}(h:f ρ=some (.int x)):eB2 gEq f (eC (.int k)) ρ=some (decide (x=k)):=by unfold eB2;rw[h];rfl
theorem zNw {fa fb fc:Ef}{ρ:List B}{x y z:D}(h1:fa ρ=some x)(h2:fb ρ=some y)(h3:fc ρ=some z):yX (zY fa (zY fb (zY fc zR))) ρ=some (.tup [x,y,z]):=by
 unfold yX;rw[yF h1 (yF h2 (yF h3 rfl))];rfl
theorem zQ5 {t:Tn}(ht:t∈vG):vX [zC t]=some (zC (wP t)):=by
 obtain⟨a,b,f,g,h1,h2,h3,rfl⟩:=zSL ht
 rcases h1 with⟨rfl,rfl⟩ | ⟨rfl,rfl⟩<;>rcases h2 with rfl | rfl<;>rcases h3 with rfl | rfl<;>kernel_rfl
theorem zOG {t:Tn}(ht:t∈vF):vX [zC t]=some (zC (wP t)):=by
 obtain⟨a,b,c,f,g,j,h1,h2,h3,h4,rfl⟩:=zSu ht
 rcases h1 with⟨rfl,rfl,rfl⟩ | ⟨rfl,rfl,rfl⟩ | ⟨rfl,rfl,rfl⟩ | ⟨rfl,rfl,rfl⟩ | ⟨rfl,rfl,rfl⟩ | ⟨rfl,rfl,rfl⟩<;>rcases h2 with rfl | rfl<;>rcases h3 with rfl | rfl<;>rcases h4 with rfl | rfl<;>kernel_rfl
theorem cX {n:Nat}(hn:n=2∨n=3){t:Tn}(h:t∈zJ n):vX [zC t]=some (zC (wP t)):=by
 rcases hn with rfl | rfl
 · exact zQ5 h
 · exact zOG h
theorem pV {n:Nat}(hn:n=2∨n=3){t u:Tn}(h:t∈zJ n)(h':u∈zJ n):wT [zC t,zC u]=some (zC (yM t u)):=by
 have T:=trM hn h
 have U:=trM hn h'
 have small:n<=1000:=by rcases hn with rfl | rfl<;>decide
 rw[zRX]
 exact zVo t u (by rw[U.len];exact T.fits) (by rw[T.len];exact small)
def zMB:List (List Int×Tn):=[([0,0],[(1,0),(0,0)]),([0,1],[(0,0),(1,0)]),([1,1],[(0,0),(1,0)]),([1,0],[(1,1),(0,1)])]
def zLy:List (List Int×Tn):=[([0,0,0],[(1,0),(0,0),(2,0)]),([0,1,0],[(1,0),(2,0),(0,0)]),([0,1,1],[(0,0),(1,0),(2,0)]),([0,0,1],[(1,1),(2,1),(0,0)]),([1,0,1],[(1,0),(2,1),(0,1)]),([1,1,1],[(0,0),(1,0),(2,0)]),([1,1,0],[(1,1),(2,0),(0,1)]),([1,0,0],[(1,1),(0,1),(2,0)])]
def jI (x:List Int×Tn):D:=.tup [yS x.1,zC x.2]
def gW (n:Nat):List (List Int×Tn):=if n=2 then zMB else zLy
theorem zNc {n:Nat}(hn:n=2∨n=3):fT [.int n]=some ((gW n).map jI):=by
 rcases hn with rfl | rfl<;>kernel_rfl
theorem zTk {n:Nat}(hn:n=2∨n=3):∀x∈gW n,x.1∈zD n/\x.2∈zJ n:=by
 rcases hn with rfl | rfl<;>decide +kernel
theorem zX6 {n:Nat}(hn:n=2∨n=3):∀t∈zJ n,((gW n).map fun x=>zG t x.1).Perm (zD n):=by
 rcases hn with rfl | rfl<;>decide +kernel
theorem zQW {n:Nat}(hn:n=2∨n=3){t m u:Tn}{c:List Int}(ht:t∈zJ n)(hm:m∈zJ n)(hu:u∈zJ n)(hc:c∈zD n)(x0 x1 x2 x9:B)(acc:List D)(ha:acc.length<=100)(tV:Int) :
   ∃p:Pt,p.c=zG t c/\p.t∈zJ n/\wI [x0,x1,x2,.fz (zC t),.fz (zC m),.ow acc,.fz (.int tV),.fz (yS c),.fz (zC u),x9]=some (.nx [x0,x1,x2,.fz (zC t),.fz (zC m),.ow (acc++[yL p]),.fz (.int (tV / 2)),.fz (yS c),.fz (zC u),.fz (zC p.t)]):=by
 have um:=(kM hn ht).1
 have e1:=cX hn ht
 have e2:=pV hn hu um
 have m2:=rG hn hu um
 have e3:=pV hn ht m2
 have m3:=rG hn ht m2
 generalize hl:yM t (yM u (wP t))=l at e3 m3
 have e4:=pV hn m3 hm
 have m4:=rG hn m3 hm
 have T:=trM hn ht
 have small:n<=1000:=by rcases hn with rfl | rfl<;>decide
 have e5:uV [zC t,yS c]=some (yS (zG t c)):=by
   rw[zY0]
   exact cV t c (by rw[vW hn c hc];exact T.fits) (by rw[T.len];exact small)
 have fin:∀w:Tn,w∈zJ n->uC [x0,x1,x2,.fz (zC t),.fz (zC m),.ow acc,.fz (.int tV),.fz (yS c),.fz (zC u),.fz (zC w)]=some (.nx [x0,x1,x2,.fz (zC t),.fz (zC m),.ow (acc++[yL ⟨zG t c,w,decide (tV % 2=1)⟩]),.fz (.int (tV / 2)),.fz (yS c),.fz (zC u),.fz (zC w)]):=fun w hw=>by
   unfold uC
   rw[zA (zYH (d:=yL ⟨zG t c,w,decide (tV % 2=1)⟩) (ds:=acc) (zNw ((vD rfl rfl).trans e5) rfl (by unfold sE;rw[uQ (x:=tV % 2) (yN rfl rfl rfl)];rfl)) rfl (by omega))]
   rfl
 unfold wI
 rw[vE (d:=zC l) ((vD rfl ((vD rfl ((pP rfl).trans e1)).trans e2)).trans e3)]
 unfold qU
 have ht1:eB2 gEq (xK (eV 6) (eC (.int 2))) (eC (.int 1)) [x0,x1,x2,.fz (zC t),.fz (zC m),.ow acc,.fz (.int tV),.fz (yS c),.fz (zC u),.fz (zC l)]=some (decide (tV % 2=1)):=uQ (yN rfl rfl rfl)
 by_cases hb:tV % 2=1
 · refine⟨⟨zG t c,yM l m,decide (tV % 2=1)⟩,rfl,m4,?_⟩
   rw[zA (ρ':=[x0,x1,x2,.fz (zC t),.fz (zC m),.ow acc,.fz (.int tV),.fz (yS c),.fz (zC u),.fz (zC (yM l m))])]
   · exact fin _ m4
   · refine(xZ ht1).trans ?_
     rw[Qt hb,Qx rfl]
     unfold yY
     rw[vD rfl rfl,e4]
     rfl
 · refine⟨⟨zG t c,l,decide (tV % 2=1)⟩,rfl,m3,?_⟩
   rw[zA (ρ':=[x0,x1,x2,.fz (zC t),.fz (zC m),.ow acc,.fz (.int tV),.fz (yS c),.fz (zC u),.fz (zC l)])]
   · exact fin _ m3
   · refine(xZ ht1).trans ?_
     rw[Qf hb]
     rfl
theorem zXB {n:Nat}(hn:n=2∨n=3){t m:Tn}(ht:t∈zJ n)(hm:m∈zJ n)(x0 x1 x2:B):∀(bs:List (List Int×Tn)) (acc:List Pt) (tV:Int) (x7 x8 x9:B),(∀x∈bs,x.1∈zD n/\x.2∈zJ n)->acc.length+bs.length<=100->(∀p∈acc,p.t∈zJ n) ->
   ∃(ps:List Pt) (y6 y7 y8 y9:B),ps.map (·.c)=acc.map (·.c)++bs.map (fun x=>zG t x.1)/\(∀p∈ps,p.t∈zJ n) /\
     sD (gT (zN (gN 7) (zN (gN 8) xS))) wI (bs.map jI) [x0,x1,x2,.fz (zC t),.fz (zC m),.ow (acc.map yL),.fz (.int tV),x7,x8,x9]=some (.nx [x0,x1,x2,.fz (zC t),.fz (zC m),.ow (ps.map yL),y6,y7,y8,y9])
 | [],acc,tV,x7,x8,x9,_,_,ha=>⟨acc,.fz (.int tV),x7,x8,x9,by simp,ha,rfl⟩
 | x::r,acc,tV,x7,x8,x9,hb,hl,ha=>by
   obtain⟨h1,h2⟩:=hb x Qh
   obtain⟨p,p1,p2,p3⟩:=zQW hn ht hm h2 h1 x0 x1 x2 x9 (acc.map yL) (by rw[Qg];simp at hl;omega) tV
   obtain⟨ps,y6,y7,y8,y9,q1,q2,q3⟩:=zXB hn ht hm x0 x1 x2 r (acc++[p]) (tV / 2) (.fz (yS x.1)) (.fz (zC x.2)) (.fz (zC p.t)) (fun y hy=>hb y (Qd _ hy)) (by simp at hl ⊢;omega) (fun q hq=>by
     rcases Eh.mp hq with z | z
     · exact ha q z
     · rw[Wh.mp z];exact p2)
   refine⟨ps,y6,y7,y8,y9,?_,q2,?_⟩
   · rw[q1];simp[p1]
   · rw[Qj,tL (ρ1:=[x0,x1,x2,.fz (zC t),.fz (zC m),.ow (acc.map yL),.fz (.int tV),.fz (yS x.1),.fz (zC x.2),x9]) rfl p3]
     rw[Wl] at q3
     exact q3
theorem zXo {n:Nat}(hn:n=2∨n=3)(q:Int):∃ps:List Pt,PtsOk n ps/\tK [.int n,.int q]=some (ps.map yL):=by
 obtain⟨t,tm,te⟩:=zZS q hn
 have hmir:∃m∈zJ n,∀r:List B,vL (eL (yA (iR (eV 0)) 1 [] (gN 0) tOK (yX (zY (eV 0) (zY (zZD (sE (eB2 gEq (eV 0) (eC (.int 0))))) zR))))) (.fz (.int (n:Nat))::r)=some (zC m):=by
   rcases hn with rfl | rfl
   · exact⟨[(0,1),(1,0)],by decide +kernel,fun r=>by kernel_rfl⟩
   · exact⟨[(0,1),(1,0),(2,0)],by decide +kernel,fun r=>by kernel_rfl⟩
 obtain⟨m,mm,me⟩:=hmir
 have um:=(kM hn tm).1
 have e1:=cX hn tm
 have e2:=pV hn mm um
 have m2:=rG hn mm um
 have e3:=pV hn tm m2
 have m3:=rG hn tm m2
 have go:∀bs:List (List Int×Tn),(∀x∈bs,x.1∈zD n/\x.2∈zJ n)->bs.length<=100->(bs.map fun x=>zG t x.1).Perm (zD n)->∃ps:List Pt,PtsOk n ps/\(sU [.fz (.int n),.fz (.int q),.fz (.lst (bs.map jI)),.fz (zC t),.no,.no,.no,.no,.no,.no]).bind zZ5=some (ps.map yL):=fun bs h1 h2 h3=>by
   obtain⟨ps,y6,y7,y8,y9,q1,q2,q3⟩:=zXB hn tm m3 (.fz (.int n)) (.fz (.int q)) (.fz (.lst (bs.map jI))) bs [] (q / 96) .no .no .no h1 (by simpa using h2) (by simp)
   refine⟨ps,⟨?_,q2⟩,?_⟩
   · rw[q1];simpa using h3
   · unfold sU
     rw[vE (d:=zC m) (me _)]
     unfold pN
     rw[vE (d:=zC (yM t (yM m (wP t)))) ((vD rfl ((vD rfl ((pP rfl).trans e1)).trans e2)).trans e3)]
     unfold oZ
     rw[zA (ρ':=[.fz (.int n),.fz (.int q),.fz (.lst (bs.map jI)),.fz (zC t),.fz (zC (yM t (yM m (wP t)))),.ow [],.no,.no,.no,.no]) rfl]
     unfold pX
     rw[vE (d:=.int (q / 96)) (yN rfl rfl rfl)]
     unfold qB
     have fr:tU (iL (eV 2)) (gT (zN (gN 7) (zN (gN 8) xS))) wI [.fz (.int n),.fz (.int q),.fz (.lst (bs.map jI)),.fz (zC t),.fz (zC (yM t (yM m (wP t)))),.ow [],.fz (.int (q / 96)),.no,.no,.no]=some (.nx [.fz (.int n),.fz (.int q),.fz (.lst (bs.map jI)),.fz (zC t),.fz (zC (yM t (yM m (wP t)))),.ow (ps.map yL),y6,y7,y8,y9]):=q3
     dsimp only[List.set]
     rw[zA fr]
     rfl
 have small:(gW n).length<=100:=by rcases hn with rfl | rfl<;>decide
 show ∃ps:List Pt,PtsOk n ps/\(tR [.fz (.int n),.fz (.int q),.no,.no,.no,.no,.no,.no,.no,.no]).bind zZ5=some (ps.map yL)
 unfold tR
 rw[vE (d:=.lst ((gW n).map jI)) (zMT (by unfold wD;rw[yF (d:=.int n) rfl rfl,Qr];exact zNc hn))]
 unfold pS
 rw[vE (d:=zC t) ((vD rfl rfl).trans te)]
 unfold oW
 have ht1:eB2 gEq (xK (uO (eV 1) (eC (.int 48))) (eC (.int 2))) (eC (.int 1)) [.fz (.int n),.fz (.int q),.fz (.lst ((gW n).map jI)),.fz (zC t),.no,.no,.no,.no,.no,.no]=some (decide (q / 48 % 2=1)):=uQ (yN (yN rfl rfl rfl) rfl rfl)
 by_cases hb:q / 48 % 2=1
 · obtain⟨ps,g1,g2⟩:=go (gW n).reverse (fun x hx=>zTk hn x (Uc.mp hx)) (by rw[Yr];exact small) (by rw[Uv];exact(List.reverse_perm _).trans (zX6 hn t tm))
   refine⟨ps,g1,?_⟩
   rw[zA (ρ':=[.fz (.int n),.fz (.int q),.fz (.lst ((gW n).reverse.map jI)),.fz (zC t),.no,.no,.no,.no,.no,.no])]
   · exact g2
   · refine(xZ ht1).trans ?_
     rw[Qt hb,Qx rfl,Uv]
     rfl
 · obtain⟨ps,g1,g2⟩:=go (gW n) (zTk hn) small (zX6 hn t tm)
   refine⟨ps,g1,?_⟩
   rw[zA (ρ':=[.fz (.int n),.fz (.int q),.fz (.lst ((gW n).map jI)),.fz (zC t),.no,.no,.no,.no,.no,.no])]
   · exact g2
   · refine(xZ ht1).trans ?_
     rw[Qf hb]
     rfl
theorem zTZ {n:Nat}(hn:n=2∨n=3)(cell:Int):∃ps:List Pt,PtsOk n ps/\nR [.int n,.int cell]=some (ps.map yL):=by
 have e1:=zYU cell 1 16807 (by decide) (by decide) (by decide) (by decide)
 have e2:=zYU cell 2 39373 (by decide) (by decide) (by decide) (by decide)
 generalize zYb cell 1 16807=r at e1
 generalize zYb cell 2 39373=o at e2
 obtain⟨ps,ok,e3⟩:=zXo hn (r / 8)
 have sm:=ok.small hn
 have pos:0 < ps.length:=by rw[ok.len];rcases hn with rfl | rfl<;>decide
 have i0:0<=r % (ps.length:Int):=Uw _ (by omega)
 have i1:r % (ps.length:Int) < ps.length:=Yf _ (by omega)
 generalize hi:r % (ps.length:Int)=iv at i0 i1
 have hlt:iv.toNat < ps.length:=by omega
 have px:=Qp hlt
 generalize hp:ps[iv.toNat]=p at px
 have hat:atI (ps.map yL) iv=some (yL p):=by
   rw[dR,dF (α:=Pt) ps iv p i0 i1,Wq,px];rfl
 have pm:p∈ps:=Tz px
 obtain⟨t,tm,te⟩:=zZS (o / 3) hn
 have okset:∀(w:Tn) (bb:Bool),w∈zJ n->PtsOk n (ps.set iv.toNat ⟨p.c,w,bb⟩):=fun w bb hw=>by
   refine⟨?_,fun x hx=>?_⟩
   · have:(ps.set iv.toNat ⟨p.c,w,bb⟩).map (·.c)=ps.map (·.c):=by
       rw[List.map_set]
       refine List.ext_getElem? fun k=>?_
       rw[Us]
       split
       · rename_i e
         subst e
         rw[Wu,px,Qg]
         simp[hlt]
       · rfl
     rw[this];exact ok.perm
   · rcases List.mem_or_eq_of_mem_set hx with z | z
     · exact ok.turn x z
     · rw[z];exact hw
 have sit:∀(f:Ef) (ρ:List B) (q:Pt),f ρ=some (yL q)->ρ[3]?=some (.ow (ps.map yL))->eV 4 ρ=some (.int iv)->zY8 3 (eV 4) f ρ=some (.nx (ρ.set 3 (.ow ((ps.set iv.toNat q).map yL)))):=fun f ρ q h1 h2 h3=>by
   unfold zY8
   rw[h1,Qr,h3,Qr,h2]
   show(if (ps.map yL).length<=lim then _ else none)=_
   rw[Qx (by rw[Qg];show ps.length<=100000;omega),Qg]
   have:ixN ps.length iv=some iv.toNat:=by unfold ixN;rw[Qx i0,Qx i1]
   rw[this,List.map_set]
   rfl
 show ∃ps:List Pt,PtsOk n ps/\(uE [.fz (.int n),.fz (.int cell),.no,.no,.no,.no,.no,.no,.no]).bind zZ5=some (ps.map yL)
 unfold uE
 rw[vE (d:=.int r) ((sI rfl rfl rfl).trans e1)]
 unfold qW
 rw[zA (ρ':=[.fz (.int n),.fz (.int cell),.fz (.int r),.ow (ps.map yL),.no,.no,.no,.no,.no]) (by
   unfold sK
   rw[fK rfl (yN (i:=r) (j:=8) rfl rfl rfl),e3]
   rfl)]
 unfold qY
 rw[vE (d:=.int iv) (by
   rw[←hi]
   refine yN (i:=r) (j:=(ps.length:Int)) rfl ?_ (Qt (by omega))
   show some (D.int ((ps.map yL).length:Nat))=_
   rw[Qg])]
 unfold rB
 rw[vE (d:=.int o) ((sI rfl rfl rfl).trans e2)]
 unfold qZ
 rw[zA (ρ':=[.fz (.int n),.fz (.int cell),.fz (.int r),.ow (ps.map yL),.fz (.int iv),.fz (.int o),.fz (yS p.c),.fz (zC p.t),.fz (.bl p.b)]) (by
   unfold pK
   dsimp only[List.set]
   rw[show zNY 3 (eV 4) [.fz (.int n),.fz (.int cell),.fz (.int r),.ow (ps.map yL),.fz (.int iv),.fz (.int o),.no,.no,.no]=some (yL p) from hat]
   rfl)]
 unfold rA
 have ht1:eB2 gEq (xK (eV 5) (eC (.int 3))) (eC (.int 0)) [.fz (.int n),.fz (.int cell),.fz (.int r),.ow (ps.map yL),.fz (.int iv),.fz (.int o),.fz (yS p.c),.fz (zC p.t),.fz (.bl p.b)]=some (decide (o % 3=0)):=uQ (yN rfl rfl rfl)
 by_cases hb:o % 3=0
 · refine⟨_,okset p.t (!p.b) (ok.turn p pm),?_⟩
   rw[zA (ρ':=[.fz (.int n),.fz (.int cell),.fz (.int r),.ow ((ps.set iv.toNat ⟨p.c,p.t,!p.b⟩).map yL),.fz (.int iv),.fz (.int o),.fz (yS p.c),.fz (zC p.t),.fz (.bl p.b)])]
   · rfl
   · unfold sIf
     rw[ht1,Qr,Qt hb,Qx rfl]
     exact sit _ _ ⟨p.c,p.t,!p.b⟩ (zNw rfl rfl rfl) rfl rfl
 · refine⟨_,okset t (decide (o / 200 % 2=1)) tm,?_⟩
   rw[zA (ρ':=[.fz (.int n),.fz (.int cell),.fz (.int r),.ow ((ps.set iv.toNat ⟨p.c,t,decide (o / 200 % 2=1)⟩).map yL),.fz (.int iv),.fz (.int o),.fz (yS p.c),.fz (zC p.t),.fz (.bl p.b)])]
   · rfl
   · unfold sIf
     rw[ht1,Qr,Qf hb,Wy (by decide)]
     exact sit _ _ ⟨p.c,t,decide (o / 200 % 2=1)⟩ (zNw rfl ((vD (yN rfl rfl rfl) rfl).trans te) (by unfold sE;rw[uQ (x:=o / 200 % 2) (yN (yN rfl rfl rfl) rfl rfl)];rfl)) rfl rfl
end My
noncomputable section
namespace My
open PySem L2
def bK:List (List Int×Tn×Bool):=[([1,1],[(0,1),(1,0)],false),([0,1],[(1,0),(0,1)],false),([0,0],[(1,0),(0,0)],true),([1,0],[(1,1),(0,0)],false)]
def zXW (x:List Int×Tn×Bool):D:=.tup [yS x.1,zC x.2.1,.bl x.2.2]
theorem zX1 {t:Tn}(ht:t∈zJ 2)(x0 x1:B):∀(bs:List (List Int×Tn×Bool)) (acc:List Pt) (x4 x5 x6 x7:B),(∀x∈bs,x.1∈zD 2/\x.2.1∈zJ 2)->acc.length+bs.length<=100->(∀p∈acc,p.t∈zJ 2) ->
   ∃(ps:List Pt) (y4 y5 y6 y7:B),ps.map (·.c)=acc.map (·.c)++bs.map (fun x=>zG t x.1)/\(∀p∈ps,p.t∈zJ 2) /\
     sD (gT (zN (gN 4) (zN (gN 5) (zN (gN 6) xS)))) vQ (bs.map zXW) [x0,x1,.fz (zC t),.ow (acc.map yL),x4,x5,x6,x7]=some (.nx [x0,x1,.fz (zC t),.ow (ps.map yL),y4,y5,y6,y7])
 | [],acc,x4,x5,x6,x7,_,_,ha=>⟨acc,x4,x5,x6,x7,by simp,ha,rfl⟩
 | x::r,acc,x4,x5,x6,x7,hb,hl,ha=>by
   have hn:2=2∨2=3:=.inl rfl
   obtain⟨h1,h2⟩:=hb x Qh
   have um:=(kM hn ht).1
   have e1:=cX hn ht
   have e2:=pV hn h2 um
   have m2:=rG hn h2 um
   have e3:=pV hn ht m2
   have m3:=rG hn ht m2
   have T:=trM hn ht
   have e5:uV [zC t,yS x.1]=some (yS (zG t x.1)):=by
     rw[zY0]
     exact cV t x.1 (by rw[vW hn x.1 h1];exact T.fits) (by rw[T.len];decide)
   obtain⟨ps,y4,y5,y6,y7,q1,q2,q3⟩:=zX1 ht x0 x1 r (acc++[⟨zG t x.1,yM t (yM x.2.1 (wP t)),x.2.2⟩]) (.fz (yS x.1)) (.fz (zC x.2.1)) (.fz (.bl x.2.2)) (.fz (zC (yM t (yM x.2.1 (wP t))))) (fun y hy=>hb y (Qd _ hy)) (by simp at hl ⊢;omega) (fun q hq=>by
     rcases Eh.mp hq with z | z
     · exact ha q z
     · rw[Wh.mp z];exact m3)
   refine⟨ps,y4,y5,y6,y7,by rw[q1];simp,q2,?_⟩
   rw[Wl] at q3
   rw[Qj,tL (ρ1:=[x0,x1,.fz (zC t),.ow (acc.map yL),.fz (yS x.1),.fz (zC x.2.1),.fz (.bl x.2.2),x7]) (ρ2:=[x0,x1,.fz (zC t),.ow (acc.map yL++[yL ⟨zG t x.1,yM t (yM x.2.1 (wP t)),x.2.2⟩]),.fz (yS x.1),.fz (zC x.2.1),.fz (.bl x.2.2),.fz (zC (yM t (yM x.2.1 (wP t))))]) rfl ?_]
   · exact q3
   · unfold vQ
     rw[vE ((vD rfl ((vD rfl ((pP rfl).trans e1)).trans e2)).trans e3)]
     unfold lB
     exact zYH (zNw ((vD rfl rfl).trans e5) rfl rfl) rfl (by rw[Qg];simp at hl;omega)
theorem zRN (q:Int):∃ps:List Pt,PtsOk 2 ps/\tT [.int q]=some (ps.map yL):=by
 have hn:2=2∨2=3:=.inl rfl
 obtain⟨t,tm,te⟩:=zZS q hn
 have go:∀bs:List (List Int×Tn×Bool),(∀x∈bs,x.1∈zD 2/\x.2.1∈zJ 2)->bs.length<=100->(bs.map fun x=>zG t x.1).Perm (zD 2)->∃ps:List Pt,PtsOk 2 ps/\(tP [.fz (.int q),.fz (.lst (bs.map zXW)),.no,.no,.no,.no,.no,.no]).bind zZ5=some (ps.map yL):=fun bs h1 h2 h3=>by
   obtain⟨ps,y4,y5,y6,y7,q1,q2,q3⟩:=zX1 tm (.fz (.int q)) (.fz (.lst (bs.map zXW))) bs [] .no .no .no .no h1 (by simpa using h2) (by simp)
   refine⟨ps,⟨by rw[q1];simpa using h3,q2⟩,?_⟩
   unfold tP
   rw[vE (d:=zC t) ((vD rfl rfl).trans te)]
   unfold pH
   rw[zA (ρ':=[.fz (.int q),.fz (.lst (bs.map zXW)),.fz (zC t),.ow [],.no,.no,.no,.no]) rfl]
   unfold pB
   have fr:tU (iL (eV 1)) (gT (zN (gN 4) (zN (gN 5) (zN (gN 6) xS)))) vQ [.fz (.int q),.fz (.lst (bs.map zXW)),.fz (zC t),.ow [],.no,.no,.no,.no]=some (.nx [.fz (.int q),.fz (.lst (bs.map zXW)),.fz (zC t),.ow (ps.map yL),y4,y5,y6,y7]):=q3
   rw[zA fr]
   rfl
 have okb:∀x∈bK,x.1∈zD 2/\x.2.1∈zJ 2:=by decide +kernel
 have perm:∀t∈zJ 2,(bK.map fun x=>zG t x.1).Perm (zD 2):=by decide +kernel
 show ∃ps:List Pt,PtsOk 2 ps/\(tH [.fz (.int q),.no,.no,.no,.no,.no,.no,.no]).bind zZ5=some (ps.map yL)
 have pre:(tH [.fz (.int q),.no,.no,.no,.no,.no,.no,.no])=sQ [.fz (.int q),.fz (.lst (bK.map zXW)),.no,.no,.no,.no,.no,.no]:=by kernel_rfl
 rw[pre]
 unfold sQ
 have ht1:eB2 gEq (xK (uO (eV 0) (eC (.int 48))) (eC (.int 2))) (eC (.int 1)) [.fz (.int q),.fz (.lst (bK.map zXW)),.no,.no,.no,.no,.no,.no]=some (decide (q / 48 % 2=1)):=uQ (yN (yN rfl rfl rfl) rfl rfl)
 by_cases hb:q / 48 % 2=1
 · obtain⟨ps,g1,g2⟩:=go bK.reverse (fun x hx=>okb x (Uc.mp hx)) (by decide) (by rw[Uv];exact(List.reverse_perm _).trans (perm t tm))
   refine⟨ps,g1,?_⟩
   rw[zA (ρ':=[.fz (.int q),.fz (.lst (bK.reverse.map zXW)),.no,.no,.no,.no,.no,.no]) ((xZ ht1).trans (by rw[Qt hb];rfl))]
   exact g2
 · obtain⟨ps,g1,g2⟩:=go bK okb (by decide) (perm t tm)
   refine⟨ps,g1,?_⟩
   rw[zA (ρ':=[.fz (.int q),.fz (.lst (bK.map zXW)),.no,.no,.no,.no,.no,.no]) ((xZ ht1).trans (by rw[Qf hb];rfl))]
   exact g2
theorem zPv {n:Nat}(hn:n=2∨n=3)(cell:Int):∃ps:List Pt,PtsOk n ps/\kH [.int n,.int cell]=some (ps.map yL):=by
 have e1:=zYU cell 0 40692 (by decide) (by decide) (by decide) (by decide)
 generalize zYb cell 0 40692=r at e1
 show ∃ps:List Pt,PtsOk n ps/\(rT [.fz (.int n),.fz (.int cell),.no]).bind zZ5=some (ps.map yL)
 unfold rT
 rw[vE (d:=.int r) ((sI rfl rfl rfl).trans e1)]
 dsimp only[List.set]
 unfold nH
 have tt:zXS (eB2 gEq (eV 0) (eC (.int 2))) (eB2 gEq (xK (uO (eV 2) (eC (.int 7))) (eC (.int 4))) (eC (.int 0))) [.fz (.int n),.fz (.int cell),.fz (.int r)]=some (decide ((n:Int)=2)&&decide (r / 7 % 4=0)):=by
   unfold zXS
   rw[show eB2 gEq (eV 0) (eC (.int 2)) [.fz (.int n),.fz (.int cell),.fz (.int r)]=some (decide ((n:Int)=2)) from rfl,uQ (x:=r / 7 % 4) (yN (yN rfl rfl rfl) rfl rfl),Qr]
   cases decide ((n:Int)=2)<;>rfl
 by_cases hf:(decide ((n:Int)=2)&&decide (r / 7 % 4=0))=true
 · rw[Qn] at hf
   have h2:n=2:=by have:=Te hf.1;omega
   subst h2
   obtain⟨ps,ok,e⟩:=zRN (r / 28)
   refine⟨ps,ok,?_⟩
   rw[hf.1,hf.2] at tt
   have st:sIf (zXS (eB2 gEq (eV 0) (eC (.int 2))) (eB2 gEq (xK (uO (eV 2) (eC (.int 7))) (eC (.int 4))) (eC (.int 0)))) (sJ (wD 1 tT (zY (uO (eV 2) (eC (.int 28))) zR))) xH [.fz (.int ((2:Nat):Nat)),.fz (.int cell),.fz (.int r)]=some (Out.rl (ps.map yL)):=by
     refine(xZ tt).trans ?_
     show sJ _ _=_
     unfold sJ wD
     rw[yF (d:=.int (r / 28)) (yN rfl rfl rfl) rfl,Qr]
     show(tT [.int (r / 28)]).map _=_
     rw[e];rfl
   unfold zO
   rw[st]
   rfl
 · have hf':(decide ((n:Int)=2)&&decide (r / 7 % 4=0))=false:=by simpa using hf
   rw[hf'] at tt
   rw[zA (ρ':=[.fz (.int n),.fz (.int cell),.fz (.int r)]) ((xZ tt).trans rfl)]
   unfold nQ
   have t0:eB2 gEq (xK (eV 2) (eC (.int 4))) (eC (.int 0)) [.fz (.int n),.fz (.int cell),.fz (.int r)]=some (decide (r % 4=0)):=uQ (yN rfl rfl rfl)
   have t1:eB2 gEq (xK (eV 2) (eC (.int 4))) (eC (.int 1)) [.fz (.int n),.fz (.int cell),.fz (.int r)]=some (decide (r % 4=1)):=uQ (yN rfl rfl rfl)
   by_cases h0:r % 4=0
   · obtain⟨ps,ok,e⟩:=zOM hn cell
     refine⟨ps,ok,?_⟩
     rw[show zO (sIf _ (sJ (wD 2 oQ (zY (eV 0) (zY (eV 1) zR)))) xH) rV _=some (.rl (ps.map yL)) from by
       unfold zO
       rw[show sIf _ _ _ _=some (Out.rl (ps.map yL)) from(xZ t0).trans (by rw[Qt h0,Qx rfl];unfold sJ;rw[fK rfl rfl,e];rfl)]
       rfl]
     rfl
   · rw[zA (ρ':=[.fz (.int n),.fz (.int cell),.fz (.int r)]) ((xZ t0).trans (by rw[Qf h0];rfl))]
     unfold rV
     by_cases h1:r % 4=1
     · obtain⟨ps,ok,e⟩:=zXo hn (r / 4)
       refine⟨ps,ok,?_⟩
       rw[show zO (sIf _ (sJ (wD 2 tK (zY (eV 0) (zY (uO (eV 2) (eC (.int 4))) zR)))) xH) nB _=some (.rl (ps.map yL)) from by
         unfold zO
         rw[show sIf _ _ _ _=some (Out.rl (ps.map yL)) from(xZ t1).trans (by rw[Qt h1,Qx rfl];unfold sJ;rw[fK rfl (yN (i:=r) (j:=4) rfl rfl rfl),e];rfl)]
         rfl]
       rfl
     · obtain⟨ps,ok,e⟩:=zTZ hn cell
       refine⟨ps,ok,?_⟩
       rw[zA (ρ':=[.fz (.int n),.fz (.int cell),.fz (.int r)]) ((xZ t1).trans (by rw[Qf h1];rfl))]
       unfold nB sJ
       rw[fK rfl rfl,e]
       rfl
end My
end
namespace My
open PySem L2
def zTl (c:List Int):Str:=⟨(c.map fun i=>if i=1 then 49 else 48).toArray⟩
def sH (t:Tn):Str:=⟨(t.flatMap fun p=>[if p.2=1 then 45 else 43,if p.1=0 then 120 else if p.1=1 then 121 else 122]).toArray⟩
def wB (p:Pt):List Str:="part"::zTl p.c::sH p.t::(if p.b=true then ["back"] else [])
def wV (p:Pt):Str:=Str.join " " (wB p)
def iE (c:List Int)(t:Tn):Str:=Str.join " " ["part",zTl c,sH t]
def prs (n:Nat):List (List Int×Tn):=(zD n).flatMap fun c=>(zJ n).map fun t=>(c,t)
theorem oP {n:Nat}{c:List Int}{t:Tn}(hc:c∈zD n)(ht:t∈zJ n):(c,t)∈prs n:=Yl.mpr ⟨c,hc,Wx.mpr ⟨t,ht,rfl⟩⟩
theorem jD {α β:Type}{f g:α->β}{l:List α}(h:l.map f=l.map g){x:α}(hx:x∈l):f x=g x:=List.map_inj_left.mp h x hx
def wW (k:Nat):List (List Int×Tn):=(((zD 3).drop (2*k)).take 2).flatMap fun c=>(zJ 3).map fun t=>(c,t)
theorem zXy:prs 3=wW 0++wW 1++wW 2++wW 3:=by kernel_rfl
theorem zNN {β:Type}{f g:List Int×Tn->β}(h0:(wW 0).map f=(wW 0).map g)(h1:(wW 1).map f=(wW 1).map g)(h2:(wW 2).map f=(wW 2).map g)(h3:(wW 3).map f=(wW 3).map g):(prs 3).map f=(prs 3).map g:=by
 rw[zXy,Wl,Wl,Wl,Wl,Wl,Wl,h0,h1,h2,h3]
theorem zMq (x0 x1 x2 x3 x4 x6 x7 x8:B):(zJ 2).map (fun t=>rH (eC (.str "")) (yA (iT (eV 5)) 2 [] (gT (zN (gN 0) (zN (gN 1) xS))) tOK (xO (eIx (eC (.str "+-")) (eV 1)) (eIx (eC (.str "xyz")) (eV 0)))) [x0,x1,x2,x3,x4,.fz (zC t),x6,x7,x8])=(zJ 2).map fun t=>some (.str (sH t)):=by kernel_rfl
theorem zLM (x0 x1 x2 x3 x4 x6 x7 x8:B):(zJ 3).map (fun t=>rH (eC (.str "")) (yA (iT (eV 5)) 2 [] (gT (zN (gN 0) (zN (gN 1) xS))) tOK (xO (eIx (eC (.str "+-")) (eV 1)) (eIx (eC (.str "xyz")) (eV 0)))) [x0,x1,x2,x3,x4,.fz (zC t),x6,x7,x8])=(zJ 3).map fun t=>some (.str (sH t)):=by kernel_rfl
theorem zKW (x0 x1 x2 x3 x6 x8:B):(prs 2).map (fun q=>xO (xO (xO (eC (.str "part ")) (rH (eC (.str "")) (yA (iT (eV 4)) 1 [] (gN 0) tOK (pU (eV 0))))) (eC (.str " "))) (eV 7) [x0,x1,x2,x3,.fz (yS q.1),.fz (zC q.2),x6,.fz (.str (sH q.2)),x8])=(prs 2).map fun q=>some (.str (iE q.1 q.2)):=by kernel_rfl
theorem zNG (x0 x1 x2 x3 x6 x8:B):(wW 0).map (fun q=>xO (xO (xO (eC (.str "part ")) (rH (eC (.str "")) (yA (iT (eV 4)) 1 [] (gN 0) tOK (pU (eV 0))))) (eC (.str " "))) (eV 7) [x0,x1,x2,x3,.fz (yS q.1),.fz (zC q.2),x6,.fz (.str (sH q.2)),x8])=(wW 0).map (fun q=>some (.str (iE q.1 q.2))):=by kernel_rfl
theorem zOv (x0 x1 x2 x3 x6 x8:B):(wW 1).map (fun q=>xO (xO (xO (eC (.str "part ")) (rH (eC (.str "")) (yA (iT (eV 4)) 1 [] (gN 0) tOK (pU (eV 0))))) (eC (.str " "))) (eV 7) [x0,x1,x2,x3,.fz (yS q.1),.fz (zC q.2),x6,.fz (.str (sH q.2)),x8])=(wW 1).map (fun q=>some (.str (iE q.1 q.2))):=by kernel_rfl
theorem zN4 (x0 x1 x2 x3 x6 x8:B):(wW 2).map (fun q=>xO (xO (xO (eC (.str "part ")) (rH (eC (.str "")) (yA (iT (eV 4)) 1 [] (gN 0) tOK (pU (eV 0))))) (eC (.str " "))) (eV 7) [x0,x1,x2,x3,.fz (yS q.1),.fz (zC q.2),x6,.fz (.str (sH q.2)),x8])=(wW 2).map (fun q=>some (.str (iE q.1 q.2))):=by kernel_rfl
theorem zOa (x0 x1 x2 x3 x6 x8:B):(wW 3).map (fun q=>xO (xO (xO (eC (.str "part ")) (rH (eC (.str "")) (yA (iT (eV 4)) 1 [] (gN 0) tOK (pU (eV 0))))) (eC (.str " "))) (eV 7) [x0,x1,x2,x3,.fz (yS q.1),.fz (zC q.2),x6,.fz (.str (sH q.2)),x8])=(wW 3).map (fun q=>some (.str (iE q.1 q.2))):=by kernel_rfl
theorem zKD (x0 x1 x2 x3 x6 x8:B):(prs 3).map (fun q=>xO (xO (xO (eC (.str "part ")) (rH (eC (.str "")) (yA (iT (eV 4)) 1 [] (gN 0) tOK (pU (eV 0))))) (eC (.str " "))) (eV 7) [x0,x1,x2,x3,.fz (yS q.1),.fz (zC q.2),x6,.fz (.str (sH q.2)),x8])=(prs 3).map (fun q=>some (.str (iE q.1 q.2))):=zNN (zNG x0 x1 x2 x3 x6 x8) (zOv x0 x1 x2 x3 x6 x8) (zN4 x0 x1 x2 x3 x6 x8) (zOa x0 x1 x2 x3 x6 x8)
theorem zLg (r:Int)(b:Bool):b=true∨b=false->(prs 2).map (fun q=>xR [.lst ((wB ⟨q.1,q.2,b⟩).map .str),.int 2,.int r])=(prs 2).map fun q=>some (yD ⟨q.1,q.2,b⟩):=by
 rintro(rfl | rfl)<;>kernel_rfl
theorem zNI (r:Int):(wW 0).map (fun q=>xR [.lst ((wB ⟨q.1,q.2,true⟩).map .str),.int 3,.int r])=(wW 0).map (fun q=>some (yD ⟨q.1,q.2,true⟩)):=by kernel_rfl
theorem zNg (r:Int):(wW 1).map (fun q=>xR [.lst ((wB ⟨q.1,q.2,true⟩).map .str),.int 3,.int r])=(wW 1).map (fun q=>some (yD ⟨q.1,q.2,true⟩)):=by kernel_rfl
theorem zNM (r:Int):(wW 2).map (fun q=>xR [.lst ((wB ⟨q.1,q.2,true⟩).map .str),.int 3,.int r])=(wW 2).map (fun q=>some (yD ⟨q.1,q.2,true⟩)):=by kernel_rfl
theorem zOq (r:Int):(wW 3).map (fun q=>xR [.lst ((wB ⟨q.1,q.2,true⟩).map .str),.int 3,.int r])=(wW 3).map (fun q=>some (yD ⟨q.1,q.2,true⟩)):=by kernel_rfl
theorem zNp (r:Int):(wW 0).map (fun q=>xR [.lst ((wB ⟨q.1,q.2,false⟩).map .str),.int 3,.int r])=(wW 0).map (fun q=>some (yD ⟨q.1,q.2,false⟩)):=by kernel_rfl
theorem zN2 (r:Int):(wW 1).map (fun q=>xR [.lst ((wB ⟨q.1,q.2,false⟩).map .str),.int 3,.int r])=(wW 1).map (fun q=>some (yD ⟨q.1,q.2,false⟩)):=by kernel_rfl
theorem zNr (r:Int):(wW 2).map (fun q=>xR [.lst ((wB ⟨q.1,q.2,false⟩).map .str),.int 3,.int r])=(wW 2).map (fun q=>some (yD ⟨q.1,q.2,false⟩)):=by kernel_rfl
theorem zOh (r:Int):(wW 3).map (fun q=>xR [.lst ((wB ⟨q.1,q.2,false⟩).map .str),.int 3,.int r])=(wW 3).map (fun q=>some (yD ⟨q.1,q.2,false⟩)):=by kernel_rfl
theorem zKK (r:Int)(b:Bool):b=true∨b=false->(prs 3).map (fun q=>xR [.lst ((wB ⟨q.1,q.2,b⟩).map .str),.int 3,.int r])=(prs 3).map (fun q=>some (yD ⟨q.1,q.2,b⟩)):=by
 rintro(rfl | rfl)
 · exact zNN (zNI r) (zNg r) (zNM r) (zOq r)
 · exact zNN (zNp r) (zN2 r) (zNr r) (zOh r)
theorem zL9 (x0 x1 x2 x3 x4 x5 x6 x7:B):(prs 2).map (fun q=>xO (eV 8) (eC (.str " back")) [x0,x1,x2,x3,x4,x5,x6,x7,.fz (.str (iE q.1 q.2))])=(prs 2).map fun q=>some (.str (wV ⟨q.1,q.2,true⟩)):=by kernel_rfl
theorem zQa (x0 x1 x2 x3 x4 x5 x6 x7:B):(wW 0).map (fun q=>xO (eV 8) (eC (.str " back")) [x0,x1,x2,x3,x4,x5,x6,x7,.fz (.str (iE q.1 q.2))])=(wW 0).map (fun q=>some (.str (wV ⟨q.1,q.2,true⟩))):=by kernel_rfl
theorem zPI (x0 x1 x2 x3 x4 x5 x6 x7:B):(wW 1).map (fun q=>xO (eV 8) (eC (.str " back")) [x0,x1,x2,x3,x4,x5,x6,x7,.fz (.str (iE q.1 q.2))])=(wW 1).map (fun q=>some (.str (wV ⟨q.1,q.2,true⟩))):=by kernel_rfl
theorem zOP (x0 x1 x2 x3 x4 x5 x6 x7:B):(wW 2).map (fun q=>xO (eV 8) (eC (.str " back")) [x0,x1,x2,x3,x4,x5,x6,x7,.fz (.str (iE q.1 q.2))])=(wW 2).map (fun q=>some (.str (wV ⟨q.1,q.2,true⟩))):=by kernel_rfl
theorem zOX (x0 x1 x2 x3 x4 x5 x6 x7:B):(wW 3).map (fun q=>xO (eV 8) (eC (.str " back")) [x0,x1,x2,x3,x4,x5,x6,x7,.fz (.str (iE q.1 q.2))])=(wW 3).map (fun q=>some (.str (wV ⟨q.1,q.2,true⟩))):=by kernel_rfl
theorem zM0 (x0 x1 x2 x3 x4 x5 x6 x7:B):(prs 3).map (fun q=>xO (eV 8) (eC (.str " back")) [x0,x1,x2,x3,x4,x5,x6,x7,.fz (.str (iE q.1 q.2))])=(prs 3).map (fun q=>some (.str (wV ⟨q.1,q.2,true⟩))):=zNN (zQa x0 x1 x2 x3 x4 x5 x6 x7) (zPI x0 x1 x2 x3 x4 x5 x6 x7) (zOP x0 x1 x2 x3 x4 x5 x6 x7) (zOX x0 x1 x2 x3 x4 x5 x6 x7)
theorem zK3 (c:List Int)(t:Tn):wV ⟨c,t,false⟩=iE c t:=by unfold wV iE wB;rfl
section
variable {n:Nat} (hn:n=2∨n=3)
include hn
theorem zRa (p:Pt)(hc:p.c∈zD n)(ht:p.t∈zJ n)(x0 x1 x2 x7 x8:B)(rows:List D)(hl:rows.length<=1000) :
   vP [x0,x1,x2,.ow rows,.fz (yS p.c),.fz (zC p.t),.fz (.bl p.b),x7,x8]=some (.nx [x0,x1,x2,.ow (rows++[.str (wV p)]),.fz (yS p.c),.fz (zC p.t),.fz (.bl p.b),.fz (.str (sH p.t)),.fz (.str (wV p))]):=by
 obtain⟨c,t,b⟩:=p
 have hA:rH (eC (.str "")) (yA (iT (eV 5)) 2 [] (gT (zN (gN 0) (zN (gN 1) xS))) tOK (xO (eIx (eC (.str "+-")) (eV 1)) (eIx (eC (.str "xyz")) (eV 0)))) [x0,x1,x2,.ow rows,.fz (yS c),.fz (zC t),.fz (.bl b),x7,x8]=some (.str (sH t)):=by
   rcases hn with rfl | rfl
   · have h:=jD (zMq x0 x1 x2 (.ow rows) (.fz (yS c)) (.fz (.bl b)) x7 x8) ht;exact h
   · have h:=jD (zLM x0 x1 x2 (.ow rows) (.fz (yS c)) (.fz (.bl b)) x7 x8) ht;exact h
 have hB:xO (xO (xO (eC (.str "part ")) (rH (eC (.str "")) (yA (iT (eV 4)) 1 [] (gN 0) tOK (pU (eV 0))))) (eC (.str " "))) (eV 7) [x0,x1,x2,.ow rows,.fz (yS c),.fz (zC t),.fz (.bl b),.fz (.str (sH t)),x8]=some (.str (iE c t)):=by
   rcases hn with rfl | rfl
   · have h:=jD (zKW x0 x1 x2 (.ow rows) (.fz (.bl b)) x8) (oP hc ht);exact h
   · have h:=jD (zKD x0 x1 x2 (.ow rows) (.fz (.bl b)) x8) (oP hc ht);exact h
 have hC:xO (eV 8) (eC (.str " back")) [x0,x1,x2,.ow rows,.fz (yS c),.fz (zC t),.fz (.bl b),.fz (.str (sH t)),.fz (.str (iE c t))]=some (.str (wV ⟨c,t,true⟩)):=by
   rcases hn with rfl | rfl
   · have h:=jD (zL9 x0 x1 x2 (.ow rows) (.fz (yS c)) (.fz (zC t)) (.fz (.bl b)) (.fz (.str (sH t)))) (oP hc ht);exact h
   · have h:=jD (zM0 x0 x1 x2 (.ow rows) (.fz (yS c)) (.fz (zC t)) (.fz (.bl b)) (.fz (.str (sH t)))) (oP hc ht);exact h
 unfold vP
 rw[vE hA]
 dsimp only[List.set]
 unfold nI
 rw[vE hB]
 dsimp only[List.set]
 unfold nK
 rw[zA (ρ':=[x0,x1,x2,.ow rows,.fz (yS c),.fz (zC t),.fz (.bl b),.fz (.str (sH t)),.fz (.str (wV ⟨c,t,b⟩))])]
 · unfold gL
   rw[zYH (d:=.str (wV ⟨c,t,b⟩)) (ds:=rows) rfl rfl (Wi hl (by decide))]
   rfl
 · cases b with
   | false =>
     rw[xZ (b:=false) rfl,Wy Qc,zK3]
   | true =>
     rw[xZ (b:=true) rfl,Qx rfl]
     unfold yY
     rw[hC]
     rfl
theorem zXM (x0 x1 x2:B):∀(ps:List Pt) (x4 x5 x6 x7 x8:B) (rows:List D),(∀p∈ps,p.c∈zD n/\p.t∈zJ n)->rows.length+ps.length<=1000 ->
   ∃y4 y5 y6 y7 y8,sD (gT (zN (gN 4) (zN (gN 5) (zN (gN 6) xS)))) vP (ps.map yL) [x0,x1,x2,.ow rows,x4,x5,x6,x7,x8]=some (.nx [x0,x1,x2,.ow (rows++ps.map fun p=>.str (wV p)),y4,y5,y6,y7,y8])
 | [],x4,x5,x6,x7,x8,rows,_,_=>⟨x4,x5,x6,x7,x8,by rw[Ro,Ro,Wa,sD]⟩
 | p::r,x4,x5,x6,x7,x8,rows,h,hl=>by
   have hp:=h p Qh
   rw[Qi] at hl
   obtain⟨y4,y5,y6,y7,y8,e⟩:=zXM x0 x1 x2 r (.fz (yS p.c)) (.fz (zC p.t)) (.fz (.bl p.b)) (.fz (.str (sH p.t))) (.fz (.str (wV p))) (rows++[.str (wV p)]) (fun q hq=>h q (Qd _ hq)) (by rw[Qb,Th];omega)
   refine⟨y4,y5,y6,y7,y8,?_⟩
   rw[Qj,tL (ρ1:=[x0,x1,x2,.ow rows,.fz (yS p.c),.fz (zC p.t),.fz (.bl p.b),x7,x8]) rfl (zRa hn p hp.1 hp.2 x0 x1 x2 x7 x8 rows (by omega)),e,Ra,Ia,Qj]
end
theorem zML:(" ":Str)=⟨#[32]⟩:=by decide +kernel
theorem zMS:("\n":Str)=⟨#[10]⟩:=by decide +kernel
def vI (p:Pt):Bool:=decide ((wV p).length<=30) && !(wV p).cps.toList.contains 10&&(wB p).all fun w => !w.cps.toList.contains 32
theorem zKs:((prs 2).all fun q=>vI ⟨q.1,q.2,true⟩&&vI ⟨q.1,q.2,false⟩)=true:=by kernel_rfl
theorem zM2:((wW 0).all fun q=>vI ⟨q.1,q.2,true⟩)=true:=by kernel_rfl
theorem zL1:((wW 1).all fun q=>vI ⟨q.1,q.2,true⟩)=true:=by kernel_rfl
theorem zMA:((wW 2).all fun q=>vI ⟨q.1,q.2,true⟩)=true:=by kernel_rfl
theorem zLu:((wW 3).all fun q=>vI ⟨q.1,q.2,true⟩)=true:=by kernel_rfl
theorem zM8:((wW 0).all fun q=>vI ⟨q.1,q.2,false⟩)=true:=by kernel_rfl
theorem zMk:((wW 1).all fun q=>vI ⟨q.1,q.2,false⟩)=true:=by kernel_rfl
theorem zMh:((wW 2).all fun q=>vI ⟨q.1,q.2,false⟩)=true:=by kernel_rfl
theorem zLx:((wW 3).all fun q=>vI ⟨q.1,q.2,false⟩)=true:=by kernel_rfl
theorem zJS:((prs 3).all fun q=>vI ⟨q.1,q.2,true⟩&&vI ⟨q.1,q.2,false⟩)=true:=by
 refine Qv.mpr fun q hq=>?_
 rw[zXy,Eh,Eh,Eh] at hq
 rw[Wm]
 rcases hq with((hq | hq) | hq) | hq
 · exact⟨Qv.mp zM2 q hq,Qv.mp zM8 q hq⟩
 · exact⟨Qv.mp zL1 q hq,Qv.mp zMk q hq⟩
 · exact⟨Qv.mp zMA q hq,Qv.mp zMh q hq⟩
 · exact⟨Qv.mp zLu q hq,Qv.mp zLx q hq⟩
section
variable {n:Nat} (hn:n=2∨n=3)
include hn
theorem zWj (p:Pt)(hc:p.c∈zD n)(ht:p.t∈zJ n):vI p=true:=by
 obtain⟨c,t,b⟩:=p
 have h:(vI ⟨c,t,true⟩&&vI ⟨c,t,false⟩)=true:=by
   rcases hn with rfl | rfl
   · have h:=Qv.mp zKs _ (oP hc ht);exact h
   · have h:=Qv.mp zJS _ (oP hc ht);exact h
 have h:=Wm.mp h
 cases b with
 | true=>exact h.1
 | false=>exact h.2
theorem zSG (p:Pt)(hc:p.c∈zD n)(ht:p.t∈zJ n):(wV p).length<=30:=by
 have h:=zWj hn p hc ht
 unfold vI at h
 rw[Wm,Wm] at h
 exact Te h.1.1
theorem zQo (p:Pt)(hc:p.c∈zD n)(ht:p.t∈zJ n):jR 10 (wV p):=by
 have h:=zWj hn p hc ht
 unfold vI at h
 rw[Wm,Wm] at h
 have h:=h.1.2
 intro z
 rw[Iw.mpr z] at h
 exact absurd h (by decide)
theorem zSk (p:Pt)(hc:p.c∈zD n)(ht:p.t∈zJ n):fW (.str (wV p)) (.str " ")=some ((wB p).map .str):=by
 have h:=zWj hn p hc ht
 unfold vI at h
 rw[Wm,Wm] at h
 have hw:∀w∈wB p,jR 32 w:=fun w hw z=>by
   have q:=Qv.mp h.2 w hw
   rw[Iw.mpr z] at q
   exact absurd q (by decide)
 have e:Txt.split (wV p) ⟨#[32]⟩=wB p:=by
   unfold wV
   rw[zML]
   exact zZe 32 (wB p) hw (by unfold wB;exact Ux _ _)
 have hl:=Te h.1.1
 rw[zML]
 show(if 1<=(⟨#[32]⟩:Str).length/\(wV p).length<=100000 then some ((Txt.split (wV p) ⟨#[32]⟩).map D.str) else none)=_
 rw[Qx ⟨Qk 1,by omega⟩,e]
end
theorem zUN (R:List Str)(i:Nat)(z:Str)(ws:List D)(hz:R[i]?=some z)(hs:fW (.str z) (.str " ")=some ws):tZ [.lst (R.map .str),.int ((i:Int)+1)]=some ws:=by
 have hi:i < R.length:=by
   rcases Nat.lt_or_ge i R.length with h | h
   · exact h
   · rw[Rx h] at hz;cases hz
 show(qF [.fz (.lst (R.map .str)),.fz (.int ((i:Int)+1))]).bind zZ5=some ws
 unfold qF
 have t:eB2 gGt (eV 1) (wA (eV 0)) [.fz (.lst (R.map .str)),.fz (.int ((i:Int)+1))]=some (decide ((((R.map D.str).length:Nat):Int) < (i:Int)+1)):=rfl
 rw[zA (ρ':=[.fz (.lst (R.map .str)),.fz (.int ((i:Int)+1))]) ((xZ t).trans (by rw[Qg,Qf (by omega)];rfl))]
 unfold fA sJ jY
 have e1:wO (eV 1) (eC (.int 1)) [.fz (.lst (R.map .str)),.fz (.int ((i:Int)+1))]=some (.int (i:Int)):=by
   refine(yN (i:=(i:Int)+1) (j:=1) rfl rfl rfl).trans ?_
   show some (D.int ((i:Int)+1 - 1))=_
   rw[show(i:Int)+1 - 1=i from by omega]
 have e2:eIx (eV 0) (wO (eV 1) (eC (.int 1))) [.fz (.lst (R.map .str)),.fz (.int ((i:Int)+1))]=some (.str z):=by
   unfold eIx
   rw[e1]
   show atI (R.map D.str) (i:Int)=_
   unfold atI
   rw[Qg]
   have:ixN R.length (i:Int)=some i:=by unfold ixN;rw[Qx (by omega),Qx (by omega)];rfl
   rw[this]
   show(R.map D.str)[i]?=_
   rw[Wu,hz];rfl
 rw[e2]
 show(((fW (.str z) (.str " "))).map Out.rl).bind zZ5=_
 rw[hs]
 rfl
def kC (xs:List Int):KT:=.tup (xs.map .int)
theorem zX9 (n:Nat):∀xs:List Int,cO (ktD n) (xs.map .int)=some (xs.map .int)
 | []=>rfl
 | x::r=>by
   have e:ktD n (.int x)=some (.int x):=by cases n<;>rfl
   rw[Qj,cO,e,zX9 n r]
   rfl
theorem zOL (xs:List Int):zQ6 (yS xs)=some (kC xs):=by
 show(cO (ktD 7) (xs.map .int)).map KT.tup=_
 rw[zX9]
 rfl
theorem zKh (xs:List Int):ktD 8 (yS xs)=some (kC xs):=zOL xs
theorem zMf {xs ys:List Int}(h:kC xs=kC ys):xs=ys:=by
 unfold kC at h
 injection h with h
 exact(List.map_inj_right (fun a b e=>by injection e)).mp h
def vZ (ps:List Pt):List (D×D):=ps.map fun p=>(yS p.c,.bl true)
theorem zQU (ps:List Pt):(vZ ps).map (fun p=>ktD 8 p.1)=ps.map fun p=>some (kC p.c):=by
 unfold vZ
 rw[Yu]
 exact Ti fun p _=>zKh p.c
theorem zV3 {ps:List Pt}{c:List Int}(h:c∉ps.map (·.c)):some (kC c)∉(vZ ps).map fun p=>ktD 8 p.1:=by
 rw[zQU]
 intro z
 obtain⟨p,hp,e⟩:=Wx.mp z
 exact h (Wx.mpr ⟨p,hp,zMf (Wp e)⟩)
section
variable {n:Nat} (hn:n=2∨n=3)
include hn
theorem zOs (p:Pt)(hc:p.c∈zD n)(ht:p.t∈zJ n)(r:Int):xR [.lst ((wB p).map .str),.int n,.int r]=some (yD p):=by
 obtain⟨c,t,b⟩:=p
 have hb:b=true∨b=false:=by cases b<;>simp
 rcases hn with rfl | rfl
 · have h:=jD (zLg r b hb) (oP hc ht);exact h
 · have h:=jD (zKK r b hb) (oP hc ht);exact h
theorem zRh (R:List Str)(i:Nat)(p:Pt)(hc:p.c∈zD n)(ht:p.t∈zJ n)(hz:R[i]?=some (wV p))(acc:List Pt)(ha:acc.length<=100)(hnew:p.c∉acc.map (·.c))(a b:D)(x7:B) :
   vS [.fz (.lst (R.map .str)),.fz a,.fz b,.fz (.int n),.ow (acc.map yD),.od (vZ acc),.fz (.int ((i:Int)+1)),x7] =
     some (.nx [.fz (.lst (R.map .str)),.fz a,.fz b,.fz (.int n),.ow ((acc++[p]).map yD),.od (vZ (acc++[p])),.fz (.int ((i:Int)+1)),.fz (yD p)]):=by
 have hw:=zUN R i _ _ hz (zSk hn p hc ht)
 have h1:zL 3 xR (zY (eL (wD 2 tZ (zY (eV 0) (zY (eV 6) zR)))) (zY (eV 3) (zY (eV 6) zR))) [.fz (.lst (R.map .str)),.fz a,.fz b,.fz (.int n),.ow (acc.map yD),.od (vZ acc),.fz (.int ((i:Int)+1)),x7]=some (yD p):=by
   refine(sI (x:=.lst ((wB p).map .str)) (y:=.int n) (z:=.int ((i:Int)+1)) ?_ rfl rfl).trans (zOs hn p hc ht _)
   unfold eL
   rw[fK rfl rfl,hw]
   rfl
 have hf:∀ρ:List B,eV 7 ρ=some (yD p)->wX "Part" "corner" (eV 7) ρ=some (yS p.c):=fun ρ h=>zVv ρ (eV 7) p h
 unfold vS
 rw[vE h1]
 dsimp only[List.set]
 unfold qV
 have t:zWJ 5 (wX "Part" "corner" (eV 7)) [.fz (.lst (R.map .str)),.fz a,.fz b,.fz (.int n),.ow (acc.map yD),.od (vZ acc),.fz (.int ((i:Int)+1)),.fz (yD p)]=some false:=by
   unfold zWJ
   rw[hf _ rfl,Qr,zOL,Qr]
   show some (decide (some (kC p.c)∈(vZ acc).map fun p=>ktD 8 p.1))=_
   rw[Qf (zV3 hnew)]
 rw[zA (ρ':=[.fz (.lst (R.map .str)),.fz a,.fz b,.fz (.int n),.ow (acc.map yD),.od (vZ acc),.fz (.int ((i:Int)+1)),.fz (yD p)]) ((xZ t).trans rfl)]
 unfold qX
 rw[zA (ρ':=[.fz (.lst (R.map .str)),.fz a,.fz b,.fz (.int n),.ow (acc.map yD),.od (vZ (acc++[p])),.fz (.int ((i:Int)+1)),.fz (yD p)])]
 · unfold kZ
   rw[zYH (d:=yD p) (ds:=acc.map yD) rfl rfl (by rw[Qg];omega)]
   rw[Wl,Qj,Ro]
   rfl
 · unfold bH
   rw[show eC (.bl true) _=some (D.bl true) from rfl,Qr,hf _ rfl,Qr,zOL,Qr]
   show(if (vZ acc).length<=lim/\_ then _ else none)=_
   rw[Qx]
   · unfold vZ
     rw[Wl]
     rfl
   · refine⟨?_,?_,?_⟩
     · unfold vZ;rw[Qg];show acc.length<=100000;omega
     · rfl
     · exact zV3 hnew
theorem zXz (R:List Str)(a b:D):∀(r acc:List Pt) (k:Nat) (x6 x7:B),(∀(i:Nat) (p:Pt),r[i]?=some p->R[k+i]?=some (wV p))->(∀p∈r,p.c∈zD n/\p.t∈zJ n)->((acc++r).map (·.c)).Nodup->acc.length+r.length<=100 ->
   ∃y6 y7,sD (gN 6) vS ((List.range r.length).map fun(i:Nat)=>D.int (((k+i:Nat):Int)+1)) [.fz (.lst (R.map .str)),.fz a,.fz b,.fz (.int n),.ow (acc.map yD),.od (vZ acc),x6,x7] =
     some (.nx [.fz (.lst (R.map .str)),.fz a,.fz b,.fz (.int n),.ow ((acc++r).map yD),.od (vZ (acc++r)),y6,y7])
 | [],acc,k,x6,x7,_,_,_,_=>⟨x6,x7,by rw[Re,List.range_zero,Ro,Wa,sD]⟩
 | p::r,acc,k,x6,x7,hR,ok,nd,hl=>by
   rw[Qi] at hl
   have hp:=ok p Qh
   have hnew:p.c∉acc.map (·.c):=by
     rw[Wl,Qj] at nd
     intro z
     exact(Yh.mp nd).2.2 _ z _ Qh rfl
   have s:=zRh hn R k p hp.1 hp.2 (by have h:=hR 0 p rfl;exact h) acc (by omega) hnew a b x7
   obtain⟨y6,y7,e⟩:=zXz R a b r (acc++[p]) (k+1) (.fz (.int ((k:Int)+1))) (.fz (yD p)) (fun i q hq=>by have h:=hR (i+1) q hq;rw[show k+1+i=k+(i+1) from by omega];exact h) (fun q hq=>ok q (Qd _ hq)) (by rw[Ra,Ia];exact nd) (by rw[Qb,Th];omega)
   refine⟨y6,y7,?_⟩
   rw[Qi,List.range_succ_eq_map,Qj,Yu]
   rw[tL (ρ1:=[.fz (.lst (R.map .str)),.fz a,.fz b,.fz (.int n),.ow (acc.map yD),.od (vZ acc),.fz (.int ((k:Int)+1)),x7]) rfl s]
   rw[Ra,Ia] at e
   rw[←e]
   congr 1
   refine Ti fun i _=>?_
   show D.int (((k+(i+1):Nat):Int)+1)=D.int (((k+1+i:Nat):Int)+1)
   rw[show k+1+i=k+(i+1) from by omega]
end
theorem zY7 {i:Nat}{f:Ef}{ρ:List B}{d:D}(h:f ρ=some d):yY i f ρ=some (.nx (ρ.set i (.fz d))):=by unfold yY;rw[h];rfl
theorem iW {f:Sf}{y:Ef}{ρ ρ':List B}(h:f ρ=some (.nx ρ')):zXT zZp f y ρ=y ρ':=by unfold zXT zZp;rw[h];rfl
def zUY (n:Nat)(j:Bool):List Str:=["curve","fold",if j=true then "joined" else "loose",if n=2 then "2" else "3"]
def wN (n:Nat)(j:Bool):Str:=Str.join " " (zUY n j)
theorem zTV {n:Nat}(hn:n=2∨n=3)(j:Bool):fW (.str (wN n j)) (.str " ")=some ((zUY n j).map .str):=by
 rcases hn with rfl | rfl<;>cases j<;>kernel_rfl
theorem zRO {n:Nat}(hn:n=2∨n=3)(j:Bool):oA [.lst ((zUY n j).map .str)]=some (.tup [.str "fold",.bl j,.int n]):=by
 rcases hn with rfl | rfl<;>cases j<;>kernel_rfl
theorem zQ9 {n:Nat}(hn:n=2∨n=3):fZ [.int n,.int 1]=some (.int (2^n)):=by
 rcases hn with rfl | rfl<;>kernel_rfl
section
variable {n:Nat} (hn:n=2∨n=3) {ps:List Pt} (ok:PtsOk n ps)
include hn ok
theorem zNB (R:List Str)(j:Bool)(h0:R[0]?=some (wN n j))(hR:∀(i:Nat) (p:Pt),ps[i]?=some p->R[1+i]?=some (wV p)):sW [.lst (R.map .str)]=some (zM n j ps):=by
 have hw:=zUN R 0 _ _ h0 (zTV hn j)
 have hlen:=ok.len
 have hcs:∀p∈ps,p.c∈zD n/\p.t∈zJ n:=fun p hp=>⟨ok.perm.mem_iff.mp (Wx.mpr ⟨p,hp,rfl⟩),ok.turn p hp⟩
 have hnd:((([]:List Pt)++ps).map (·.c)).Nodup:=by rw[Eo];exact ok.perm.nodup_iff.mpr (zYX hn)
 have hs:=ok.small hn
 obtain⟨y6,y7,e⟩:=zXz hn R (.str "fold") (.bl j) ps [] 1 .no .no hR hcs hnd (by simp;omega)
 show(sS [.fz (.lst (R.map .str)),.no,.no,.no,.no,.no,.no,.no]).bind w8=_
 unfold sS
 rw[zA (ρ':=[.fz (.lst (R.map .str)),.fz (.str "fold"),.fz (.bl j),.fz (.int n),.no,.no,.no,.no]) (by
   unfold pK
   rw[show zL 1 oA (zY (eL (wD 2 tZ (zY (eV 0) (zY (eC (.int 1)) zR)))) zR) [.fz (.lst (R.map .str)),.no,.no,.no,.no,.no,.no,.no]=some (.tup [.str "fold",.bl j,.int n]) from by
     refine(pP (x:=.lst ((zUY n j).map .str)) ?_).trans (zRO hn j)
     unfold eL
     rw[fK (x:=.lst (R.map .str)) (y:=.int 1) rfl rfl,show tZ [.lst (R.map .str),.int 1]=some ((zUY n j).map .str) from hw]
     rfl]
   rfl)]
 unfold pZ
 rw[zA (ρ':=[.fz (.lst (R.map .str)),.fz (.str "fold"),.fz (.bl j),.fz (.int n),.ow [],.no,.no,.no]) rfl]
 unfold oU
 rw[zA (ρ':=[.fz (.lst (R.map .str)),.fz (.str "fold"),.fz (.bl j),.fz (.int n),.ow [],.od [],.no,.no]) rfl]
 unfold pE
 rw[zA (ρ':=[.fz (.lst (R.map .str)),.fz (.str "fold"),.fz (.bl j),.fz (.int n),.ow (ps.map yD),.od (vZ ps),y6,y7])]
 · have ea:=yF (f:=eV 1) (ρ:=[.fz (.lst (R.map .str)),.fz (.str "fold"),.fz (.bl j),.fz (.int n),.fz (.lst (ps.map yD)),.od (vZ ps),y6,y7]) (d:=.str "fold") rfl (yF (f:=eV 3) (d:=.int n) rfl (yF (f:=eV 2) (d:=.bl j) rfl (yF (f:=eV 4) (d:=.lst (ps.map yD)) (g:=zR) (ds:=[]) rfl rfl)))
   have em:=zQQ (c:="Curve") (ns:=["name","dims","joined","parts"]) (n:=4) (f:=eR) (xs:=[.str "fold",.int n,.bl j,.lst (ps.map yD)]) ea rfl rfl rfl
   have q:=zWa ((zZf "Curve" ["name","dims","joined","parts"] 4 eR (zY (eV 1) (zY (eV 3) (zY (eV 2) (zY (eV 4) zR))))) [.fz (.lst (R.map .str)),.fz (.str "fold"),.fz (.bl j),.fz (.int n),.fz (.lst (ps.map yD)),.od (vZ ps),y6,y7])
   exact q.trans em
 · unfold tU
   rw[show iR2 (eC (.int 2)) (tG (eC (.int 2)) (zL 2 fZ (zY (eV 3) (zY (eC (.int 1)) zR)))) [.fz (.lst (R.map .str)),.fz (.str "fold"),.fz (.bl j),.fz (.int n),.ow [],.od [],.no,.no]=some ((List.range ps.length).map fun(i:Nat)=>D.int (((1+i:Nat):Int)+1)) from by
     unfold iR2
     rw[show eC (.int 2) [.fz (.lst (R.map .str)),.fz (.str "fold"),.fz (.bl j),.fz (.int n),.ow [],.od [],.no,.no]=some (D.int 2) from rfl,Qr,show tG (eC (.int 2)) (zL 2 fZ (zY (eV 3) (zY (eC (.int 1)) zR))) [.fz (.lst (R.map .str)),.fz (.str "fold"),.fz (.bl j),.fz (.int n),.ow [],.od [],.no,.no]=some (D.int (2+2^n)) from yN (i:=2) (j:=2^n) rfl ((vD rfl rfl).trans (zQ9 hn)) rfl,Qr]
     rw[hlen]
     rcases hn with rfl | rfl<;>rfl]
   exact e
theorem of_eq (j:Bool)(T:Str)(hT:T=Str.join "\n" (wN n j::ps.map wV)):lN [.str T]=jJ [zM n j ps]/\gC [.str T]=jG [zM n j ps]:=by
 have hs:=ok.small hn
 have hcs:∀p∈ps,p.c∈zD n/\p.t∈zJ n:=fun p hp=>⟨ok.perm.mem_iff.mp (Wx.mpr ⟨p,hp,rfl⟩),ok.turn p hp⟩
 have hfree:∀y∈wN n j::ps.map wV,jR 10 y:=fun y hy=>by
   rcases Qz.mp hy with rfl | hy
   · rcases hn with rfl | rfl<;>cases j<;>(unfold L2.jR;decide +kernel)
   · obtain⟨p,hp,rfl⟩:=Wx.mp hy
     exact zQo hn p (hcs p hp).1 (hcs p hp).2
 have hlen:T.length<=100000:=by
   rw[hT]
   refine Wi (StrLaws.join_length_le _ _) ?_
   have h1:(wN n j).length<=30:=by rcases hn with rfl | rfl<;>cases j<;>decide +kernel
   have h2:∀l:List Pt,(∀p∈l,p∈ps)->((l.map wV).map (·.length)).sum<=30*l.length:=by
     intro l
     induction l with
     | nil=>intro _;exact Qk _
     | cons p r ih =>
       intro h
       have h3:=zSG hn p (hcs p (h p Qh)).1 (hcs p (h p Qh)).2
       have h4:=ih fun q hq=>h q (Qd _ hq)
       rw[Qj,Qj,Oo,Qi]
       omega
   have h5:=h2 ps fun _ h=>h
   have h6:("\n":Str).length=1:=by decide +kernel
   rw[Qj,Oo,Qi,Qg,h6]
   omega
 have hsp:fW (.str T) (.str "\n")=some ((wN n j::ps.map wV).map .str):=by
   rw[zMS]
   show(if 1<=(⟨#[10]⟩:Str).length/\T.length<=100000 then some ((Txt.split T ⟨#[10]⟩).map D.str) else none)=_
   rw[Qx ⟨Qk 1,hlen⟩,hT,zMS,zZe 10 _ hfree (Ux _ _)]
 have hfrom:=zNB hn ok (wN n j::ps.map wV) j rfl (fun i p hp=>by rw[show 1+i=i+1 from by omega,Wr,Wu,hp];rfl)
 have s1:yY 1 (eL (jY (eV 0) (eC (.str "\n")))) [.fz (.str T),.no,.no,.no]=some (.nx [.fz (.str T),.fz (.lst ((wN n j::ps.map wV).map .str)),.no,.no]):=zY7 (by
   unfold eL jY
   rw[show eV 0 [.fz (.str T),.no,.no,.no]=some (D.str T) from rfl,Qr,show eC (.str "\n") [.fz (.str T),.no,.no,.no]=some (D.str "\n") from rfl,Qr,hsp]
   rfl)
 have s2:yY 2 (zL 1 sW (zY (eV 1) zR)) [.fz (.str T),.fz (.lst ((wN n j::ps.map wV).map .str)),.no,.no]=some (.nx [.fz (.str T),.fz (.lst ((wN n j::ps.map wV).map .str)),.fz (zM n j ps),.no]):=zY7 ((pP rfl).trans hfrom)
 have s3:yY 3 (tG (eC (.int 1)) (wA (wX "Curve" "parts" (eV 2)))) [.fz (.str T),.fz (.lst ((wN n j::ps.map wV).map .str)),.fz (zM n j ps),.no]=some (.nx [.fz (.str T),.fz (.lst ((wN n j::ps.map wV).map .str)),.fz (zM n j ps),.fz (.int (1+(ps.length:Nat)))]):=zY7 (by
   refine(yN (i:=1) (j:=(ps.length:Nat)) rfl ?_ rfl)
   unfold wA
   rw[zZR _ (eV 2) (n:=n) (j:=j) (ps:=ps) rfl]
   show some (D.int ((ps.map yD).length:Nat))=_
   rw[Qg])
 have t:eB2 gGt (wA (eV 1)) (eV 3) [.fz (.str T),.fz (.lst ((wN n j::ps.map wV).map .str)),.fz (zM n j ps),.fz (.int (1+(ps.length:Nat)))]=some (decide ((1+(ps.length:Nat):Int) < (((wN n j::ps.map wV).map D.str).length:Nat))):=rfl
 have s4:sIf (eB2 gGt (wA (eV 1)) (eV 3)) (fun _=>none) xH [.fz (.str T),.fz (.lst ((wN n j::ps.map wV).map .str)),.fz (zM n j ps),.fz (.int (1+(ps.length:Nat)))]=some (.nx [.fz (.str T),.fz (.lst ((wN n j::ps.map wV).map .str)),.fz (zM n j ps),.fz (.int (1+(ps.length:Nat)))]):=(xZ t).trans (by rw[Qg,Qi,Qg,Qf (by omega)];rfl)
 refine⟨?_,?_⟩
 · show(qR [.fz (.str T),.no,.no,.no]).bind w8=_
   unfold qR lU lE lM fE
   rw[zA s1,zA s2,zA s3,zA s4]
   exact(zWa _).trans (pP rfl)
 · show oM [.fz (.str T),.no,.no,.no]=_
   unfold oM
   rw[iW s1,iW s2,iW s3,iW s4]
   exact pP rfl
end
theorem zV1:∀ys:List Str,zX4 (ys.map D.str)=some ys
 | []=>rfl
 | y::r=>by rw[Qj,zX4,zV1 r];rfl
section
variable {n:Nat} (hn:n=2∨n=3) {ps:List Pt} (ok:PtsOk n ps)
include hn ok
theorem zS9 (j:Bool):uA [.int n,.bl j,.lst (ps.map yL)]=some (.str (Str.join "\n" (wN n j::ps.map wV))):=by
 have hs:=ok.small hn
 have hcs:∀p∈ps,p.c∈zD n/\p.t∈zJ n:=fun p hp=>⟨ok.perm.mem_iff.mp (Wx.mpr ⟨p,hp,rfl⟩),ok.turn p hp⟩
 obtain⟨y4,y5,y6,y7,y8,e⟩:=zXM hn (.fz (.int n)) (.fz (.bl j)) (.fz (.lst (ps.map yL))) ps .no .no .no .no .no [.str (wN n j)] hcs (by rw[Th];omega)
 have h1:(wN n j).length<=30:=by rcases hn with rfl | rfl<;>cases j<;>decide +kernel
 have h2:∀l:List Pt,(∀p∈l,p∈ps)->((l.map wV).map (·.length)).sum<=30*l.length:=by
   intro l
   induction l with
   | nil=>intro _;exact Qk _
   | cons p r ih =>
     intro h
     have h3:=zSG hn p (hcs p (h p Qh)).1 (hcs p (h p Qh)).2
     have h4:=ih fun q hq=>h q (Qd _ hq)
     rw[Qj,Qj,Oo,Qi]
     omega
 have h5:=h2 ps fun _ h=>h
 have h6:("\n":Str).length=1:=by decide +kernel
 show(qI [.fz (.int n),.fz (.bl j),.fz (.lst (ps.map yL)),.no,.no,.no,.no,.no,.no]).bind w8=_
 unfold qI
 rw[zA (ρ':=[.fz (.int n),.fz (.bl j),.fz (.lst (ps.map yL)),.ow [.str (wN n j)],.no,.no,.no,.no,.no]) (by
   generalize B.fz (.lst (ps.map yL))=x2
   rcases hn with rfl | rfl<;>cases j<;>kernel_rfl)]
 unfold mE
 have e':tU (iL (eV 2)) (gT (zN (gN 4) (zN (gN 5) (zN (gN 6) xS)))) vP [.fz (.int n),.fz (.bl j),.fz (.lst (ps.map yL)),.ow [.str (wN n j)],.no,.no,.no,.no,.no]=some (.nx [.fz (.int n),.fz (.bl j),.fz (.lst (ps.map yL)),.ow ([.str (wN n j)]++ps.map fun p=>.str (wV p)),y4,y5,y6,y7,y8]):=by
   unfold tU
   rw[show iL (eV 2) [.fz (.int n),.fz (.bl j),.fz (.lst (ps.map yL)),.ow [.str (wN n j)],.no,.no,.no,.no,.no]=some (ps.map yL) from rfl,Qr]
   exact e
 rw[zA e']
 unfold dM
 have em:([.str (wN n j)]++ps.map fun p=>D.str (wV p))=(wN n j::ps.map wV).map D.str:=by
   rw[Qj,Yu];rfl
 rw[em]
 show(Option.map Out.rt (rH (eC (.str "\n")) (iL (eV 3)) [.fz (.int n),.fz (.bl j),.fz (.lst (ps.map yL)),.fz (.lst ((wN n j::ps.map wV).map D.str)),y4,y5,y6,y7,y8])).bind w8=_
 rw[zWa]
 unfold rH
 rw[show eC (.str "\n") _=some (D.str "\n") from rfl,Qr,show iL (eV 3) [.fz (.int n),.fz (.bl j),.fz (.lst (ps.map yL)),.fz (.lst ((wN n j::ps.map wV).map D.str)),y4,y5,y6,y7,y8]=some ((wN n j::ps.map wV).map D.str) from rfl,Qr]
 dsimp only
 rw[zV1,Qr,Qx]
 · exact Rg (fun z=>some (D.str z)) (StrLaws.glued_eq_join _ _)
 · rw[Qj,Oo,Qi,Qg,h6]
   omega
end
def xJ (ps:List Pt)(b:Bool)(k:Nat):Pt:=ps.getD (ixB b ps.length k) ⟨[],[],false⟩
theorem zWe {ps:List Pt}{b:Bool}{k:Nat}(hk:k < ps.length):ps[ixB b ps.length k]'(zZL hk)=xJ ps b k:=by
 unfold xJ
 rw[Wq,Qp (zZL hk)]
 rfl
theorem zZw {ps:List Pt}{b:Bool}{k:Nat}(hk:k < ps.length):xJ ps b k∈ps:=by rw[←zWe hk];exact Yk _
def cW (ps:List Pt)(i:Nat):Tn->Bool->Int->List Nat->Int
 | _,_,x,[]=>x
 | t,b,x,d::r=>cW ps i (yM t (xJ ps b d).t) (b != (xJ ps b d).b) (2*x+(zG t (xJ ps b d).c).getD i 0) r
def plW (ps:List Pt)(n:Nat)(t:Tn)(b:Bool)(f:Nat->Int)(ds:List Nat):List Int:=(List.range n).map fun i=>cW ps i t b (f i) ds
theorem cJ (ps:List Pt)(i:Nat):∀(ds:List Nat) (t:Tn) (b:Bool) (x:Int),cW ps i t b x ds=x*2^ds.length+cW ps i t b 0 ds
 | [],t,b,x=>by simp[cW]
 | d::r,t,b,x=>by
   unfold cW
   rw[cJ ps i r _ _ (2*x+_),cJ ps i r _ _ (2*0+_)]
   rw[Qi]
   generalize(zG t (xJ ps b d).c).getD i 0=e
   generalize cW ps i _ _ 0 r=y
   rw[Int.pow_succ]
   generalize(2:Int)^r.length=p
   rw[Int.add_mul,Int.add_mul,Int.mul_comm 2 x,Int.mul_assoc,Int.mul_comm 2 p]
   omega
theorem jK {n:Nat}(hn:n=2∨n=3){c:List Int}(hc:c∈zD n)(i:Nat):c.getD i 0=0∨c.getD i 0=1:=by
 have key:∀c∈zD n,∀x∈c,x=0∨x=1:=by rcases hn with rfl | rfl<;>decide +kernel
 rw[Wq]
 cases h:c[i]? with
 | none=>exact .inl rfl
 | some x=>exact key c hc x (Tz h)
theorem pY {n:Nat}(hn:n=2∨n=3):∀t∈zJ n,∀c∈zD n,zG t c∈zD n:=by
 rcases hn with rfl | rfl<;>decide +kernel
section
variable {n:Nat} (hn:n=2∨n=3) {ps:List Pt} (ok:PtsOk n ps)
include hn ok
theorem zR1 {b:Bool}{k:Nat}(hk:k < ps.length):(xJ ps b k).c∈zD n:=ok.perm.mem_iff.mp (Wx.mpr ⟨_,zZw hk,rfl⟩)
theorem zOx {t:Tn}(ht:t∈zJ n){b:Bool}{k:Nat}(hk:k < ps.length):yM t (xJ ps b k).t∈zJ n:=rG hn ht (ok.turn _ (zZw hk))
theorem zTe (f:Nat->Int)(c:List Int)(hc:c.length=n):uK [yS ((List.range n).map f),yS c]=some (yS ((List.range n).map fun i=>2*f i+c.getD i 0)):=by
 rcases hn with rfl | rfl
 · match c,hc with
   | [a,b],_=>show uK [.tup [.int (f 0),.int (f 1)],.tup [.int a,.int b]]=some (.tup [.int (2*f 0+a),.int (2*f 1+b)]);generalize f 0=u;generalize f 1=v;kernel_rfl
 · match c,hc with
   | [a,b,e],_=>show uK [.tup [.int (f 0),.int (f 1),.int (f 2)],.tup [.int a,.int b,.int e]]=some (.tup [.int (2*f 0+a),.int (2*f 1+b),.int (2*f 2+e)]);generalize f 0=u;generalize f 1=v;generalize f 2=w;kernel_rfl
theorem zZv (j:Bool)(x1 x2:B):∀(ds:List Nat) (t:Tn) (b:Bool) (f:Nat->Int) (x5 x6:B),t∈zJ n->(∀d∈ds,d < ps.length) ->
   ∃y3 y5 y6,sD (gN 5) rM (ds.map fun d=>.int (d:Nat)) [.fz (zM n j ps),x1,x2,.fz (stD t b),.fz (yS ((List.range n).map f)),x5,x6] =
     some (.nx [.fz (zM n j ps),x1,x2,y3,.fz (yS (plW ps n t b f ds)),y5,y6])
 | [],t,b,f,x5,x6,_,_=>⟨_,x5,x6,rfl⟩
 | d::r,t,b,f,x5,x6,ht,hd=>by
   have hk:=hd d Qh
   have e1:=zSQ hn ok ht b j hk
   rw[zWe hk] at e1
   have hcl:(zG t (xJ ps b d).c).length=n:=vW hn _ (pY hn t ht _ (zR1 hn ok (b:=b) hk))
   have e2:=zTe hn ok f _ hcl
   obtain⟨y3,y5,y6,ih⟩:=zZv j x1 x2 r (yM t (xJ ps b d).t) (b != (xJ ps b d).b) (fun i=>2*f i+(zG t (xJ ps b d).c).getD i 0) (.fz (.int (d:Nat))) (.fz (yS (zG t (xJ ps b d).c))) (zOx hn ok ht hk) fun x hx=>hd x (Qd _ hx)
   refine⟨y3,y5,y6,?_⟩
   rw[Qj]
   rw[tL (ρ1:=[.fz (zM n j ps),x1,x2,.fz (stD t b),.fz (yS ((List.range n).map f)),.fz (.int (d:Nat)),x6])
     (ρ2:=[.fz (zM n j ps),x1,x2,.fz (stD (yM t (xJ ps b d).t) (b != (xJ ps b d).b)),.fz (yS ((List.range n).map fun i=>2*f i+(zG t (xJ ps b d).c).getD i 0)),.fz (.int (d:Nat)),.fz (yS (zG t (xJ ps b d).c))]) rfl ?_]
   · exact ih
   · unfold rM
     rw[zA (ρ':=[.fz (zM n j ps),x1,x2,.fz (stD (yM t (xJ ps b d).t) (b != (xJ ps b d).b)),.fz (yS ((List.range n).map f)),.fz (.int (d:Nat)),.fz (yS (zG t (xJ ps b d).c))])]
     · unfold gK yY
       rw[vD rfl rfl,e2]
       rfl
     · unfold pK
       rw[sI rfl rfl rfl,e1]
       rfl
end
def sC (B:Nat):Nat->Nat->List Nat
 | _,0=>[]
 | a,L+1=>a % B::sC B (a / B) L
theorem zU9 (B:Nat):∀(L a:Nat),(sC B a L).length=L
 | 0,a=>rfl
 | L+1,a=>by unfold sC;rw[Qi,zU9 B L]
theorem zWL {B:Nat}(hB:0 < B):∀(L a:Nat),∀d∈sC B a L,d < B
 | 0,a,d,h=>by cases h
 | L+1,a,d,h=>by
   unfold sC at h
   rcases Qz.mp h with e | e
   · rw[e];exact Nat.mod_lt _ hB
   · exact zWL hB L _ d e
section
variable {ps:List Pt} (hB:0 < ps.length) (hs:ps.length<=8)
include hB hs
theorem zNV {f:Ef}{ρ:List B}{g:Ef}{a:Nat}(h1:f ρ=some (.int (a:Nat)))(h2:g ρ=some (.int (ps.length:Nat))):xK f g ρ=some (.int ((a % ps.length:Nat):Nat)):=by
 rw[Int.natCast_emod]
 exact yN h1 h2 (Qt (by omega))
theorem zN7 {f:Ef}{ρ:List B}{g:Ef}{a:Nat}(h1:f ρ=some (.int (a:Nat)))(h2:g ρ=some (.int (ps.length:Nat))):uO f g ρ=some (.int ((a / ps.length:Nat):Nat)):=by
 rw[Int.natCast_ediv]
 refine yN h1 h2 ?_
 unfold zYo
 rw[Qt (show(0:Int) < (ps.length:Nat) by omega),Qt (show((ps.length:Nat):Int) < 1073741824 by omega)]
 rfl
theorem zVr (x1:B)(x2:B)(h1:x1 = .fz (.int (ps.length:Nat))):∀(its:List D) (acc:List Nat) (a:Nat) (x4:B),acc.length+its.length<=90000 ->
   ∃y4,sD (gN 4) vB its [.fz (.int (a:Nat)),x1,x2,.ow (acc.map fun d=>.int (d:Nat)),x4] =
     some (.nx [.fz (.int ((a / ps.length^its.length:Nat):Nat)),x1,x2,.ow ((acc++sC ps.length a its.length).map fun d=>.int (d:Nat)),y4])
 | [],acc,a,x4,_=>⟨x4,by simp[sD,sC]⟩
 | d::r,acc,a,x4,hl=>by
   subst h1
   obtain⟨y4,ih⟩:=zVr (.fz (.int (ps.length:Nat))) x2 rfl r (acc++[a % ps.length]) (a / ps.length) (.fz d) (by simp at hl ⊢;omega)
   refine⟨y4,?_⟩
   rw[tL (ρ1:=[.fz (.int (a:Nat)),.fz (.int (ps.length:Nat)),x2,.ow (acc.map fun d=>.int (d:Nat)),.fz d])
     (ρ2:=[.fz (.int ((a / ps.length:Nat):Nat)),.fz (.int (ps.length:Nat)),x2,.ow ((acc++[a % ps.length]).map fun d=>.int (d:Nat)),.fz d]) rfl ?_,ih]
   · rw[Qi,Rv,Ev,←Nat.div_div_eq_div_mul]
     simp[sC]
   · unfold vB
     rw[zA (zYH (d:=.int ((a % ps.length:Nat):Nat)) (ds:=acc.map fun d=>.int (d:Nat)) (zNV hB hs rfl rfl) rfl (by rw[Qg];simp at hl;omega))]
     unfold jS yY
     rw[zN7 hB hs (a:=a) rfl rfl,Wl]
     rfl
theorem zPA {f:Ef}{ρ:List B}{L:Nat}(h:f ρ=some (.int (L:Nat)))(hL:L<=90000):iR f ρ=some (tX 0 L):=by
 unfold iR
 rw[h,Qr]
 show(if decide (-1000000<=(L:Int))&&decide ((L:Int)<=1000000) then some (tX 0 (L:Int).toNat) else none)=_
 rw[Qt (by omega),Qt (by omega),Rs]
 rfl
theorem zR2 (a L:Nat)(hL:L<=20000):kF [.int (a:Nat),.int (ps.length:Nat),.int (L:Nat)]=some ((sC ps.length a L).reverse.map fun d=>.int (d:Nat)):=by
 obtain⟨y4,e⟩:=zVr hB hs (.fz (.int (ps.length:Nat))) (.fz (.int (L:Nat))) rfl (tX 0 L) [] a .no (by rw[uI];simp;omega)
 rw[uI,Eo] at e
 show(rR [.fz (.int (a:Nat)),.fz (.int (ps.length:Nat)),.fz (.int (L:Nat)),.no,.no]).bind zZ5=_
 unfold rR
 rw[zA (ρ':=[.fz (.int (a:Nat)),.fz (.int (ps.length:Nat)),.fz (.int (L:Nat)),.ow [],.no]) rfl]
 unfold nW
 have fr:tU (iR (eV 2)) (gN 4) vB [.fz (.int (a:Nat)),.fz (.int (ps.length:Nat)),.fz (.int (L:Nat)),.ow [],.no]=some (.nx [.fz (.int ((a / ps.length^L:Nat):Nat)),.fz (.int (ps.length:Nat)),.fz (.int (L:Nat)),.ow ((sC ps.length a L).map fun d=>.int (d:Nat)),y4]):=by
   unfold tU
   rw[zPA hB hs (L:=L) rfl (by omega),Qr]
   exact e
 rw[zA fr]
 unfold gQ
 rw[Uv]
 rfl
end
theorem zNa {t:Tf}{f g:Sf}{ρ:List B}{r:Option D}(h:t ρ=some false)(k:(g ρ).bind w8=r):(zO (sIf t f xH) g ρ).bind w8=r:=xL (by unfold sIf;rw[h];rfl) k
theorem wC {i:Nat}{f:Ef}{g:Sf}{ρ:List B}{d:D}{r:Option D}(h:f ρ=some d)(k:(g (ρ.set i (.fz d))).bind w8=r):(zO (yY i f) g ρ).bind w8=r:=xL (by unfold yY;rw[h];rfl) k
theorem zMK {f:Ef}{ρ:List B}(h:f ρ=some (.bl true)):rF (tB1 f) ρ=some false:=by unfold rF tB1;rw[h];rfl
theorem zXn (x0 x1:B):∀(its:List D) (p:Int) (x3:B),∃y3,sD (gN 3) cR its [x0,x1,.fz (.int p),x3]=some (.nx [x0,x1,.fz (.int (p*2^its.length)),y3])
 | [],p,x3=>⟨x3,by simp[sD]⟩
 | d::r,p,x3=>by
   obtain⟨y3,ih⟩:=zXn x0 x1 r (p*2) (.fz d)
   refine⟨y3,?_⟩
   rw[tL (ρ1:=[x0,x1,.fz (.int p),.fz d]) (ρ2:=[x0,x1,.fz (.int (p*2)),.fz d]) rfl ?_,ih,Qi,Int.pow_succ,Int.mul_comm (2^r.length) 2,←Int.mul_assoc]
   unfold cR yY
   rw[show fR (eV 2) (eC (.int 2)) [x0,x1,.fz (.int p),.fz d]=some (.int (p*2)) from yN rfl rfl (zQN (by decide) (by decide))]
   rfl
theorem zNL (n L:Nat)(hn:n<=3)(hL:L<=20000):fZ [.int (n:Nat),.int (L:Nat)]=some (.int (2^(n*L))):=by
 have hm:n*L<=60000:=Wi (Tc hn hL) (by decide)
 obtain⟨y3,e⟩:=zXn (.fz (.int (n:Nat))) (.fz (.int (L:Nat))) (tX 0 (n*L)) 1 .no
 rw[uI,Int.one_mul] at e
 show(fG [.fz (.int (n:Nat)),.fz (.int (L:Nat)),.no,.no]).bind w8=_
 unfold fG
 refine wC (d:=.int 1) rfl ?_
 unfold zZi
 refine xL (ρ':=[.fz (.int (n:Nat)),.fz (.int (L:Nat)),.fz (.int (2^(n*L))),y3]) ?_ rfl
 unfold tU
 have hmul:fR (eV 0) (eV 1) [.fz (.int (n:Nat)),.fz (.int (L:Nat)),.fz (.int 1),.no]=some (.int ((n*L:Nat):Nat)):=by
   rw[Tk]
   exact yN rfl rfl (zZs (by omega) (by omega))
 have hir:iR (fR (eV 0) (eV 1)) [.fz (.int (n:Nat)),.fz (.int (L:Nat)),.fz (.int 1),.no]=some (tX 0 (n*L)):=by
   unfold iR
   rw[hmul,Qr]
   show(if decide (-1000000<=((n*L:Nat):Int))&&decide (((n*L:Nat):Int)<=1000000) then some (tX 0 ((n*L:Nat):Int).toNat) else none)=_
   generalize n*L=m at hm
   rw[Qt (by omega),Qt (by omega),Rs]
   rfl
 dsimp only[List.set]
 rw[hir,Qr]
 exact e
theorem zVs {n:Nat}(hn:n=2∨n=3):rP [.int (n:Nat)]=some (stD (yI n) false):=by rcases hn with rfl | rfl<;>kernel_rfl
theorem iV {n:Nat}(hn:n=2∨n=3):yI n∈zJ n:=by rcases hn with rfl | rfl<;>decide +kernel
theorem mS {n:Int}{j:Bool}{ps:List Pt}{ρ:List B}(h:eV 0 ρ=some (zM n j ps)):wA (wX (Str.ofString "Curve") (Str.ofString "parts") (eV 0)) ρ=some (.int (ps.length:Nat)):=by
 unfold wA
 rw[zZR ρ (eV 0) h,Qr]
 show some (D.int ((ps.map yD).length:Nat))=_
 rw[Qg]
theorem eQ {n:Int}{j:Bool}{ps:List Pt}{ρ:List B}(h:eV 0 ρ=some (zM n j ps)):wX (Str.ofString "Curve") (Str.ofString "dims") (eV 0) ρ=some (.int n):=by
 unfold wX;rw[h];rfl
section
variable {n:Nat} (hn:n=2∨n=3) {ps:List Pt} (ok:PtsOk n ps) (j:Bool)
include hn ok
end
section
variable {n:Nat} (hn:n=2∨n=3) {ps:List Pt} (ok:PtsOk n ps) (j:Bool) {L a:Nat} (hL:L<=10000) (ha:a < ps.length^L)
include hn ok hL
include ha
theorem zVn:sB [zM n j ps,.int (L:Nat),.int (a:Nat)]=some (yS (plW ps n (yI n) false (fun _=>0) (sC ps.length a L).reverse)):=by
 have hB:0 < ps.length:=by rw[ok.len];exact Ed (by decide)
 have hs:=ok.small hn
 have hf:=zNL n L (by omega) (by omega)
 have hlt:(a:Int) < 2^(n*L):=by
   have h1:ps.length^L=2^(n*L):=by rw[ok.len,←Ib]
   rw[h1] at ha
   have h2:((2^(n*L):Nat):Int)=2^(n*L):=by rw[Int.natCast_pow];rfl
   rw[←h2]
   exact Int.ofNat_lt.mpr ha
 obtain⟨y3,y5,y6,e2⟩:=zZv hn ok j (.fz (.int (L:Nat))) (.fz (.int (a:Nat))) (sC ps.length a L).reverse (yI n) false (fun _=>0) .no .no (iV hn) (fun d hd=>zWL hB L a d (Uc.mp hd))
 have e1:=zR2 hB hs a L (by omega)
 show(qN [.fz (zM n j ps),.fz (.int (L:Nat)),.fz (.int (a:Nat)),.no,.no,.no,.no]).bind w8=_
 unfold qN
 refine zNa ?_ ?_
 · unfold rF eB3
   rw[vD (eQ (n:=n) (j:=j) (ps:=ps) rfl) rfl,hf]
   generalize(2:Int)^(n*L)=S at hlt
   simp[eC,eV,rC,gLe,gLt,hlt]
 unfold lY
 refine wC ((pP (eQ (n:=n) (j:=j) (ps:=ps) rfl)).trans (zVs hn)) ?_
 unfold mK
 refine wC (d:=yS ((List.range n).map fun _=>(0:Int))) (by
   unfold zSY
   rw[eQ (n:=n) (j:=j) (ps:=ps) rfl]
   rcases hn with rfl | rfl<;>kernel_rfl) ?_
 unfold mG
 refine xL (ρ':=[.fz (zM n j ps),.fz (.int (L:Nat)),.fz (.int (a:Nat)),y3,.fz (yS (plW ps n (yI n) false (fun _=>0) (sC ps.length a L).reverse)),y5,y6]) ?_ rfl
 unfold tU
 rw[zMc rfl (mS (n:=n) (j:=j) (ps:=ps) rfl) rfl,e1,Qr]
 exact e2
end
theorem zQz (q:Int)(h:0<=q):∃L:Nat,L<=60/\oF [.int q]=some (.int (L:Nat)):=by
 have t:eB2 gEq (xK (eV 0) (eC (.int 6))) (eC (.int 0)) [.fz (.int q)]=some (decide (q % 6=0)):=uQ (yN rfl rfl rfl)
 show ∃L:Nat,L<=60/\(rX [.fz (.int q)]).bind w8=some (.int (L:Nat))
 unfold rX
 by_cases hq:q % 6=0
 · refine⟨(q / 6 % 61).toNat,by omega,?_⟩
   rw[show((q / 6 % 61).toNat:Int)=q / 6 % 61 by omega]
   rw[iN (d:=.int (q / 6 % 61)) ((xZ t).trans (by rw[Qt hq,Qx rfl];unfold xU;rw[show xK (uO (eV 0) (eC (.int 6))) (eC (.int 61)) [.fz (.int q)]=some (.int (q / 6 % 61)) from yN (yN rfl rfl rfl) rfl rfl];rfl))]
   rfl
 · refine⟨(q / 6 % 13).toNat,by omega,?_⟩
   rw[show((q / 6 % 13).toNat:Int)=q / 6 % 13 by omega]
   rw[zA (ρ':=[.fz (.int q)]) ((xZ t).trans (by rw[Qf hq];rfl))]
   unfold gR xU
   rw[show xK (uO (eV 0) (eC (.int 6))) (eC (.int 13)) [.fz (.int q)]=some (.int (q / 6 % 13)) from yN (yN rfl rfl rfl) rfl rfl]
   rfl
theorem w4 {x:Int}{m:Nat}(h:x.natAbs < 2^m)(hm:m<=2097152):Builtin.Int.intBits x<=2097152:=Wi (PyProof.Rows.intBits_le h) hm
def aI (i:Int):Int:=if i < 0 then -i else i
def dst (xs ys:List Int):Int:=(List.zipWith (fun a b=>aI (a - b)) xs ys).sum
theorem zOm {n:Nat}(hn:n=2∨n=3):∀xs ys:List Int,xs.length=n->ys.length=n->rY [yS xs,yS ys]=some (.bl (decide (dst xs ys=1))):=by
 rcases hn with rfl | rfl
 · intro xs ys hx hy
   match xs,ys,hx,hy with
   | [a,b],[c,d],_,_=>kernel_rfl
 · intro xs ys hx hy
   match xs,ys,hx,hy with
   | [a,b,e],[c,d,f],_,_=>kernel_rfl
theorem zUD {B:Nat}(hB:2<=B):∀(L a:Nat),a+1 < B^L->∃pre k m,k+1 < B/\(∀d∈pre,d < B)/\(sC B a L).reverse=pre++k::List.replicate m (B - 1)/\(sC B (a+1) L).reverse=pre++(k+1)::List.replicate m 0
 | 0,a,h=>by simp at h
 | L+1,a,h=>by
   have hB0:0 < B:=by omega
   have hdm:=Nat.div_add_mod a B
   have hml:=Nat.mod_lt a hB0
   by_cases hc:a % B+1 < B
   · have e1:(a+1) % B=a % B+1:=by
       rw[Nat.add_mod,Yz (show 1 < B by omega),Yz hc]
     have e2:(a+1) / B=a / B:=by
       have:=Nat.div_add_mod (a+1) B
       rw[e1] at this
       exact Nat.eq_of_mul_eq_mul_left hB0 (by omega)
     refine⟨(sC B (a / B) L).reverse,a % B,0,hc,fun d hd=>zWL hB0 L _ d (Uc.mp hd),?_,?_⟩
     · show(a % B::sC B (a / B) L).reverse=_
       rw[Ej];rfl
     · show((a+1) % B::sC B ((a+1) / B) L).reverse=_
       rw[Ej,e1,e2];rfl
   · have e0:a % B=B - 1:=by omega
     have e1:(a+1) % B=0:=by
       have:a+1=B*(a / B+1):=by rw[Nat.mul_add];omega
       rw[this,Nat.mul_mod_right]
     have e2:(a+1) / B=a / B+1:=by
       have:a+1=B*(a / B+1):=by rw[Nat.mul_add];omega
       rw[this,Nat.mul_div_cancel_left _ hB0]
     have h':a / B+1 < B^L:=by
       rw[←e2]
       exact Nat.div_lt_of_lt_mul (by rw[Ev,←Rv];exact h)
     obtain⟨pre,k,m,h1,h2,h3,h4⟩:=zUD hB L (a / B) h'
     refine⟨pre,k,m+1,h1,h2,?_,?_⟩
     · unfold sC
       rw[Ej,h3,e0,Ra,Ep,Rb]
     · unfold sC
       rw[Ej,e2,h4,e1,Ra,Ep,Rb]
end My
noncomputable section
namespace My
open PySem L2
theorem pig {α:Type}:∀(l m:List α),l.Nodup->(∀x∈l,x∈m)->l.length<=m.length
 | [],m,_,_=>Ye _
 | a::t,m,nd,h=>by
   obtain⟨m1,m2,rfl⟩:=List.append_of_mem (h a Qh)
   obtain⟨na,nt⟩:=Yx.mp nd
   have:=pig t (m1++m2) nt fun x hx=>by
     have hm:=h x (Qd _ hx)
     rcases Eh.mp hm with z | z
     · exact Ij _ z
     · rcases Qz.mp z with rfl | z
       · exact absurd hx na
       · exact Wc _ z
   simp only[Qb,Qi] at this ⊢
   omega
def kP (p:Int×Int):KT:=.tup [.int p.1,.int p.2]
def kS (t:Tn)(b:Bool):KT:=.tup [.tup (t.map kP),.int (if b then 1 else 0)]
def eY (x y:Tn×Bool):KT:=.tup [kS x.1 x.2,kS y.1 y.2]
theorem zMF {p q:Int×Int}(h:kP p=kP q):p=q:=by
 unfold kP at h
 injection h with h
 injection h with h1 h
 injection h with h2 h
 injection h1 with h1
 injection h2 with h2
 exact Prod.ext h1 h2
theorem zQq {t u:Tn}{b c:Bool}(h:kS t b=kS u c):t=u/\b=c:=by
 unfold kS at h
 injection h with h
 injection h with h1 h
 injection h with h2 h
 injection h1 with h1
 injection h2 with h2
 refine⟨(List.map_inj_right (fun a b e=>zMF e)).mp h1,?_⟩
 cases b<;>cases c<;>first | rfl | cases h2
theorem zON {x y x' y':Tn×Bool}(h:eY x y=eY x' y'):x=x'/\y=y':=by
 unfold eY at h
 injection h with h
 injection h with h1 h
 injection h with h2 h
 obtain⟨a,b⟩:=zQq h1
 obtain⟨c,d⟩:=zQq h2
 exact⟨Prod.ext a b,Prod.ext c d⟩
theorem zSC (n:Nat)(i:Int):ktD n (.int i)=some (.int i):=by cases n<;>rfl
theorem zLh (n:Nat)(p:Int×Int):ktD (n+1) (kW p)=some (kP p):=by
 show(cO (ktD n) [.int p.1,.int p.2]).map KT.tup=_
 rw[cO,zSC,Qr,cO,zSC]
 rfl
theorem zVb (n:Nat):∀t:Tn,cO (ktD (n+1)) (t.map kW)=some (t.map kP)
 | []=>rfl
 | p::r=>by
   rw[Qj,Qj,cO,zVb n r,zLh]
   rfl
theorem zVJ (n:Nat)(t:Tn)(b:Bool):ktD (n+3) (stD t b)=some (kS t b):=by
 unfold stD
 show((((cO (ktD (n+1)) (t.map kW)).map KT.tup).bind fun k=>_).map KT.tup)=_
 rw[zVb n t]
 rfl
theorem zLs (x y:Tn×Bool):zQ6 (.tup [stD x.1 x.2,stD y.1 y.2])=some (eY x y):=by
 show((((ktD 7 (stD x.1 x.2)).bind fun k=>((ktD 7 (stD y.1 y.2)).bind fun k=>(some []).map _).map _)).map KT.tup)=_
 rw[zVJ 4,zVJ 4]
 rfl
def sts (n:Nat):List (Tn×Bool):=(zJ n).flatMap fun t=>[(t,false),(t,true)]
def zU2 (n:Nat):List KT:=(sts n).flatMap fun x=>(sts n).map fun y=>eY x y
theorem zSH {n:Nat}{t:Tn}(h:t∈zJ n)(b:Bool):(t,b)∈sts n:=Yl.mpr ⟨t,h,by cases b<;>simp⟩
theorem zOH {n:Nat}{x y:Tn×Bool}(hx:x∈sts n)(hy:y∈sts n):eY x y∈zU2 n:=Yl.mpr ⟨x,hx,Wx.mpr ⟨y,hy,rfl⟩⟩
theorem zVO {n:Nat}(hn:n=2∨n=3):(zU2 n).length<=9216:=by
 rcases hn with rfl | rfl
 · have:(zU2 2).length<=9216:=by decide +kernel
   exact this
 · have:(zU2 3).length<=9216:=by decide +kernel
   exact this
def uS (ps:List Pt):Tn->Bool->List Nat->Tn×Bool
 | s,b,[]=>(s,b)
 | s,b,d::r=>uS ps (yM s (xJ ps b d).t) (b != (xJ ps b d).b) r
theorem zZP (ps:List Pt)(i:Nat):∀(pre:List Nat) (s:Tn) (b:Bool) (x:Int) (r:List Nat),cW ps i s b x (pre++r)=cW ps i (uS ps s b pre).1 (uS ps s b pre).2 (cW ps i s b x pre) r
 | [],s,b,x,r=>rfl
 | d::pre,s,b,x,r=>zZP ps i pre _ _ _ r
def gS (ps:List Pt)(n:Nat)(pre:List Nat):Tn×Bool:=uS ps (yI n) false pre
def gP (ps:List Pt)(n:Nat)(pre:List Nat):List Int:=(List.range n).map fun i=>cW ps i (yI n) false 0 pre
theorem eU (ps:List Pt)(n:Nat)(pre:List Nat)(d:Nat):gS ps n (pre++[d])=(yM (gS ps n pre).1 (xJ ps (gS ps n pre).2 d).t,(gS ps n pre).2 != (xJ ps (gS ps n pre).2 d).b):=by
 unfold gS
 have:∀(pre:List Nat) (s:Tn) (b:Bool),uS ps s b (pre++[d])=(yM (uS ps s b pre).1 (xJ ps (uS ps s b pre).2 d).t,(uS ps s b pre).2 != (xJ ps (uS ps s b pre).2 d).b):=by
   intro pre
   induction pre with
   | nil=>intro s b;rfl
   | cons x r ih=>intro s b;exact ih _ _
 exact this pre _ _
theorem zWr (ps:List Pt)(n i:Nat)(pre:List Nat)(d:Nat):cW ps i (yI n) false 0 (pre++[d])=2*cW ps i (yI n) false 0 pre+(zG (gS ps n pre).1 (xJ ps (gS ps n pre).2 d).c).getD i 0:=by
 rw[zZP ps i pre]
 rfl
def yT (ps:List Pt)(k m:Nat):List Nat:=k::List.replicate m (ps.length - 1)
def zF (k m:Nat):List Nat:=(k+1)::List.replicate m 0
theorem mJ (ps:List Pt)(k m:Nat):yT ps k (m+1)=yT ps k m++[ps.length - 1]:=by unfold yT;rw[Rb,Ep]
theorem oJ (k m:Nat):zF k (m+1)=zF k m++[0]:=by unfold zF;rw[Rb,Ep]
def dl (ps:List Pt)(n k m i:Nat):Int:=cW ps i (yI n) false 0 (zF k m) - cW ps i (yI n) false 0 (yT ps k m)
def zOn (ps:List Pt)(x:Tn×Bool)(i:Nat):Int:=(zG x.1 (xJ ps x.2 (ps.length - 1)).c).getD i 0
def zOt (ps:List Pt)(x:Tn×Bool)(i:Nat):Int:=(zG x.1 (xJ ps x.2 0).c).getD i 0
theorem zWz (ps:List Pt)(n k m i:Nat):dl ps n k (m+1) i=2*dl ps n k m i+(zOt ps (gS ps n (zF k m)) i - zOn ps (gS ps n (yT ps k m)) i):=by
 unfold dl
 rw[mJ,oJ,zWr,zWr]
 unfold zOt zOn
 omega
def Adj (ps:List Pt)(n k m:Nat):Prop:=∃i,i < n/\(dl ps n k m i=1∨dl ps n k m i = -1)/\∀j,j < n->j≠i->dl ps n k m j=0
section
variable {n:Nat} (hn:n=2∨n=3) {ps:List Pt} (ok:PtsOk n ps)
include hn ok
theorem jM {pre:List Nat}(hd:∀d∈pre,d < ps.length):(gS ps n pre).1∈zJ n:=by
 unfold gS
 have:∀(pre:List Nat) (s:Tn) (b:Bool),s∈zJ n->(∀d∈pre,d < ps.length)->(uS ps s b pre).1∈zJ n:=by
   intro pre
   induction pre with
   | nil=>intro s b hs _;exact hs
   | cons d r ih=>intro s b hs hd;exact ih _ _ (zOx hn ok hs (hd d Qh)) fun y hy=>hd y (Qd _ hy)
 exact this pre _ _ (iV hn) hd
theorem eB {k:Nat}(hk:k+1 < ps.length)(m:Nat):∀d∈yT ps k m,d < ps.length:=fun d hd=>by
 rcases Qz.mp hd with rfl | hd
 · omega
 · rw[List.eq_of_mem_replicate hd];omega
theorem iU {k:Nat}(hk:k+1 < ps.length)(m:Nat):∀d∈zF k m,d < ps.length:=fun d hd=>by
 rcases Qz.mp hd with rfl | hd
 · exact hk
 · rw[List.eq_of_mem_replicate hd];omega
theorem zMr {k:Nat}(hk:k+1 < ps.length)(m i:Nat):(zOt ps (gS ps n (zF k m)) i=0∨zOt ps (gS ps n (zF k m)) i=1)/\(zOn ps (gS ps n (yT ps k m)) i=0∨zOn ps (gS ps n (yT ps k m)) i=1):=by
 constructor
 · exact jK hn (pY hn _ (jM hn ok (iU hn ok hk m)) _ (zR1 hn ok (b:=(gS ps n (zF k m)).2) (show 0 < ps.length by omega))) i
 · exact jK hn (pY hn _ (jM hn ok (eB hn ok hk m)) _ (zR1 hn ok (b:=(gS ps n (yT ps k m)).2) (show ps.length - 1 < ps.length by omega))) i
theorem zQG {k:Nat}(hk:k+1 < ps.length){m:Nat}(h1:Adj ps n k m)(h2:Adj ps n k (m+1)):∀i,i < n->dl ps n k (m+1) i=dl ps n k m i:=by
 obtain⟨i,hi,a1,a2⟩:=h1
 obtain⟨j,hj,b1,b2⟩:=h2
 have key:=fun x=>zWz ps n k m x
 have bt:=fun x=>zMr hn ok hk m x
 have eij:j=i:=by
   by_cases e:i=j
   · exact e.symm
   · exfalso
     have:=b2 i hi e
     have ki:=key i
     obtain⟨c1,c2⟩:=bt i
     omega
 subst eij
 intro x hx
 by_cases e:x=j
 · subst e
   have ki:=key x
   obtain⟨c1,c2⟩:=bt x
   omega
 · rw[b2 x hx e,a2 x hx e]
theorem zQH {k:Nat}(hk:k+1 < ps.length){i m:Nat}(him:i < m)(hs:gS ps n (yT ps k i)=gS ps n (yT ps k m)/\gS ps n (zF k i)=gS ps n (zF k m))(ha:∀j,j<=m->Adj ps n k j):∀j,Adj ps n k j:=by
 have hd:∀q,i+q<=m->∀x,x < n->dl ps n k (i+q) x=dl ps n k i x:=by
   intro q
   induction q with
   | zero=>intro _ x _;rfl
   | succ q ih =>
     intro hq x hx
     rw[←Rc,zQG hn ok hk (ha (i+q) (by omega)) (ha (i+q+1) (by omega)) x hx]
     exact ih (by omega) x hx
 have same:∀q,gS ps n (yT ps k (i+q))=gS ps n (yT ps k (m+q))/\gS ps n (zF k (i+q))=gS ps n (zF k (m+q))/\∀x,x < n->dl ps n k (i+q) x=dl ps n k (m+q) x:=by
   intro q
   induction q with
   | zero =>
     refine⟨hs.1,hs.2,fun x hx=>?_⟩
     have:=hd (m - i) (by omega) x hx
     rw[show i+(m - i)=m by omega] at this
     exact this.symm
   | succ q ih =>
     obtain⟨g1,g2,g3⟩:=ih
     refine⟨?_,?_,fun x hx=>?_⟩
     · rw[←Rc,←Rc,mJ,mJ,eU,eU,g1]
     · rw[←Rc,←Rc,oJ,oJ,eU,eU,g2]
     · rw[←Rc,←Rc,zWz,zWz,g1,g2,g3 x hx]
 intro j
 induction j using Nat.strongRecOn with
 | _ j ih =>
   by_cases hj:j<=m
   · exact ha j hj
   · obtain⟨a,b,c,d⟩:=ih (i+(j - m)) (by omega)
     have sm:=(same (j - m)).2.2
     rw[show m+(j - m)=j by omega] at sm
     exact⟨a,b,by rw[←sm a b];exact c,fun x hx hxa=>by rw[←sm x hx];exact d x hx hxa⟩
end
end My
end
noncomputable section
namespace My
open PySem L2
theorem dS (x:Int):0<=aI x:=by unfold aI;split<;>omega
theorem eH {x:Int}:aI x=0↔x=0:=by unfold aI;split<;>omega
theorem zZG {x:Int}:aI x=1↔x=1∨x = -1:=by unfold aI;split<;>omega
theorem fH (a b:Int):aI (a - b)=aI (b - a):=by unfold aI;split<;>split<;>omega
theorem zWS {a b:Int}(h:0<=a)(h':0<=b):a+b=1↔(a=1/\b=0)∨(a=0/\b=1):=by omega
theorem zOF {a b:Int}(h:0<=a)(h':0<=b):a+b=0↔a=0/\b=0:=by omega
theorem zO7 {x y:Int}:aI x+(aI y+0)=1↔((x=1∨x = -1)/\y=0)∨(x=0/\(y=1∨y = -1)):=by
 rw[Int.add_zero,zWS (dS x) (dS y),eH,eH,zZG,zZG]
theorem zQO {x y z:Int}:aI x+(aI y+(aI z+0))=1↔((x=1∨x = -1)/\y=0/\z=0)∨(x=0/\(y=1∨y = -1)/\z=0)∨(x=0/\y=0/\(z=1∨z = -1)):=by
 rw[Int.add_zero,zWS (dS x) (Int.add_nonneg (dS y) (dS z)),zOF (dS y) (dS z),zWS (dS y) (dS z),eH,eH,eH,zZG,zZG,zZG,and_or_left]
theorem zL2 {p q:Nat->Prop}:((p 0/\q 1)∨(q 0/\p 1))↔∃i,i < 2/\p i/\∀j,j < 2->j≠i->q j :=
 ⟨fun h=>h.elim (fun h=>⟨0,by decide,h.1,fun | 0,_,z=>absurd rfl z | 1,_,_=>h.2 | _+2,l,_=>absurd l (by omega)⟩) (fun h=>⟨1,by decide,h.2,fun | 0,_,_=>h.1 | 1,_,z=>absurd rfl z | _+2,l,_=>absurd l (by omega)⟩),
  fun | ⟨0,_,h1,h2⟩=>.inl ⟨h1,h2 1 (by decide) (by decide)⟩ | ⟨1,_,h1,h2⟩=>.inr ⟨h2 0 (by decide) (by decide),h1⟩ | ⟨_+2,l,_⟩=>absurd l (by omega)⟩
theorem zQu {p q:Nat->Prop}:((p 0/\q 1/\q 2)∨(q 0/\p 1/\q 2)∨(q 0/\q 1/\p 2))↔∃i,i < 3/\p i/\∀j,j < 3->j≠i->q j :=
 ⟨fun h=>h.elim (fun h=>⟨0,by decide,h.1,fun | 0,_,z=>absurd rfl z | 1,_,_=>h.2.1 | 2,_,_=>h.2.2 | _+3,l,_=>absurd l (by omega)⟩) (fun h=>h.elim (fun h=>⟨1,by decide,h.2.1,fun | 0,_,_=>h.1 | 1,_,z=>absurd rfl z | 2,_,_=>h.2.2 | _+3,l,_=>absurd l (by omega)⟩) (fun h=>⟨2,by decide,h.2.2,fun | 0,_,_=>h.1 | 1,_,_=>h.2.1 | 2,_,z=>absurd rfl z | _+3,l,_=>absurd l (by omega)⟩)),
  fun | ⟨0,_,h1,h2⟩=>.inl ⟨h1,h2 1 (by decide) (by decide),h2 2 (by decide) (by decide)⟩ | ⟨1,_,h1,h2⟩=>.inr (.inl ⟨h2 0 (by decide) (by decide),h1,h2 2 (by decide) (by decide)⟩) | ⟨2,_,h1,h2⟩=>.inr (.inr ⟨h2 0 (by decide) (by decide),h2 1 (by decide) (by decide),h1⟩) | ⟨_+3,l,_⟩=>absurd l (by omega)⟩
theorem zS0 {n:Nat}(hn:n=2∨n=3)(f g:Nat->Int):dst ((List.range n).map f) ((List.range n).map g)=1↔∃i,i < n/\(g i - f i=1∨g i - f i = -1)/\∀j,j < n->j≠i->g j - f j=0:=by
 rcases hn with rfl | rfl
 · refine Iff.trans ?_ (zL2 (p:=fun i=>g i - f i=1∨g i - f i = -1) (q:=fun j=>g j - f j=0))
   show aI (f 0 - g 0)+(aI (f 1 - g 1)+0)=1↔_
   rw[fH (f 0),fH (f 1),zO7]
 · refine Iff.trans ?_ (zQu (p:=fun i=>g i - f i=1∨g i - f i = -1) (q:=fun j=>g j - f j=0))
   show aI (f 0 - g 0)+(aI (f 1 - g 1)+(aI (f 2 - g 2)+0))=1↔_
   rw[fH (f 0),fH (f 1),fH (f 2),zQO]
theorem zZQ {n:Nat}(hn:n=2∨n=3){ps:List Pt}{k m:Nat}:dst (gP ps n (yT ps k m)) (gP ps n (zF k m))=1↔Adj ps n k m:=zS0 hn _ _
section
variable {n:Nat} (hn:n=2∨n=3) {ps:List Pt} (ok:PtsOk n ps) (j:Bool)
include hn ok
theorem zSF (pre:List Nat)(d:Nat):gP ps n (pre++[d])=(List.range n).map fun i=>2*cW ps i (yI n) false 0 pre+(zG (gS ps n pre).1 (xJ ps (gS ps n pre).2 d).c).getD i 0:=by
 unfold gP
 exact Ti fun i _=>zWr ps n i pre d
theorem mF {pre:List Nat}(hd:∀d∈pre,d < ps.length){d:Nat}(hk:d < ps.length):wJ [zM n j ps,stD (gS ps n pre).1 (gS ps n pre).2,.int (d:Nat)]=some (.tup [yS (zG (gS ps n pre).1 (xJ ps (gS ps n pre).2 d).c),stD (gS ps n (pre++[d])).1 (gS ps n (pre++[d])).2]):=by
 have e1:=zSQ hn ok (jM hn ok hd) (gS ps n pre).2 j hk
 rw[zWe hk] at e1
 rw[e1,eU]
 rfl
theorem zZj {pre:List Nat}(hd:∀d∈pre,d < ps.length){d:Nat}(hk:d < ps.length):uK [yS (gP ps n pre),yS (zG (gS ps n pre).1 (xJ ps (gS ps n pre).2 d).c)]=some (yS (gP ps n (pre++[d]))):=by
 rw[zSF hn ok]
 exact zTe hn ok _ _ (vW hn _ (pY hn _ (jM hn ok hd) _ (zR1 hn ok (b:=(gS ps n pre).2) hk)))
theorem dO {k:Nat}(hk:k < ps.length):zG (gS ps n []).1 (xJ ps (gS ps n []).2 k).c=gP ps n [k]:=by
 have h:=zSF hn ok [] k
 rw[Eo] at h
 rw[h]
 have hl:=vW hn _ (pY hn _ (jM hn ok (pre:=[]) (by simp)) _ (zR1 hn ok (b:=(gS ps n []).2) hk))
 generalize zG (gS ps n []).1 (xJ ps (gS ps n []).2 k).c=c at hl
 rcases hn with rfl | rfl
 · match c,hl with
   | [a,b],_=>simp[List.range,List.range.loop,cW]
 · match c,hl with
   | [a,b,e],_=>simp[List.range,List.range.loop,cW]
def cC:Sf:=(zO (sIf (zWJ 8 (yX (zY (eV 4) (zY (eV 6) zR)))) (xU (eC .non)) xH)
   (zO (bH 8 (yX (zY (eV 4) (zY (eV 6) zR))) (eC (.bl true)))
   (zO (pK (zL 3 wJ (zY (eV 0) (zY (eV 4) (zY (wO (wA (wX "Curve" "parts" (eV 0))) (eC (.int 1))) zR)))) (gT (zN (gN 9) (zN (gN 4) xS))))
   (zO (yY 3 (zL 2 uK (zY (eV 3) (zY (eV 9) zR))))
   (zO (pK (zL 3 wJ (zY (eV 0) (zY (eV 6) (zY (eC (.int 0)) zR)))) (gT (zN (gN 9) (zN (gN 6) xS))))
   (zO (yY 5 (zL 2 uK (zY (eV 5) (zY (eV 9) zR))))
   (yY 7 (tG (eV 7) (eC (.int 1))))))))))
def aM (n:Nat)(j:Bool)(ps:List Pt)(k m:Nat)(x1 x2:B)(kvs:List (D×D))(x9:D)(o9:Bool):List B :=
 [.fz (zM n j ps),x1,x2,.fz (yS (gP ps n (yT ps k m))),.fz (stD (gS ps n (yT ps k m)).1 (gS ps n (yT ps k m)).2),
   .fz (yS (gP ps n (zF k m))),.fz (stD (gS ps n (zF k m)).1 (gS ps n (zF k m)).2),.fz (.int ((m:Int)+1)),.od kvs,if o9 then .fz x9 else .no]
theorem zZu {k:Nat}(hk:k+1 < ps.length)(d1 d2:D):∀(fuel m:Nat) (kvs:List (D×D)) (ks:List KT) (x9:D) (o9:Bool),(kvs.map fun p=>ktD 8 p.1)=ks.map some->ks.Nodup->(∀x∈ks,x∈zU2 n)->(∀x∈ks,∃i,i < m/\x=eY (gS ps n (yT ps k i)) (gS ps n (zF k i)))->ks.length=m->(∀i,i < m->Adj ps n k i)->9216 < m+fuel ->
   (uM (tB1 (zL 2 rY (zY (eV 3) (zY (eV 5) zR)))) cC fuel (aM n j ps k m (.fz d1) (.fz d2) kvs x9 o9)=some (.rt .non)/\∀i,Adj ps n k i) ∨
   ∃m' kvs' x9' o9',m'<=9216/\uM (tB1 (zL 2 rY (zY (eV 3) (zY (eV 5) zR)))) cC fuel (aM n j ps k m (.fz d1) (.fz d2) kvs x9 o9)=some (.nx (aM n j ps k m' (.fz d1) (.fz d2) kvs' x9' o9'))/\¬Adj ps n k m'/\∀i,i < m'->Adj ps n k i
 | 0,m,kvs,ks,x9,o9,h1,h2,h3,h5,h6,h7,h4=>by
   have:=pig ks (zU2 n) h2 h3
   have:=zVO hn
   omega
 | fuel+1,m,kvs,ks,x9,o9,h1,h2,h3,h5,h6,h7,h4=>by
   have hB:0 < ps.length:=by omega
   have hlast:ps.length - 1 < ps.length:=by omega
   have hdE:=eB hn ok hk m
   have hdS:=iU hn ok hk m
   have nx:=zOm hn (gP ps n (yT ps k m)) (gP ps n (zF k m)) (by simp[gP]) (by simp[gP])
   have p1:=mF hn ok j hdE hlast
   have p2:=zZj hn ok hdE hlast
   have p3:=mF hn ok j hdS hB
   have p4:=zZj hn ok hdS hB
   have tE:=zSH (jM hn ok hdE) (gS ps n (yT ps k m)).2
   have tS:=zSH (jM hn ok hdS) (gS ps n (zF k m)).2
   have hkey:=zLs (gS ps n (yT ps k m)) (gS ps n (zF k m))
   have hin:=zOH tE tS
   have hlk:kvs.length=ks.length:=by
     have:=Rg List.length h1
     simpa using this
   have hle:=Wi (pig ks (zU2 n) h2 h3) (zVO hn)
   have tst:tB1 (zL 2 rY (zY (eV 3) (zY (eV 5) zR))) (aM n j ps k m (.fz d1) (.fz d2) kvs x9 o9)=some (decide (dst (gP ps n (yT ps k m)) (gP ps n (zF k m))=1)):=by
     unfold tB1 aM;rw[vD rfl rfl,nx];rfl
   by_cases ha:Adj ps n k m
   · rw[Qt ((zZQ hn).mpr ha)] at tst
     rw[uM,tst,Qr,Qx rfl]
     have mem:some (eY (gS ps n (yT ps k m)) (gS ps n (zF k m)))∈(kvs.map fun p=>ktD 8 p.1)↔eY (gS ps n (yT ps k m)) (gS ps n (zF k m))∈ks:=by
       rw[h1]
       constructor
       · intro z;obtain⟨x,hx,e⟩:=Wx.mp z;cases e;exact hx
       · intro z;exact Wx.mpr ⟨_,z,rfl⟩
     have tin:zWJ 8 (yX (zY (eV 4) (zY (eV 6) zR))) (aM n j ps k m (.fz d1) (.fz d2) kvs x9 o9)=some (decide (some (eY (gS ps n (yT ps k m)) (gS ps n (zF k m)))∈kvs.map fun p=>ktD 8 p.1)):=by
       unfold zWJ aM
       show((some (D.tup [stD (gS ps n (yT ps k m)).1 (gS ps n (yT ps k m)).2,stD (gS ps n (zF k m)).1 (gS ps n (zF k m)).2])).bind fun d=>_)=_
       rw[Qr,hkey]
       rfl
     by_cases hm:eY (gS ps n (yT ps k m)) (gS ps n (zF k m))∈ks
     · left
       constructor
       · unfold cC
         rw[iN (d:=.non) ((xZ tin).trans (by rw[Qt (mem.mpr hm)];rfl))]
         rfl
       · obtain⟨i,hi,e⟩:=h5 _ hm
         obtain⟨e1,e2⟩:=zON e
         exact zQH hn ok hk hi ⟨e1.symm,e2.symm⟩ fun q hq=>by
           rcases Uo hq with z | rfl
           · exact h7 q z
           · exact ha
     · have hm':some (eY (gS ps n (yT ps k m)) (gS ps n (zF k m)))∉kvs.map fun p=>ktD 8 p.1:=fun z=>hm (mem.mp z)
       have ih:=zZu hk d1 d2 fuel (m+1) (kvs++[(.tup [stD (gS ps n (yT ps k m)).1 (gS ps n (yT ps k m)).2,stD (gS ps n (zF k m)).1 (gS ps n (zF k m)).2],.bl true)]) (ks++[eY (gS ps n (yT ps k m)) (gS ps n (zF k m))]) (yS (zG (gS ps n (zF k m)).1 (xJ ps (gS ps n (zF k m)).2 0).c)) true (by
           rw[Wl,Wl,h1]
           show _++[ktD 8 (.tup [stD (gS ps n (yT ps k m)).1 (gS ps n (yT ps k m)).2,stD (gS ps n (zF k m)).1 (gS ps n (zF k m)).2])]=_
           rw[show ktD 8 (.tup [stD (gS ps n (yT ps k m)).1 (gS ps n (yT ps k m)).2,stD (gS ps n (zF k m)).1 (gS ps n (zF k m)).2])=some (eY (gS ps n (yT ps k m)) (gS ps n (zF k m))) from hkey]
           rfl) (Yh.mpr ⟨h2,by simp,fun x hx y hy=>by rw[Wh] at hy;subst hy;intro z;exact hm (z ▸ hx)⟩) (fun x hx=>by
           rcases Eh.mp hx with z | z
           · exact h3 x z
           · rw[Wh.mp z];exact hin) (fun x hx=>by
           rcases Eh.mp hx with z | z
           · obtain⟨i,hi,e⟩:=h5 x z;exact⟨i,by omega,e⟩
           · exact⟨m,by omega,Wh.mp z⟩) (by rw[Qb,h6];rfl) (fun i hi=>by
           rcases Uo (Nat.le_of_lt_succ hi) with z | rfl
           · exact h7 i z
           · exact ha) (by omega)
       have step:cC (aM n j ps k m (.fz d1) (.fz d2) kvs x9 o9)=some (.nx (aM n j ps k (m+1) (.fz d1) (.fz d2) (kvs++[(.tup [stD (gS ps n (yT ps k m)).1 (gS ps n (yT ps k m)).2,stD (gS ps n (zF k m)).1 (gS ps n (zF k m)).2],.bl true)]) (yS (zG (gS ps n (zF k m)).1 (xJ ps (gS ps n (zF k m)).2 0).c)) true)):=by
         unfold cC
         rw[zA ((xZ tin).trans (by rw[Qf hm'];rfl))]
         unfold aM
         rw[←mJ] at p1 p2
         rw[←oJ] at p3 p4
         have hcast:(((m+1:Nat):Int)+1)=(m:Int)+1+1:=by omega
         rw[hcast]
         generalize gP ps n (yT ps k m)=a3 at *
         generalize gS ps n (yT ps k m)=a4 at *
         generalize gP ps n (zF k m)=a5 at *
         generalize gS ps n (zF k m)=a6 at *
         have sd:bH 8 (yX (zY (eV 4) (zY (eV 6) zR))) (eC (.bl true)) [.fz (zM n j ps),.fz d1,.fz d2,.fz (yS a3),.fz (stD a4.1 a4.2),.fz (yS a5),.fz (stD a6.1 a6.2),.fz (.int ((m:Int)+1)),.od kvs,if o9 then .fz x9 else .no]=some (.nx [.fz (zM n j ps),.fz d1,.fz d2,.fz (yS a3),.fz (stD a4.1 a4.2),.fz (yS a5),.fz (stD a6.1 a6.2),.fz (.int ((m:Int)+1)),.od (kvs++[(.tup [stD a4.1 a4.2,stD a6.1 a6.2],.bl true)]),if o9 then .fz x9 else .no]):=by
           unfold bH
           show((some (D.bl true)).bind fun e=>((some (D.tup [stD a4.1 a4.2,stD a6.1 a6.2])).bind fun d=>_))=_
           rw[Qr,Qr,hkey,Qr]
           show(if kvs.length<=lim/\_/\_ then _ else none)=_
           rw[Qx ⟨show kvs.length<=100000 by omega,by cases o9<;>rfl,hm'⟩]
           rfl
         rw[zA sd]
         have hlp:∀ρ,eV 0 ρ=some (zM n j ps)->wO (wA (wX "Curve" "parts" (eV 0))) (eC (.int 1)) ρ=some (.int ((ps.length - 1:Nat):Nat)):=fun ρ h=>by
           rw[show((ps.length - 1:Nat):Int)=(ps.length:Int) - 1 by omega]
           exact yN (mS h) rfl rfl
         rw[zA (ρ':=[.fz (zM n j ps),.fz d1,.fz d2,.fz (yS a3),.fz (stD (gS ps n (yT ps k (m+1))).1 (gS ps n (yT ps k (m+1))).2),.fz (yS a5),.fz (stD a6.1 a6.2),.fz (.int ((m:Int)+1)),.od (kvs++[(.tup [stD a4.1 a4.2,stD a6.1 a6.2],.bl true)]),.fz (yS (zG a4.1 (xJ ps a4.2 (ps.length - 1)).c))]) (by
           unfold pK
           rw[sI rfl rfl (hlp _ rfl),p1]
           cases o9<;>rfl)]
         rw[vE ((vD rfl rfl).trans p2)]
         dsimp only[List.set]
         rw[zA (ρ':=[.fz (zM n j ps),.fz d1,.fz d2,.fz (yS (gP ps n (yT ps k (m+1)))),.fz (stD (gS ps n (yT ps k (m+1))).1 (gS ps n (yT ps k (m+1))).2),.fz (yS a5),.fz (stD (gS ps n (zF k (m+1))).1 (gS ps n (zF k (m+1))).2),.fz (.int ((m:Int)+1)),.od (kvs++[(.tup [stD a4.1 a4.2,stD a6.1 a6.2],.bl true)]),.fz (yS (zG a6.1 (xJ ps a6.2 0).c))]) (by
           unfold pK
           rw[sI rfl rfl (show eC (.int 0) _=some (.int ((0:Nat):Nat)) from rfl),p3]
           rfl)]
         rw[vE ((vD rfl rfl).trans p4)]
         rfl
       rw[step,Qr]
       rcases ih with⟨q1,q2⟩ | ⟨m',kvs',x9',o9',q1,q2,q3,q4⟩
       · exact .inl ⟨q1,q2⟩
       · exact .inr ⟨m',kvs',x9',o9',q1,q2,q3,q4⟩
   · rw[Qf fun z=>ha ((zZQ hn).mp z)] at tst
     refine .inr ⟨m,kvs,x9,o9,by omega,?_,ha,h7⟩
     rw[uM,tst,Qr,Wy (by decide)]
theorem zSi {k:Nat}(hk:k+1 < ps.length):(vC [zM n j ps,.int (k:Nat)]=some .non/\∀i,Adj ps n k i)∨∃m:Nat,m<=9216/\vC [zM n j ps,.int (k:Nat)]=some (.int ((m:Int)+1))/\¬Adj ps n k m/\∀i,i < m->Adj ps n k i:=by
 have e0:=zVs hn
 have p1:=mF hn ok j (pre:=[]) (by simp) (show k < ps.length by omega)
 have p2:=mF hn ok j (pre:=[]) (by simp) hk
 rw[dO hn ok (show k < ps.length by omega)] at p1
 rw[dO hn ok hk] at p2
 have lp:=zZu hn ok j hk (.int (k:Nat)) (stD (yI n) false) 10000 0 [] [] (.non) false rfl List.nodup_nil (by simp) (by simp) rfl (by simp) (by decide)
 have go:∀r,((zO (uM (tB1 (zL 2 rY (zY (eV 3) (zY (eV 5) zR)))) cC 10000) dN) (aM n j ps k 0 (.fz (.int (k:Nat))) (.fz (stD (yI n) false)) [] .non false)).bind w8=r->vC [zM n j ps,.int (k:Nat)]=r:=fun r h=>by
   show(qQ [.fz (zM n j ps),.fz (.int (k:Nat)),.no,.no,.no,.no,.no,.no,.no,.no]).bind w8=_
   unfold qQ
   refine wC ((pP (eQ (n:=n) (j:=j) (ps:=ps) rfl)).trans e0) ?_
   unfold mD
   refine xL (ρ':=[.fz (zM n j ps),.fz (.int (k:Nat)),.fz (stD (yI n) false),.fz (yS (gP ps n [k])),.fz (stD (gS ps n [k]).1 (gS ps n [k]).2),.no,.no,.no,.no,.no]) (by
     unfold pK
     rw[sI rfl rfl rfl,show wJ [zM n j ps,stD (yI n) false,.int (k:Nat)]=_ from p1]
     rfl) ?_
   unfold lL
   refine xL (ρ':=[.fz (zM n j ps),.fz (.int (k:Nat)),.fz (stD (yI n) false),.fz (yS (gP ps n [k])),.fz (stD (gS ps n [k]).1 (gS ps n [k]).2),.fz (yS (gP ps n [k+1])),.fz (stD (gS ps n [k+1]).1 (gS ps n [k+1]).2),.no,.no,.no]) (by
     unfold pK
     rw[sI (z:=.int ((k+1:Nat):Nat)) rfl rfl (by rw[show((k+1:Nat):Int)=(k:Int)+1 by omega];exact yN rfl rfl rfl),show wJ [zM n j ps,stD (yI n) false,.int ((k+1:Nat):Nat)]=_ from p2]
     rfl) ?_
   unfold lP
   refine wC (d:=.int 1) rfl ?_
   unfold mB
   exact xL (ρ':=aM n j ps k 0 (.fz (.int (k:Nat))) (.fz (stD (yI n) false)) [] .non false) rfl h
 rcases lp with⟨q1,q2⟩ | ⟨m',kvs',x9',o9',q1,q2,q3,q4⟩
 · exact .inl ⟨go _ (by rw[iN q1];rfl),q2⟩
 · exact .inr ⟨m',q1,go _ (by rw[zA q2];rfl),q3,q4⟩
end
end My
end
noncomputable section
namespace My
open PySem L2
def gH (B d:Nat):Nat:=B - 1 - d
theorem zRq {ps:List Pt}{b:Bool}{d:Nat}(hd:d < ps.length):xJ ps (!b) d=xJ ps b (gH ps.length d):=by
 unfold xJ ixB gH
 cases b
 · simp
 · simp only[Bool.not_true,Wg,Ta,Tp]
   rw[show ps.length - 1 - (ps.length - 1 - d)=d by omega]
theorem zWV (ps:List Pt)(i:Nat):∀(ds:List Nat) (s:Tn) (b:Bool) (x:Int),(∀d∈ds,d < ps.length)->cW ps i s (!b) x ds=cW ps i s b x (ds.map (gH ps.length))
 | [],s,b,x,_=>rfl
 | d::r,s,b,x,h=>by
   rw[Qj]
   unfold cW
   rw[zRq (h d Qh)]
   have e:((!b) != (xJ ps b (gH ps.length d)).b) = !(b != (xJ ps b (gH ps.length d)).b):=by
     cases b<;>cases (xJ ps _ (gH ps.length d)).b<;>rfl
   rw[e]
   exact zWV ps i r _ _ _ fun y hy=>h y (Qd _ hy)
section
variable {n:Nat} (hn:n=2∨n=3) {ps:List Pt} (ok:PtsOk n ps)
include hn ok
theorem zVz {s t:Tn}(hs:s∈zJ n)(ht:t∈zJ n){c:List Int}(hc:c∈zD n):zG (yM s t) c=zG s (zG t c) :=
 zWc (trM hn hs) (trM hn ht) (vW hn c hc) (by
   have key:∀c∈zD n,∀x∈c,x=0∨x=1:=by rcases hn with rfl | rfl<;>decide +kernel
   exact key c hc)
theorem zRx {s:Tn}(hs:Tr n s){c:List Int}{i:Nat}(hi:i < n):(zG s c).getD i 0=Builtin.bitXor (c.getD (s.getD i (0,0)).1.toNat 0) (s.getD i (0,0)).2:=by
 unfold zG
 rw[Wq,Wu,Qp (by rw[hs.len];exact hi),Wq (l:=s),Qp (by rw[hs.len];exact hi)]
 rfl
theorem zNj {a g:Int}(ha:a=0∨a=1)(hg:g=0∨g=1):Builtin.bitXor a g=if g=0 then a else 1 - a:=by
 rcases ha with rfl | rfl<;>rcases hg with rfl | rfl<;>decide
theorem zXf {s:Tn}(hs:s∈zJ n){i:Nat}(hi:i < n)(hf:(s.getD i (0,0)).2=0∨(s.getD i (0,0)).2=1):∀(ds:List Nat) (u t:Tn) (b:Bool),u∈zJ n->t∈zJ n->(∀c∈zD n,zG u c=zG s (zG t c))->(∀d∈ds,d < ps.length) ->
   cW ps i u b 0 ds=if (s.getD i (0,0)).2=0 then cW ps (s.getD i (0,0)).1.toNat t b 0 ds else 2^ds.length - 1 - cW ps (s.getD i (0,0)).1.toNat t b 0 ds
 | [],u,t,b,hu,ht,he,hd=>by
   show(0:Int)=if _ then(0:Int) else 2^0 - 1 - 0
   split<;>rfl
 | d::r,u,t,b,hu,ht,he,hd=>by
   have hk:=hd d Qh
   have hc:=zR1 hn ok (b:=b) hk
   have pm:=ok.turn _ (zZw (b:=b) hk)
   have ih:=zXf hs hi hf r (yM u (xJ ps b d).t) (yM t (xJ ps b d).t) (b != (xJ ps b d).b) (zOx hn ok hu hk) (zOx hn ok ht hk) (fun c hc'=>by
     rw[zVz hn ok hu pm hc',he _ (pY hn _ pm _ hc'),zVz hn ok ht pm hc']) fun y hy=>hd y (Qd _ hy)
   have bt:=jK hn (pY hn _ ht _ hc) (s.getD i (0,0)).1.toNat
   have e1:cW ps i u b 0 (d::r)=(zG u (xJ ps b d).c).getD i 0*2^r.length+cW ps i (yM u (xJ ps b d).t) (b != (xJ ps b d).b) 0 r:=by
     show cW ps i (yM u (xJ ps b d).t) (b != (xJ ps b d).b) (2*0+_) r=_
     rw[cJ,Int.mul_zero,Int.zero_add]
   have e2:cW ps (s.getD i (0,0)).1.toNat t b 0 (d::r)=(zG t (xJ ps b d).c).getD (s.getD i (0,0)).1.toNat 0*2^r.length+cW ps (s.getD i (0,0)).1.toNat (yM t (xJ ps b d).t) (b != (xJ ps b d).b) 0 r:=by
     show cW ps _ (yM t (xJ ps b d).t) (b != (xJ ps b d).b) (2*0+_) r=_
     rw[cJ,Int.mul_zero,Int.zero_add]
   rw[e1,e2,ih,he _ hc,zRx hn ok (trM hn hs) hi,zNj hn ok bt hf,Qi,Int.pow_succ]
   generalize(zG t (xJ ps b d).c).getD (s.getD i (0,0)).1.toNat 0=g
   generalize cW ps (s.getD i (0,0)).1.toNat (yM t (xJ ps b d).t) (b != (xJ ps b d).b) 0 r=w
   generalize(2:Int)^r.length=p
   split
   · rfl
   · rw[Int.sub_mul,Int.one_mul]
     omega
theorem zZn:∀s∈zJ n,∀c∈zD n,zG s c=zG s (zG (yI n) c):=by
 have key:∀c∈zD n,zG (yI n) c=c:=by rcases hn with rfl | rfl<;>decide +kernel
 intro s hs c hc
 rw[key c hc]
theorem zLR:∀s∈zJ n,∀i,i < n->((s.getD i (0,0)).2=0∨(s.getD i (0,0)).2=1)/\(s.getD i (0,0)).1.toNat < n/\∀j,j < n->(s.getD j (0,0)).1.toNat=(s.getD i (0,0)).1.toNat->j=i:=by
 rcases hn with rfl | rfl
 · have:∀s∈zJ 2,∀i,i < 2->((s.getD i (0,0)).2=0∨(s.getD i (0,0)).2=1)/\(s.getD i (0,0)).1.toNat < 2/\∀j,j < 2->(s.getD j (0,0)).1.toNat=(s.getD i (0,0)).1.toNat->j=i:=by decide +kernel
   exact this
 · have:∀s∈zJ 3,∀i,i < 3->((s.getD i (0,0)).2=0∨(s.getD i (0,0)).2=1)/\(s.getD i (0,0)).1.toNat < 3/\∀j,j < 3->(s.getD j (0,0)).1.toNat=(s.getD i (0,0)).1.toNat->j=i:=by decide +kernel
   exact this
theorem zKg:∀s∈zJ n,∀a,a < n->∃i,i < n/\(s.getD i (0,0)).1.toNat=a:=by
 rcases hn with rfl | rfl
 · have:∀s∈zJ 2,∀a,a < 2->∃i,i < 2/\(s.getD i (0,0)).1.toNat=a:=by decide +kernel
   exact this
 · have:∀s∈zJ 3,∀a,a < 3->∃i,i < 3/\(s.getD i (0,0)).1.toNat=a:=by decide +kernel
   exact this
theorem zN6 {k m:Nat}(hk:k+1 < ps.length)(ha:∀k',k'+1 < ps.length->Adj ps n k' m){s:Tn}(hs:s∈zJ n)(b:Bool) :
   ∃i,i < n/\(cW ps i s b 0 (zF k m) - cW ps i s b 0 (yT ps k m)=1∨cW ps i s b 0 (zF k m) - cW ps i s b 0 (yT ps k m) = -1)/\∀j,j < n->j≠i->cW ps j s b 0 (zF k m) - cW ps j s b 0 (yT ps k m)=0:=by
 have len:(yT ps k m).length=(zF k m).length:=by simp[yT,zF]
 -- forth
 have forth:∀k',k'+1 < ps.length->∃i,i < n/\(cW ps i s false 0 (zF k' m) - cW ps i s false 0 (yT ps k' m)=1∨cW ps i s false 0 (zF k' m) - cW ps i s false 0 (yT ps k' m) = -1)/\∀j,j < n->j≠i->cW ps j s false 0 (zF k' m) - cW ps j s false 0 (yT ps k' m)=0:=fun k' hk'=>by
   obtain⟨a,ha1,ha2,ha3⟩:=ha k' hk'
   have val:∀i,i < n->(cW ps i s false 0 (zF k' m) - cW ps i s false 0 (yT ps k' m)=dl ps n k' m (s.getD i (0,0)).1.toNat∨cW ps i s false 0 (zF k' m) - cW ps i s false 0 (yT ps k' m) = - dl ps n k' m (s.getD i (0,0)).1.toNat):=fun i hi=>by
     have hf:=(zLR hn ok s hs i hi).1
     have l1:(yT ps k' m).length=(zF k' m).length:=by simp[yT,zF]
     rw[zXf hn ok hs hi hf (zF k' m) s (yI n) false hs (iV hn) (zZn hn ok s hs) (iU hn ok hk' m),zXf hn ok hs hi hf (yT ps k' m) s (yI n) false hs (iV hn) (zZn hn ok s hs) (eB hn ok hk' m),l1]
     unfold dl
     split
     · exact .inl rfl
     · right;omega
   obtain⟨i,hi,e⟩:=zKg hn ok s hs a ha1
   refine⟨i,hi,?_,fun j hj hji=>?_⟩
   · have v:=val i hi
     rw[e] at v
     omega
   · have v:=val j hj
     have hax:=(zLR hn ok s hs j hj).2.1
     have hne:(s.getD j (0,0)).1.toNat≠a:=fun z=>hji ((zLR hn ok s hs i hi).2.2 j hj (z.trans e.symm))
     rw[ha3 _ hax hne] at v
     omega
 cases b with
 | false=>exact forth k hk
 | true =>
   have h1:(zF k m).map (gH ps.length)=yT ps (ps.length - 2 - k) m:=by
     unfold zF yT gH
     rw[Qj,List.map_replicate,show ps.length - 1 - (k+1)=ps.length - 2 - k by omega,Nat.sub_zero]
   have h2:(yT ps k m).map (gH ps.length)=zF (ps.length - 2 - k) m:=by
     unfold zF yT gH
     rw[Qj,List.map_replicate,show ps.length - 1 - k=ps.length - 2 - k+1 by omega,Nat.sub_self]
   have f1:∀i,cW ps i s true 0 (zF k m)=cW ps i s false 0 (yT ps (ps.length - 2 - k) m):=fun i=>by
     have:=zWV ps i (zF k m) s false 0 (iU hn ok hk m)
     rw[h1] at this;exact this
   have f2:∀i,cW ps i s true 0 (yT ps k m)=cW ps i s false 0 (zF (ps.length - 2 - k) m):=fun i=>by
     have:=zWV ps i (yT ps k m) s false 0 (eB hn ok hk m)
     rw[h2] at this;exact this
   obtain⟨i,hi,a1,a2⟩:=forth (ps.length - 2 - k) (by omega)
   refine⟨i,hi,?_,fun q hq hqi=>?_⟩
   · rw[f1,f2];omega
   · have:=a2 q hq hqi
     rw[f1,f2];omega
theorem zOJ {L a:Nat}(ha:a+1 < ps.length^L)(h:∀m,m < L->∀k,k+1 < ps.length->Adj ps n k m):dst (plW ps n (yI n) false (fun _=>0) (sC ps.length a L).reverse) (plW ps n (yI n) false (fun _=>0) (sC ps.length (a+1) L).reverse)=1:=by
 have h2:2<=ps.length:=by rw[ok.len];rcases hn with rfl | rfl<;>decide
 obtain⟨pre,k,m,hk,hd,e1,e2⟩:=zUD h2 L a ha
 have hm:m < L:=by
   have:=Rg List.length e1
   rw[Yr,zU9,Qb,Qi,Yj] at this
   omega
 have hs:(uS ps (yI n) false pre).1∈zJ n:=jM hn ok hd
 obtain⟨i,hi,a1,a2⟩:=zN6 hn ok hk (h m hm) hs (uS ps (yI n) false pre).2
 have l1:(yT ps k m).length=(zF k m).length:=by simp[yT,zF]
 have v:∀x,cW ps x (yI n) false 0 (pre++zF k m) - cW ps x (yI n) false 0 (pre++yT ps k m)=cW ps x (uS ps (yI n) false pre).1 (uS ps (yI n) false pre).2 0 (zF k m) - cW ps x (uS ps (yI n) false pre).1 (uS ps (yI n) false pre).2 0 (yT ps k m):=fun x=>by
   rw[zZP,zZP,cJ ps x (zF k m),cJ ps x (yT ps k m),l1]
   omega
 rw[e1,e2]
 refine(zS0 hn _ _).mpr ⟨i,hi,?_,fun q hq hqi=>?_⟩
 · show cW ps i (yI n) false 0 (pre++zF k m) - cW ps i (yI n) false 0 (pre++yT ps k m)=1∨cW ps i (yI n) false 0 (pre++zF k m) - cW ps i (yI n) false 0 (pre++yT ps k m) = -1
   rw[v i];exact a1
 · show cW ps q (yI n) false 0 (pre++zF k m) - cW ps q (yI n) false 0 (pre++yT ps k m)=0
   rw[v q];exact a2 q hq hqi
theorem zUT {B:Nat}(hB:0 < B)(k:Nat)(hk:k < B):∀m,(sC B ((k+1)*B^m - 1) (m+1)).reverse=k::List.replicate m (B - 1)
 | 0=>by
   show([((k+1)*B^0 - 1) % B]).reverse=[k]
   rw[Nat.pow_zero,On,Nat.add_sub_cancel,Yz hk]
   rfl
 | m+1=>by
   have hp:0 < B^m:=Ed hB
   have hq:0 < (k+1)*B^m:=Yt (by omega) hp
   have e:(k+1)*B^(m+1) - 1=(B - 1)+B*((k+1)*B^m - 1):=by
     rw[Rv,←Ri,Ev _ B,Nat.mul_sub,On]
     have:B<=B*((k+1)*B^m):=Nat.le_mul_of_pos_right B hq
     omega
   rw[sC,e,Nat.add_mul_mod_self_left,Yz (by omega),Nat.add_mul_div_left _ _ hB,Nat.div_eq_of_lt (by omega),Nat.zero_add,Ej,zUT hB k hk m,Ep,Rb]
theorem zXp {B:Nat}(hB:0 < B)(k:Nat)(hk:k < B):∀m,(sC B (k*B^m) (m+1)).reverse=k::List.replicate m 0
 | 0=>by
   show([(k*B^0) % B]).reverse=[k]
   rw[Nat.pow_zero,On,Yz hk]
   rfl
 | m+1=>by
   have e:k*B^(m+1)=B*(k*B^m):=by rw[Rv,←Ri,Ev]
   rw[sC,e,Nat.mul_mod_right,Nat.mul_div_cancel_left _ hB,Ej,zXp hB k hk m,Ep,Rb]
end
end My
end
namespace My
open PySem L2
instance (ps:List Pt)(n k m:Nat):Decidable (Adj ps n k m):=Classical.propDecidable _
def vK (k m:Nat):D:=.exc "Unmet" ["first","second","level"] [.int (k:Nat),.int ((k:Int)+1),.int ((m:Int)+1)]
def pJ:Option Nat->D | none=>.non | some m=>.int ((m:Int)+1)
theorem zWW:∀(l:List (Option Nat)) (x0:B) (acc:List D),mT (gN 0) (eB2 uR (eV 0) (eC .non)) (eV 0) (l.map pJ) [x0] acc=some (acc++(l.filterMap id).map fun(m:Nat)=>.int ((m:Int)+1))
 | [],_,acc=>by simp[mT]
 | none::r,x0,acc=>by
   rw[Qj]
   show mT (gN 0) (eB2 uR (eV 0) (eC .non)) (eV 0) (r.map pJ) [.fz .non] acc=_
   rw[zWW r];rfl
 | some m::r,x0,acc=>by
   rw[Qj]
   show mT (gN 0) (eB2 uR (eV 0) (eC .non)) (eV 0) (r.map pJ) [.fz (.int ((m:Int)+1))] (acc++[.int ((m:Int)+1)])=_
   rw[zWW r,Ra];rfl
theorem zUL:∀l:List Nat,bD (l.map fun(m:Nat)=>.int ((m:Int)+1))=some (l.map fun(m:Nat)=>(m:Int)+1)
 | []=>rfl
 | m::r=>by rw[Qj,bD,zUL r];rfl
theorem zXN (val:Nat->Int):∀k,(∃i,i<=k/\uY val k=val i)/\∀i,i<=k->uY val k<=val i
 | 0=>by
   refine⟨⟨0,Qk _,rfl⟩,fun i hi=>?_⟩
   rw[Nat.le_zero.mp hi]
   exact Int.le_refl _
 | k+1=>by
   obtain⟨⟨i,hi,e⟩,h⟩:=zXN val k
   rw[uY]
   split
   · rename_i hb
     refine⟨⟨k+1,Qk _,rfl⟩,fun q hq=>?_⟩
     rcases Uo hq with z | rfl
     · have:=h q (by omega);omega
     · exact Int.le_refl _
   · rename_i hb
     refine⟨⟨i,by omega,e⟩,fun q hq=>?_⟩
     rcases Uo hq with z | rfl
     · exact h q (by omega)
     · omega
theorem zQL {l:List Nat}(h:l≠[]):∃m0,m0∈l/\fM (l.map fun(m:Nat)=>(m:Int)+1)=(m0:Int)+1/\∀m∈l,m0<=m:=by
 have hl:0 < l.length:=List.length_pos_iff.mpr h
 have gv:∀i (hi:i < l.length),(l.map fun(m:Nat)=>(m:Int)+1).getD i 0=(l[i]:Int)+1:=fun i hi=>by
   rw[Wq,Wu,Qp hi];rfl
 obtain⟨⟨i,hi,e⟩,hm⟩:=zXN (fun i=>(l.map fun(m:Nat)=>(m:Int)+1).getD i 0) (l.length - 1)
 have hi':i < l.length:=by omega
 refine⟨l[i],Yk _,?_,fun m hmm=>?_⟩
 · unfold fM
   rw[Qg,e]
   exact gv i hi'
 · obtain⟨q,hq,rfl⟩:=List.mem_iff_getElem.mp hmm
   have:=hm q (by omega)
   rw[e] at this
   simp only[gv i hi',gv q hq] at this
   omega
theorem zQf (m0:Nat):∀o:Option Nat,eqN (pJ o) (.int ((m0:Int)+1))=some (decide (o=some m0))
 | none=>rfl
 | some m=>by
   show eqD 8 (.int ((m:Int)+1)) (.int ((m0:Int)+1))=_
   show some (((m:Int)+1)==((m0:Int)+1))=_
   congr 1
   by_cases h:m=m0
   · subst h;simp
   · rw[Qf (by simpa using h)]
     simp;omega
theorem zMZ (m0:Nat):∀l:List (Option Nat),some m0∈l->∃j,ixE (fun z=>eqN z (.int ((m0:Int)+1))) (l.map pJ)=some j/\l[j]?=some (some m0)
 | [],h=>by cases h
 | o::r,h=>by
   rw[Qj,ixE,zQf]
   by_cases ho:o=some m0
   · subst ho
     refine⟨0,?_,rfl⟩
     rw[Qt rfl,Qr,Qx rfl,Qx]
     rw[List.all_map,Qv]
     intro x _
     show(eqN (pJ x) _).isSome=true
     rw[zQf];rfl
   · obtain⟨j,e,g⟩:=zMZ m0 r ((Qz.mp h).resolve_left fun z=>ho z.symm)
     refine⟨j+1,?_,by simpa using g⟩
     rw[Qf ho,Qr,Wy (by decide),e]
     rfl
section
variable {n:Nat} (hn:n=2∨n=3) {ps:List Pt} (ok:PtsOk n ps) (j:Bool)
include hn ok
theorem zVh:(wZ [zM n j ps]=some .non/\∀k,k+1 < ps.length->∀i,Adj ps n k i)∨∃k m:Nat,k+1 < ps.length/\m<=9216/\wZ [zM n j ps]=some (.tup [.int (k:Nat),.int ((m:Int)+1)])/\¬Adj ps n k m/\∀k',k'+1 < ps.length->∀i,i < m->Adj ps n k' i:=by
 have hs:=ok.small hn
 have hB:0 < ps.length:=by rw[ok.len];exact Ed (by decide)
 have ex:∀k,∃o:Option Nat,k+1 < ps.length->vC [zM n j ps,.int (k:Nat)]=some (pJ o)/\(o=none->∀i,Adj ps n k i)/\∀m,o=some m->m<=9216/\¬Adj ps n k m/\∀i,i < m->Adj ps n k i:=fun k=>by
   by_cases hk:k+1 < ps.length
   · rcases zSi hn ok j hk with⟨e,h⟩ | ⟨m,hm,e,h1,h2⟩
     · exact⟨none,fun _=>⟨e,fun _=>h,fun m z=>by cases z⟩⟩
     · exact⟨some m,fun _=>⟨e,fun z=>(by cases z),fun m' z=>by cases z;exact⟨hm,h1,h2⟩⟩⟩
   · exact⟨none,fun h=>absurd h hk⟩
 obtain⟨lv,hlv⟩:∃lv:Nat->Option Nat,∀k,k+1 < ps.length->vC [zM n j ps,.int (k:Nat)]=some (pJ (lv k))/\(lv k=none->∀i,Adj ps n k i)/\∀m,lv k=some m->m<=9216/\¬Adj ps n k m/\∀i,i < m->Adj ps n k i:=⟨fun k=>(ex k).choose,fun k=>(ex k).choose_spec⟩
 have src:iR (wO (wA (wX "Curve" "parts" (eV 0))) (eC (.int 1))) [.fz (zM n j ps),.no,.no]=some (tX 0 (ps.length - 1)):=by
   have e:wO (wA (wX "Curve" "parts" (eV 0))) (eC (.int 1)) [.fz (zM n j ps),.no,.no]=some (.int ((ps.length - 1:Nat):Nat)):=by
     rw[show((ps.length - 1:Nat):Int)=(ps.length:Int) - 1 by omega]
     exact yN (mS (n:=n) (j:=j) (ps:=ps) rfl) rfl rfl
   unfold iR
   rw[e,Qr]
   show(if decide (-1000000<=((ps.length - 1:Nat):Int))&&decide (((ps.length - 1:Nat):Int)<=1000000) then some (tX 0 ((ps.length - 1:Nat):Int).toNat) else none)=_
   rw[Qt (by omega),Qt (by omega),Rs]
   rfl
 have comp:yA (iR (wO (wA (wX "Curve" "parts" (eV 0))) (eC (.int 1)))) 1 [0] (gN 0) tOK (zL 2 vC (zY (eV 1) (zY (eV 0) zR))) [.fz (zM n j ps),.no,.no]=some (((List.range (ps.length - 1)).map lv).map pJ):=by
   unfold yA
   rw[src,Qr,zUr (by rw[uI];omega),Qr]
   show mT (gN 0) tOK _ _ [.no,.fz (zM n j ps)] []=_
   rw[zUJ (h:=fun d=>match d with | .int x=>pJ (lv x.toNat) | d=>d)]
   · rw[Eo]
     unfold tX
     rw[Yu,Yu]
     congr 1
     refine Ti fun i _=>?_
     show pJ (lv ((0:Int)+(i:Nat)).toNat)=pJ (lv i)
     rw[show((0:Int)+(i:Nat)).toNat=i by omega]
   · intro d hd
     obtain⟨i,hi,rfl⟩:=zQl hd
     refine(vD rfl rfl).trans ?_
     show _=some (pJ (lv ((0:Int)+(i:Nat)).toNat))
     rw[show((0:Int)+(i:Nat)).toNat=i by omega,show(0:Int)+(i:Nat)=(i:Nat) by omega]
     exact(hlv i (by omega)).1
 generalize hl:(List.range (ps.length - 1)).map lv=l at comp
 have hlen:l.length=ps.length - 1:=by rw[←hl,Qg,List.length_range]
 have e2:yA (iL (eV 1)) 1 [] (gN 0) (eB2 uR (eV 0) (eC .non)) (eV 0) [.fz (zM n j ps),.fz (.lst (l.map pJ)),.no]=some ((l.filterMap id).map fun(m:Nat)=>.int ((m:Int)+1)):=by
   unfold yA
   show((okL (l.map pJ)).bind fun ds=>mT (gN 0) _ _ ds [.no] [])=_
   rw[zUr (by rw[Qg];omega),Qr,zWW,Eo]
 have pre:∀(d:D) (r:Option D),zZt (yA (iL (eV 1)) 1 [] (gN 0) (eB2 uR (eV 0) (eC .non)) (eV 0)) [.fz (zM n j ps),.fz (.lst (l.map pJ)),.no]=some d->(sZ [.fz (zM n j ps),.fz (.lst (l.map pJ)),.fz d]).bind w8=r->wZ [zM n j ps]=r:=fun d r h1 h2=>by
   show(sT [.fz (zM n j ps),.no,.no]).bind w8=_
   unfold sT
   refine xL (ρ':=[.fz (zM n j ps),.ow (l.map pJ),.no]) (by unfold sK;rw[comp];rfl) ?_
   unfold pR
   refine xL (ρ':=[.fz (zM n j ps),.fz (.lst (l.map pJ)),.fz d]) ?_ h2
   show yY 2 (zZt (yA (iL (eV 1)) 1 [] (gN 0) (eB2 uR (eV 0) (eC .non)) (eV 0))) [.fz (zM n j ps),.fz (.lst (l.map pJ)),.no]=_
   unfold yY
   rw[h1];rfl
 have minv:zZt (yA (iL (eV 1)) 1 [] (gN 0) (eB2 uR (eV 0) (eC .non)) (eV 0)) [.fz (zM n j ps),.fz (.lst (l.map pJ)),.no]=if ((l.filterMap id).map fun(m:Nat)=>(m:Int)+1).isEmpty=true then some .non else some (.int (fM ((l.filterMap id).map fun(m:Nat)=>(m:Int)+1))):=by
   unfold zZt
   rw[e2,Qr,zUL,Qr]
 have mem_l:∀ {k:Nat} {m:Nat},k+1 < ps.length->lv k=some m->m∈l.filterMap id:=fun {k m} hk e=>by
   rw[Ur]
   refine⟨some m,?_,rfl⟩
   rw[←hl,←e]
   exact Wx.mpr ⟨k,To.mpr (by omega),rfl⟩
 by_cases he:l.filterMap id=[]
 · left
   refine⟨pre .non _ (by rw[minv,he];rfl) rfl,fun k hk=>?_⟩
   cases ho:lv k with
   | none=>exact(hlv k hk).2.1 ho
   | some m=>have:=mem_l hk ho;rw[he] at this;cases this
 · right
   obtain⟨m0,hm0,le,mn⟩:=zQL he
   have hsm:some m0∈l:=by
     obtain⟨o,ho,e⟩:=Ur.mp hm0
     have:o=some m0:=e
     rw[←this];exact ho
   obtain⟨k,ik,gk⟩:=zMZ m0 l hsm
   have hk:k < ps.length - 1:=by rw[←hlen];exact(Ql.mp gk).1
   have lvk:lv k=some m0:=by
     rw[←hl,Wu,List.getElem?_range hk] at gk
     exact Wp gk
   obtain⟨q1,q2,q3⟩:=(hlv k (by omega)).2.2 m0 lvk
   refine⟨k,m0,by omega,q1,pre (.int ((m0:Int)+1)) _ ?_ ?_,q2,fun k' hk' i hi=>?_⟩
   · rw[minv,le,Wy]
     intro z
     rw[List.isEmpty_iff,List.map_eq_nil_iff] at z
     exact he z
   · unfold sZ
     refine zNa rfl ?_
     unfold kE xU yX
     rw[yF (d:=.int (k:Nat)) (ds:=[.int ((m0:Int)+1)]) ?_ rfl]
     · rfl
     · unfold zZU
       show(if (l.map pJ).length<=100000 then(ixE (fun z=>eqN z (.int ((m0:Int)+1))) (l.map pJ)).map _ else none)=_
       rw[Qx (by rw[Qg];omega),ik]
       rfl
   · cases ho:lv k' with
     | none=>exact(hlv k' hk').2.1 ho i
     | some m=>exact((hlv k' hk').2.2 m ho).2.2 i (by have:=mn m (mem_l hk' ho);omega)
theorem zOy (x0 x2 x3:B):∀xs ys:List Int,xs.length=n->ys.length=n->zVK (yA (iR (eV 1)) 1 [4,5] (gN 0) tOK (zQJ (wO (eIx (eV 1) (eV 0)) (eIx (eV 2) (eV 0))))) [x0,.fz (.int n),x2,x3,.fz (yS xs),.fz (yS ys)]=some (.int (dst xs ys)):=by
 rcases hn with rfl | rfl
 · intro xs ys hx hy
   match xs,ys,hx,hy with
   | [a,b],[c,d],_,_=>kernel_rfl
 · intro xs ys hx hy
   match xs,ys,hx,hy with
   | [a,b,e],[c,d,f],_,_=>kernel_rfl
def plc (ps:List Pt)(n L a:Nat):List Int:=plW ps n (yI n) false (fun _=>0) (sC ps.length a L).reverse
theorem zPB {L a:Nat}(hL:L<=10000)(ha:a+1 < ps.length^L):uU [zM n j ps,.int n,.int (L:Nat),.int (a:Nat)]=some (.bl (decide (dst (plc ps n L a) (plc ps n L (a+1))=1))):=by
 have e1:sB [zM n j ps,.int (L:Nat),.int (a:Nat)]=some (yS (plc ps n L a)):=zVn hn ok j hL (by omega)
 have e2:sB [zM n j ps,.int (L:Nat),.int ((a+1:Nat):Nat)]=some (yS (plc ps n L (a+1))):=zVn hn ok j hL ha
 have l1:(plc ps n L a).length=n:=by simp[plc,plW]
 have l2:(plc ps n L (a+1)).length=n:=by simp[plc,plW]
 have sm:=zOy hn ok (.fz (zM n j ps)) (.fz (.int (L:Nat))) (.fz (.int (a:Nat))) (plc ps n L a) (plc ps n L (a+1)) l1 l2
 generalize plc ps n L a=xs at *
 generalize plc ps n L (a+1)=ys at *
 show(oO [.fz (zM n j ps),.fz (.int n),.fz (.int (L:Nat)),.fz (.int (a:Nat)),.no,.no]).bind w8=_
 unfold oO
 refine wC ((sI rfl rfl rfl).trans e1) ?_
 unfold jB
 refine wC ((sI (z:=.int ((a+1:Nat):Nat)) rfl rfl (by rw[show((a+1:Nat):Int)=(a:Int)+1 by omega];exact yN rfl rfl rfl)).trans e2) ?_
 unfold bJ xU sE
 dsimp only[List.set]
 rw[uQ sm]
 rfl
theorem zYJ (x1 x2:B):∀(its:List D) (p:Nat) (x4:B),p*ps.length^its.length<=2^30000->0 < p ->
   ∃y4,sD (gN 4) sP its [.fz (zM n j ps),x1,x2,.fz (.int (p:Nat)),x4]=some (.nx [.fz (zM n j ps),x1,x2,.fz (.int ((p*ps.length^its.length:Nat):Nat)),y4])
 | [],p,x4,_,_=>⟨x4,by simp[sD]⟩
 | d::r,p,x4,hp,h0=>by
   have hs:=ok.small hn
   have hB:0 < ps.length:=by rw[ok.len];exact Ed (by decide)
   have hp':p*ps.length*ps.length^r.length<=2^30000:=by
     rw[Qi,Rv,Ev (ps.length^r.length) ps.length,←Ri] at hp
     exact hp
   obtain⟨y4,ih⟩:=zYJ x1 x2 r (p*ps.length) (.fz d) hp' (Yt h0 hB)
   refine⟨y4,?_⟩
   have hple:p<=2^30000:=Wi (by
     have h1:p*1<=p*(ps.length*ps.length^r.length):=Im p (Yt hB (Ed hB))
     rw[On,←Ri] at h1
     exact h1) hp'
   have b1:Builtin.Int.intBits (p:Int)<=2097152:=w4 (m:=30001) (by
     rw[Ec]
     exact Rj hple (Rn (by decide) (by decide))) (by decide)
   have b2:Builtin.Int.intBits (ps.length:Int)<=2097152:=w4 (m:=4) (by
     rw[Ec];omega) (by decide)
   rw[tL (ρ1:=[.fz (zM n j ps),x1,x2,.fz (.int (p:Nat)),.fz d]) (ρ2:=[.fz (zM n j ps),x1,x2,.fz (.int ((p*ps.length:Nat):Nat)),.fz d]) rfl ?_,ih]
   · rw[Qi,Rv,Ev (ps.length^r.length) ps.length,←Ri]
   · unfold sP yY
     rw[show oK (eV 3) (wA (wX "Curve" "parts" (eV 0))) [.fz (zM n j ps),x1,x2,.fz (.int (p:Nat)),.fz d]=some (.int ((p*ps.length:Nat):Nat)) from by
       rw[Tk]
       refine yN rfl (mS rfl) ?_
       unfold bB
       rw[Qt b1,Qt b2];rfl]
     rfl
theorem zPc {k m:Nat}(hk:k+1 < ps.length)(hm:m<=9900):jQ [zM n j ps,.int n,vK k m]=some (.bl !(decide (Adj ps n k m))):=by
 have hs:=ok.small hn
 have hB:0 < ps.length:=by omega
 have hpow:ps.length^m<=2^29700:=by
   rw[ok.len,←Ib]
   exact Rm (by decide) (Wi (Tc (show n<=3 by omega) hm) (by decide))
 have hpow2:ps.length^m<=2^30000:=Wi hpow (Rm (by decide) (by decide))
 obtain⟨y4,lp⟩:=zYJ hn ok j (.fz (.int n)) (.fz (vK k m)) (tX 0 m) 1 .no (by rw[uI,Uj];exact hpow2) (by decide)
 rw[uI,Uj] at lp
 have hp0:0 < ps.length^m:=Ed hB
 have hnum:(k+1)*ps.length^m - 1+1=(k+1)*ps.length^m:=Nat.sub_add_cancel (Yt (by omega) hp0)
 have hlt:(k+1)*ps.length^m - 1+1 < ps.length^(m+1):=by
   rw[hnum,Rv,Ev (ps.length^m)]
   exact Nat.mul_lt_mul_of_pos_right hk hp0
 have me:=zPB hn ok j (L:=m+1) (by omega) hlt
 have pe:plc ps n (m+1) ((k+1)*ps.length^m - 1)=gP ps n (yT ps k m):=by
   unfold plc gP yT
   rw[zUT hn ok hB k (by omega) m]
   rfl
 have pf:plc ps n (m+1) ((k+1)*ps.length^m - 1+1)=gP ps n (zF k m):=by
   rw[hnum]
   unfold plc gP zF
   rw[zXp hn ok hB (k+1) hk m]
   rfl
 rw[pe,pf] at me
 have dd:decide (dst (gP ps n (yT ps k m)) (gP ps n (zF k m))=1)=decide (Adj ps n k m):=by
   by_cases h:Adj ps n k m
   · rw[Qt h,Qt ((zZQ hn).mpr h)]
   · rw[Qf h,Qf fun z=>h ((zZQ hn).mp z)]
 rw[dd] at me
 have hl2:∀ρ:List B,ρ[2]?=some (.fz (vK k m))->wQ xB "level" (eV 2) ρ=some (.int ((m:Int)+1)):=fun ρ h=>by
   unfold wQ eV;rw[show rC ρ 2=some (vK k m) from by unfold rC;rw[h]];rfl
 have hl1:∀ρ:List B,ρ[2]?=some (.fz (vK k m))->wQ tW "second" (eV 2) ρ=some (.int ((k:Int)+1)):=fun ρ h=>by
   unfold wQ eV;rw[show rC ρ 2=some (vK k m) from by unfold rC;rw[h]];rfl
 have hl0:∀ρ:List B,ρ[2]?=some (.fz (vK k m))->wQ sA "first" (eV 2) ρ=some (.int (k:Int)):=fun ρ h=>by
   unfold wQ eV;rw[show rC ρ 2=some (vK k m) from by unfold rC;rw[h]];rfl
 have env:∀x3 x4:B,[.fz (zM n j ps),.fz (.int n),.fz (vK k m),x3,x4][2]?=some (B.fz (vK k m)):=fun _ _=>rfl
 have nm:(((k+1)*ps.length^m - 1:Nat):Int)=((k:Int)+1)*((ps.length^m:Nat):Int) - 1:=by
   rw[Int.natCast_sub (Yt (by omega) hp0),Tk];rfl
 generalize hu:vK k m=u at *
 show(rS [.fz (zM n j ps),.fz (.int n),.fz u,.no,.no]).bind w8=_
 unfold rS
 have t0:aR (eB2 gNe (wQ tW "second" (eV 2)) (tG (wQ sA "first" (eV 2)) (eC (.int 1)))) (eB2 gLt (wQ xB "level" (eV 2)) (eC (.int 1))) [.fz (zM n j ps),.fz (.int n),.fz u,.no,.no]=some false:=by
   unfold aR eB2
   rw[hl1 _ (env _ _),show tG (wQ sA "first" (eV 2)) (eC (.int 1)) [.fz (zM n j ps),.fz (.int n),.fz u,.no,.no]=some (.int ((k:Int)+1)) from yN (hl0 _ (env _ _)) rfl rfl,hl2 _ (env _ _)]
   rw[Qr,Qr,show gNe (.int ((k:Int)+1)) (.int ((k:Int)+1))=some false from by(unfold gNe;rw[show gEq (.int ((k:Int)+1)) (.int ((k:Int)+1))=some (decide ((k:Int)+1=(k:Int)+1)) from rfl,Qt rfl];rfl),Qr,Wy (by decide),Qr]
   show some (decide ((m:Int)+1 < 1))=_
   rw[Qf (by omega)]
 rw[zA ((xZ t0).trans rfl)]
 unfold nO
 have lp1:wO (wA (wX "Curve" "parts" (eV 0))) (eC (.int 1)) [.fz (zM n j ps),.fz (.int n),.fz u,.no,.no]=some (.int ((ps.length:Int) - 1)):=yN (mS rfl) rfl rfl
 have t1:rF (eB3 gLe gLt (eC (.int 0)) (wQ sA "first" (eV 2)) (wO (wA (wX "Curve" "parts" (eV 0))) (eC (.int 1)))) [.fz (zM n j ps),.fz (.int n),.fz u,.no,.no]=some false:=by
   unfold rF eB3
   rw[hl0 _ (env _ _),lp1]
   show Option.map not (if decide ((0:Int)<=(k:Int))=true then some (decide ((k:Int) < (ps.length:Int) - 1)) else some false)=_
   rw[Qx (Qt (by omega)),Qt (by omega)];rfl
 rw[zA ((xZ t1).trans rfl)]
 unfold nJ
 refine wC (d:=.int 1) rfl ?_
 unfold nD
 refine xL (ρ':=[.fz (zM n j ps),.fz (.int n),.fz u,.fz (.int ((ps.length^m:Nat):Nat)),y4]) ?_ ?_
 · show tU (iR (wO (wQ xB "level" (eV 2)) (eC (.int 1)))) (gN 4) sP [.fz (zM n j ps),.fz (.int n),.fz u,.fz (.int ((1:Nat):Nat)),.no]=_
   have hir:iR (wO (wQ xB "level" (eV 2)) (eC (.int 1))) [.fz (zM n j ps),.fz (.int n),.fz u,.fz (.int ((1:Nat):Nat)),.no]=some (tX 0 m):=by
     refine zPA hB hs (L:=m) ?_ (by omega)
     have:wO (wQ xB "level" (eV 2)) (eC (.int 1)) [.fz (zM n j ps),.fz (.int n),.fz u,.fz (.int ((1:Nat):Nat)),.no]=some (.int ((m:Int)+1 - 1)):=yN (hl2 _ (env _ _)) rfl rfl
     rw[this,Int.add_sub_cancel]
   unfold tU
   rw[hir,Qr]
   exact lp
 · unfold hW xU
   have b1:Builtin.Int.intBits ((k:Int)+1)<=2097152:=w4 (m:=4) (by omega) (by decide)
   have b2:Builtin.Int.intBits ((ps.length^m:Nat):Int)<=2097152:=w4 (m:=30001) (by
     rw[Ec]
     exact Rj hpow2 (Rn (by decide) (by decide))) (by decide)
   have hv:wO (oK (wQ tW "second" (eV 2)) (eV 3)) (eC (.int 1)) [.fz (zM n j ps),.fz (.int n),.fz u,.fz (.int ((ps.length^m:Nat):Nat)),y4]=some (.int (((k+1)*ps.length^m - 1:Nat):Nat)):=by
     rw[nm]
     refine yN (yN (hl1 _ (env _ _)) rfl ?_) rfl rfl
     unfold bB
     rw[Qt b1,Qt b2];rfl
   have me':zL 4 uU (zY (eV 0) (zY (eV 1) (zY (wQ xB "level" (eV 2)) (zY (wO (oK (wQ tW "second" (eV 2)) (eV 3)) (eC (.int 1))) zR)))) [.fz (zM n j ps),.fz (.int n),.fz u,.fz (.int ((ps.length^m:Nat):Nat)),y4]=some (.bl (decide (Adj ps n k m))) :=
     (zMV (z:=.int ((m+1:Nat):Nat)) rfl rfl (hl2 _ (env _ _)) hv).trans me
   unfold sE rF tB1
   rw[me']
   rfl
end
theorem iRn {f:Ef}{ρ:List B}{L:Nat}(h:f ρ=some (.int (L:Nat)))(hL:L<=1000):iR f ρ=some (tX 0 L):=by
 unfold iR
 rw[h,Qr]
 show(if decide (-1000000<=(L:Int))&&decide ((L:Int)<=1000000) then some (tX 0 (L:Int).toNat) else none)=_
 rw[Qt (by omega),Qt (by omega),Rs]
 rfl
theorem zZ2 (ns:List Int)(k:Nat):∃c,rO [.lst (ns.map .int),.int (k:Nat)]=some (.int c):=by
 show ∃c,(uD [.fz (.lst (ns.map .int)),.fz (.int (k:Nat))]).bind w8=some (.int c)
 have t:eB2 gLt (eV 1) (wA (eV 0)) [.fz (.lst (ns.map .int)),.fz (.int (k:Nat))]=some (decide ((k:Int) < (ns.length:Nat))):=by
   show some (decide ((k:Int) < ((ns.map D.int).length:Nat)))=_
   rw[Qg]
 unfold uD
 by_cases h:(k:Int) < (ns.length:Nat)
 · refine⟨ns.getD k 0,?_⟩
   rw[iN (d:=.int (ns.getD k 0)) ((xZ t).trans (by
     rw[Qt h,Qx rfl]
     unfold xU
     rw[show eIx (eV 0) (eV 1) [.fz (.lst (ns.map .int)),.fz (.int (k:Nat))]=some (.int (ns.getD k 0)) from by
       show atI (ns.map D.int) (k:Nat)=_
       rw[dR,dF ns _ 0 (by omega) h]
       rfl]
     rfl))]
   rfl
 · refine⟨0,?_⟩
   rw[zA (ρ':=[.fz (.lst (ns.map .int)),.fz (.int (k:Nat))]) ((xZ t).trans (by rw[Qf h];rfl))]
   rfl
theorem zX3 {n:Nat}(hn:n=2∨n=3)(x0 x2:B):∀(its:List D) (p:Nat) (x4 x5 x6:B),p*(2^n)^its.length<=2^200->0 < p ->
   ∃y4,sD (gN 4) uF its [x0,.fz (.int (n:Nat)),x2,.fz (.int (p:Nat)),x4,x5,x6]=some (.nx [x0,.fz (.int (n:Nat)),x2,.fz (.int ((p*(2^n)^its.length:Nat):Nat)),y4,x5,x6])
 | [],p,x4,x5,x6,_,_=>⟨x4,by simp[sD]⟩
 | d::r,p,x4,x5,x6,hp,h0=>by
   have hp':p*2^n*(2^n)^r.length<=2^200:=by
     rw[Qi,Rv,Ev ((2^n)^r.length) (2^n),←Ri] at hp
     exact hp
   obtain⟨y4,ih⟩:=zX3 hn x0 x2 r (p*2^n) (.fz d) x5 x6 hp' (Yt h0 (Ed (by decide)))
   refine⟨y4,?_⟩
   have hple:p<=2^200:=by
     have h1:p*1<=p*2^n*(2^n)^r.length:=by
       rw[Ri]
       exact Im p (Yt (Ed (by decide)) (Ed (Ed (by decide))))
     omega
   have hb:Builtin.Int.intBits (p:Int)<=2097152:=w4 (m:=201) (by
     rw[Ec]
     exact Rj hple (Rn (by decide) (by decide))) (by decide)
   rw[tL (ρ1:=[x0,.fz (.int (n:Nat)),x2,.fz (.int (p:Nat)),.fz d,x5,x6]) (ρ2:=[x0,.fz (.int (n:Nat)),x2,.fz (.int ((p*2^n:Nat):Nat)),.fz d,x5,x6]) rfl ?_,ih]
   · rw[Qi,Rv,Ev ((2^n)^r.length) (2^n),←Ri]
   · unfold uF yY
     have hf:eIx (eL (xP (zY (eC (.int 4)) (zY (eC (.int 8)) zR)))) (wO (eV 1) (eC (.int 2))) [x0,.fz (.int (n:Nat)),x2,.fz (.int (p:Nat)),.fz d,x5,x6]=some (.int ((2^n:Nat):Nat)):=by
       rcases hn with rfl | rfl<;>kernel_rfl
     have hb2:Builtin.Int.intBits ((2^n:Nat):Int)<=2097152:=by rcases hn with rfl | rfl<;>decide
     rw[show oK (eV 3) (eIx (eL (xP (zY (eC (.int 4)) (zY (eC (.int 8)) zR)))) (wO (eV 1) (eC (.int 2)))) [x0,.fz (.int (n:Nat)),x2,.fz (.int (p:Nat)),.fz d,x5,x6]=some (.int ((p*2^n:Nat):Nat)) from by
       rw[Tk]
       refine yN rfl hf ?_
       unfold bB
       rw[Qt hb,Qt hb2];rfl]
     rfl
theorem zV8 (x0 x1 x2 x4:B)(M p z:Int):sR [x0,x1,x2,.fz (.int M),x4,.fz (.int p),.fz (.int z)]=some (.rt (.int (if p=0 then 0 else if p=1 then M - 1 else z))):=by
 unfold sR
 by_cases h0:p=0
 · rw[Qx h0,iN (d:=.int 0) ((xZ (uQ (x:=p) rfl)).trans (by rw[Qt h0];rfl))]
 · rw[Wy h0,zA ((xZ (uQ (x:=p) rfl)).trans (by rw[Qf h0];rfl))]
   unfold pA
   by_cases h1:p=1
   · rw[Qx h1,iN (d:=.int (M - 1)) ((xZ (uQ (x:=p) rfl)).trans (by rw[Qt h1];rfl))]
   · rw[Wy h1,zA ((xZ (uQ (x:=p) rfl)).trans (by rw[Qf h1];rfl))]
     rfl
def zYc:Int:=7046029254386353131^(3:Int).toNat
def zUH (c M:Int):Int :=
 if (if (10:Int)^12<=c then c / 2^30 % 1024 % 5 else c % 5)=0 then 0 else if (if (10:Int)^12<=c then c / 2^30 % 1024 % 5 else c % 5)=1 then M - 1 else(if (10:Int)^12<=c then c / 2^40 % M else c*zYc % M)
theorem zPb (M:Int):zUH 1 M=M - 1:=by
 unfold zUH
 rw[Wy (by decide),Qx (by decide)]
theorem zTy (c:Int){M:Int}(h:0 < M):0<=zUH c M/\zUH c M < M:=by
 unfold zUH
 have h1:=Uw (c / 2^40) (Int.ne_of_gt h)
 have h2:=Yf (c / 2^40) h
 have h3:=Uw (c*zYc) (Int.ne_of_gt h)
 have h4:=Yf (c*zYc) h
 generalize(if (10:Int)^12<=c then c / 2^30 % 1024 % 5 else c % 5)=p
 by_cases q0:p=0
 · rw[Qx q0];omega
 · rw[Wy q0]
   by_cases q1:p=1
   · rw[Qx q1];omega
   · rw[Wy q1]
     split
     · exact⟨h1,h2⟩
     · exact⟨h3,h4⟩
theorem iQ {f:Ef}{ρ:List B}{c:Int}(h:f ρ=some (.int c)):eB2 gGe f (aJ (eC (.int 10)) (eC (.int 12))) ρ=some (decide ((10:Int)^12<=c)):=by
 unfold eB2
 rw[h,Qr,show aJ (eC (.int 10)) (eC (.int 12)) ρ=some (.int (10^12)) from yN (C:=zR9) (g:=fun i j=>i^j.toNat) (i:=10) (j:=12) rfl rfl (by decide),Qr]
 rfl
theorem zRw:Builtin.Int.intBits zYc<=2097152:=by decide +kernel
theorem zOp (ρ:List B):aJ (eC (.int 7046029254386353131)) (eC (.int 3)) ρ=some (.int zYc):=yN (C:=zR9) (g:=fun i j=>i^j.toNat) (i:=7046029254386353131) (j:=3) rfl rfl (by decide)
theorem zZr {n L:Nat}(hn:n=2∨n=3)(hL:L<=60)(c:Int)(hc:Builtin.Int.intBits c<=1048576):qH [.int c,.int (n:Nat),.int (L:Nat)]=some (.int (zUH c (((2^n)^L:Nat):Int))):=by
 have hle:(2^n)^L<=2^200:=by
   rw[←Ib]
   exact Rm (by decide) (Wi (Tc (show n<=3 by omega) hL) (by decide))
 obtain⟨y4,e⟩:=zX3 hn (.fz (.int c)) (.fz (.int (L:Nat))) (tX 0 L) 1 .no .no .no (by rw[uI,Uj];exact hle) (by decide)
 rw[uI,Uj] at e
 have hpos:0 < (2^n)^L:=Ed (Ed (by decide))
 generalize(2^n)^L=M at e hpos hle
 have hM:(0:Int) < (M:Nat):=by omega
 have hbig:∀x5:B,xK (oK (eV 0) (aJ (eC (.int 7046029254386353131)) (eC (.int 3)))) (eV 3) [.fz (.int c),.fz (.int (n:Nat)),.fz (.int (L:Nat)),.fz (.int (M:Nat)),y4,x5,.no]=some (.int (c*zYc % (M:Nat))):=fun x5=>by
   refine yN (i:=c*zYc) (j:=(M:Nat)) (yN (g:=fun i j=>i*j) rfl (zOp _) ?_) rfl (Qt hM)
   unfold bB
   rw[Qt (Wi hc (by decide)),Qt zRw]
   rfl
 show(sX [.fz (.int c),.fz (.int (n:Nat)),.fz (.int (L:Nat)),.no,.no,.no,.no]).bind w8=_
 unfold sX
 refine wC (d:=.int 1) rfl ?_
 unfold qA
 refine xL (ρ':=[.fz (.int c),.fz (.int (n:Nat)),.fz (.int (L:Nat)),.fz (.int (M:Nat)),y4,.no,.no]) ?_ ?_
 · show tU (iR (eV 2)) (gN 4) uF [.fz (.int c),.fz (.int (n:Nat)),.fz (.int (L:Nat)),.fz (.int ((1:Nat):Nat)),.no,.no,.no]=_
   unfold tU
   rw[iRn (L:=L) rfl (by omega),Qr]
   exact e
 unfold pL
 refine wC (d:=.int (c % 5)) (yN rfl rfl rfl) ?_
 unfold pM
 dsimp only[List.set]
 refine wC (d:=.int (c*zYc % (M:Nat))) (hbig _) ?_
 unfold pI zUH
 dsimp only[List.set]
 by_cases h:(10:Int)^12<=c
 · rw[Qx h,Qx h]
   refine xL (ρ':=[.fz (.int c),.fz (.int (n:Nat)),.fz (.int (L:Nat)),.fz (.int (M:Nat)),y4,.fz (.int (c / 2^30 % 1024 % 5)),.fz (.int (c / 2^40 % (M:Nat)))]) ((xZ (iQ rfl)).trans ?_) ?_
   · rw[Qt h,Qx rfl]
     rw[vE (d:=.int (c / 2^30 % 1024 % 5)) (yN (i:=c / 2^30 % 1024) (j:=5) (yN (i:=c / 2^30) (j:=1024) (yN (C:=fun _ j=>decide (0<=j)) (g:=fun i j=>i / 2^j.toNat) (i:=c) (j:=30) rfl rfl rfl) rfl rfl) rfl rfl)]
     dsimp only[List.set]
     unfold yY
     rw[show xK (zU7 (eV 0) (eC (.int 40))) (eV 3) [.fz (.int c),.fz (.int (n:Nat)),.fz (.int (L:Nat)),.fz (.int (M:Nat)),y4,.fz (.int (c / 2^30 % 1024 % 5)),.fz (.int (c*zYc % (M:Nat)))]=some (.int (c / 2^40 % (M:Nat))) from
       yN (i:=c / 2^40) (j:=(M:Nat)) (yN (C:=fun _ j=>decide (0<=j)) (g:=fun i j=>i / 2^j.toNat) (i:=c) (j:=40) rfl rfl rfl) rfl (Qt hM)]
     rfl
   · rw[zV8];rfl
 · rw[Wy h,Wy h]
   refine xL (ρ':=[.fz (.int c),.fz (.int (n:Nat)),.fz (.int (L:Nat)),.fz (.int (M:Nat)),y4,.fz (.int (c % 5)),.fz (.int (c*zYc % (M:Nat)))]) ((xZ (iQ rfl)).trans ?_) ?_
   · rw[Qf h];rfl
   · rw[zV8];rfl
theorem zU3 (c s f:Int):0<=zYb c s f:=by
 unfold zYb zWt
 split<;>omega
theorem zY1 (x0 x1 x2 x3 x5 x6:B){b:Nat}(hb:b<=8):∀(its:List D) (p:Nat) (x8:B),p*b^its.length<=2^200->0 < p->0 < b ->
   ∃y8,sD (gN 8) sY its [x0,x1,x2,x3,.fz (.int (b:Nat)),x5,x6,.fz (.int (p:Nat)),x8]=some (.nx [x0,x1,x2,x3,.fz (.int (b:Nat)),x5,x6,.fz (.int ((p*b^its.length:Nat):Nat)),y8])
 | [],p,x8,_,_,_=>⟨x8,by simp[sD]⟩
 | d::r,p,x8,hp,h0,hb0=>by
   have hp':p*b*b^r.length<=2^200:=by
     rw[Qi,Rv,Ev (b^r.length) b,←Ri] at hp
     exact hp
   obtain⟨y8,ih⟩:=zY1 x0 x1 x2 x3 x5 x6 hb r (p*b) (.fz d) hp' (Yt h0 hb0) hb0
   refine⟨y8,?_⟩
   have hple:p<=2^200:=by
     have h1:p*1<=p*b*b^r.length:=by
       rw[Ri]
       exact Im p (Yt hb0 (Ed hb0))
     omega
   have h1:Builtin.Int.intBits (p:Int)<=2097152:=w4 (m:=201) (by
     rw[Ec]
     exact Rj hple (Rn (by decide) (by decide))) (by decide)
   have h2:Builtin.Int.intBits (b:Int)<=2097152:=w4 (m:=4) (by
     rw[Ec];omega) (by decide)
   rw[tL (ρ1:=[x0,x1,x2,x3,.fz (.int (b:Nat)),x5,x6,.fz (.int (p:Nat)),.fz d]) (ρ2:=[x0,x1,x2,x3,.fz (.int (b:Nat)),x5,x6,.fz (.int ((p*b:Nat):Nat)),.fz d]) rfl ?_,ih]
   · rw[Qi,Rv,Ev (b^r.length) b,←Ri]
   · unfold sY yY
     rw[show oK (eV 7) (eV 4) [x0,x1,x2,x3,.fz (.int (b:Nat)),x5,x6,.fz (.int (p:Nat)),.fz d]=some (.int ((p*b:Nat):Nat)) from by
       rw[Tk]
       refine yN rfl rfl ?_
       unfold bB
       rw[Qt h1,Qt h2];rfl]
     rfl
theorem zQn {n L:Nat}(hn:n=2∨n=3)(hL:L<=60)(hL1:1<=L)(c:Int)(hc:Builtin.Int.intBits c<=1048576):∃a:Nat,a+1 < (2^n)^L/\oB [.int c,.int (n:Nat),.int (L:Nat)]=some (.int (a:Nat)):=by
 have e1:=zUc c 16807 (by decide) (by decide)
 have r0:0<=zWt c 16807:=by unfold zWt;omega
 generalize zWt c 16807=r1 at e1 r0
 obtain⟨r,r0',er⟩:∃r:Int,0<=r/\sIf (eB2 gGe (eV 0) (aJ (eC (.int 10)) (eC (.int 12)))) (yY 3 (eF (xK (zU7 (eV 0) (eC (.int 30))) (eC (.int 1024))) (eC (.int 5)))) xH [.fz (.int c),.fz (.int (n:Nat)),.fz (.int (L:Nat)),.fz (.int r1),.no,.no,.no,.no,.no]=some (.nx [.fz (.int c),.fz (.int (n:Nat)),.fz (.int (L:Nat)),.fz (.int r),.no,.no,.no,.no,.no]):=by
   by_cases h:(10:Int)^12<=c
   · refine⟨c / 2^30 % 1024 / 5,by omega,(xZ (iQ rfl)).trans ?_⟩
     rw[Qt h,Qx rfl]
     unfold yY
     rw[show eF (xK (zU7 (eV 0) (eC (.int 30))) (eC (.int 1024))) (eC (.int 5)) [.fz (.int c),.fz (.int (n:Nat)),.fz (.int (L:Nat)),.fz (.int r1),.no,.no,.no,.no,.no]=some (.int (c / 2^30 % 1024 / 5)) from
       yN (i:=c / 2^30 % 1024) (j:=5) (yN (i:=c / 2^30) (j:=1024) (yN (C:=fun _ j=>decide (0<=j)) (g:=fun i j=>i / 2^j.toNat) (i:=c) (j:=30) rfl rfl rfl) rfl rfl) rfl (show(decide ((0:Int) < 5)&&decide ((5:Int).natAbs.log2 < 9000))=true by decide)]
     rfl
   · exact⟨r1,r0,(xZ (iQ rfl)).trans (by rw[Qf h];rfl)⟩
 have hpos:0 < (2^n)^L:=Ed (Ed (by decide))
 have e2:=zZr hn hL c hc
 have e3:=zZr hn hL 1 (by decide)
 rw[zPb] at e3
 obtain⟨b0,b1⟩:=zTy c (M:=(((2^n)^L:Nat):Int)) (by omega)
 generalize zUH c (((2^n)^L:Nat):Int)=aI0 at e2 b0 b1
 obtain⟨a0,rfl⟩:∃a0:Nat,aI0=a0:=⟨aI0.toNat,by omega⟩
 have ha0:a0 < (2^n)^L:=by omega
 have hle:(2^n)^L<=2^200:=by
   rw[←Ib]
   exact Rm (by decide) (Wi (Tc (show n<=3 by omega) hL) (by decide))
 have h4:4<=(2^n)^L:=by
   have h1:(2^n)^1<=(2^n)^L:=Rm (Ed (by decide)) hL1
   have h2:4<=2^n:=by rcases hn with rfl | rfl<;>decide
   rw[Nat.pow_one] at h1
   omega
 have hb8:2^n<=8:=by rcases hn with rfl | rfl<;>decide
 have hb0:0 < 2^n:=Ed (by decide)
 have hbase:∀x0 x2 x3 x4 x5 x6 x7 x8:B,eIx (eL (xP (zY (eC (.int 4)) (zY (eC (.int 8)) zR)))) (wO (eV 1) (eC (.int 2))) [x0,.fz (.int (n:Nat)),x2,x3,x4,x5,x6,x7,x8]=some (.int ((2^n:Nat):Nat)):=by
   intro x0 x2 x3 x4 x5 x6 x7 x8
   rcases hn with rfl | rfl<;>kernel_rfl
 have hpow:∀k,k<=L->(2^n)^k<=2^200:=fun k hk=>Wi (Rm hb0 hk) hle
 generalize(2^n)^L=M at e3 hpos ha0 b1 h4 hle
 have fin:∀(z:Int) (x7 x8:B),-1<=z->z < (M:Nat)->∃a:Nat,a+1 < M/\(nP [.fz (.int c),.fz (.int (n:Nat)),.fz (.int (L:Nat)),.fz (.int r),.fz (.int ((2^n:Nat):Nat)),.fz (.int ((M:Int) - 1)),.fz (.int z),x7,x8]).bind w8=some (.int (a:Nat)):=by
   intro z x7 x8 z0 z1
   have hmin:zWR (wO (eV 5) (eC (.int 1))) (eV 6) [.fz (.int c),.fz (.int (n:Nat)),.fz (.int (L:Nat)),.fz (.int r),.fz (.int ((2^n:Nat):Nat)),.fz (.int ((M:Int) - 1)),.fz (.int z),x7,x8]=some (.int (if z < (M:Int) - 1 - 1 then z else(M:Int) - 1 - 1)):=by
     unfold zWR
     rw[show wO (eV 5) (eC (.int 1)) [.fz (.int c),.fz (.int (n:Nat)),.fz (.int (L:Nat)),.fz (.int r),.fz (.int ((2^n:Nat):Nat)),.fz (.int ((M:Int) - 1)),.fz (.int z),x7,x8]=some (.int ((M:Int) - 1 - 1)) from yN rfl rfl rfl,Qr]
     rfl
   unfold nP xU zTv
   rw[hmin]
   refine⟨(if (if z < (M:Int) - 1 - 1 then z else(M:Int) - 1 - 1) > 0 then(if z < (M:Int) - 1 - 1 then z else(M:Int) - 1 - 1) else 0).toNat,?_,?_⟩
   · split<;>split<;>omega
   · rw[show(((if (if z < (M:Int) - 1 - 1 then z else(M:Int) - 1 - 1) > 0 then(if z < (M:Int) - 1 - 1 then z else(M:Int) - 1 - 1) else 0).toNat:Nat):Int)=(if (if z < (M:Int) - 1 - 1 then z else(M:Int) - 1 - 1) > 0 then(if z < (M:Int) - 1 - 1 then z else(M:Int) - 1 - 1) else 0) from by
       split<;>omega]
     rfl
 have go:∀s,(uH [.fz (.int c),.fz (.int (n:Nat)),.fz (.int (L:Nat)),.fz (.int r),.fz (.int ((2^n:Nat):Nat)),.fz (.int ((M:Int) - 1)),.fz (.int (a0:Nat)),.no,.no]).bind w8=s->oB [.int c,.int (n:Nat),.int (L:Nat)]=s:=fun s h=>by
   show(rN [.fz (.int c),.fz (.int (n:Nat)),.fz (.int (L:Nat)),.no,.no,.no,.no,.no,.no]).bind w8=s
   unfold rN
   refine wC ((vD rfl rfl).trans e1) ?_
   unfold nC
   refine xL er ?_
   unfold nA
   refine wC (hbase _ _ _ _ _ _ _ _) ?_
   unfold nV
   refine wC ((sI rfl rfl rfl).trans e3) ?_
   unfold nE
   exact wC ((sI rfl rfl rfl).trans e2) h
 have tt:eB2 gEq (xK (eV 3) (eC (.int 2))) (eC (.int 0)) [.fz (.int c),.fz (.int (n:Nat)),.fz (.int (L:Nat)),.fz (.int r),.fz (.int ((2^n:Nat):Nat)),.fz (.int ((M:Int) - 1)),.fz (.int (a0:Nat)),.no,.no]=some (decide (r % 2=0)):=uQ (yN rfl rfl rfl)
 by_cases hr:r % 2=0
 · have hm0:0<=r / 2 % (L:Int):=Uw _ (by omega)
   have hm1:r / 2 % (L:Int) < L:=Yf _ (by omega)
   have hmod:xK (eF (eV 3) (eC (.int 2))) (eV 2) [.fz (.int c),.fz (.int (n:Nat)),.fz (.int (L:Nat)),.fz (.int r),.fz (.int ((2^n:Nat):Nat)),.fz (.int ((M:Int) - 1)),.fz (.int (a0:Nat)),.fz (.int 1),.no]=some (.int (r / 2 % (L:Int))):=yN (yN rfl rfl (show(decide ((0:Int) < 2)&&decide ((2:Int).natAbs.log2 < 9000))=true by decide)) rfl (Qt (by omega))
   generalize r / 2 % (L:Int)=mI at hmod hm0 hm1
   obtain⟨k,rfl⟩:∃k:Nat,mI=k:=⟨mI.toNat,by omega⟩
   have hk:=hpow k (by omega)
   obtain⟨y8,lp⟩:=zY1 (.fz (.int c)) (.fz (.int (n:Nat))) (.fz (.int (L:Nat))) (.fz (.int r)) (.fz (.int ((M:Int) - 1))) (.fz (.int (a0:Nat))) hb8 (tX 0 k) 1 .no (by rw[uI,Uj];exact hk) (by decide) hb0
   rw[uI,Uj] at lp
   have hs0:0 < (2^n)^k:=Ed hb0
   have hlog:zSX (a0:Int) (((2^n)^k:Nat):Int)=true:=by
     unfold zSX
     have h2:((((2^n)^k:Nat):Int)).natAbs.log2 < 9000:=by
       rw[Ec,←Ib,Nat.log2_two_pow]
       have:n*k<=3*60:=Tc (by omega) (by omega)
       omega
     rw[Qt (by omega),Qt h2]
     rfl
   have hbs:Builtin.Int.intBits (((2^n)^k:Nat):Int)<=2097152:=w4 (m:=201) (by
     rw[Ec]
     exact Rj hk (Rn (by decide) (by decide))) (by decide)
   generalize hS:(2^n)^k=S at lp hs0 hlog hbs
   have hdiv:((a0:Int) / (S:Int))=((a0 / S:Nat):Int):=rfl
   have hq1:a0 / S<=a0:=Nat.div_le_self _ _
   have hbq:Builtin.Int.intBits ((a0:Int) / (S:Int))<=2097152:=w4 (m:=201) (by
     rw[hdiv,Ec]
     have:a0 / S < 2^200:=by omega
     exact Nat.lt_trans this (Rn (by decide) (by decide))) (by decide)
   have hz:a0 / S*S<=a0:=Nat.div_mul_le_self _ _
   obtain⟨a,ha,hf⟩:=fin (((a0 / S*S:Nat):Int) - 1) (.fz (.int (S:Nat))) y8 (by omega) (by omega)
   refine⟨a,ha,go _ ?_⟩
   unfold uH
   refine xL (ρ':=[.fz (.int c),.fz (.int (n:Nat)),.fz (.int (L:Nat)),.fz (.int r),.fz (.int ((2^n:Nat):Nat)),.fz (.int ((M:Int) - 1)),.fz (.int (((a0 / S*S:Nat):Int) - 1)),.fz (.int (S:Nat)),y8]) ?_ hf
   refine(xZ tt).trans ?_
   rw[Qt hr,Qx rfl]
   rw[vE (d:=.int 1) rfl]
   dsimp only[List.set]
   have es:tU (iR (xK (eF (eV 3) (eC (.int 2))) (eV 2))) (gN 8) sY [.fz (.int c),.fz (.int (n:Nat)),.fz (.int (L:Nat)),.fz (.int r),.fz (.int ((2^n:Nat):Nat)),.fz (.int ((M:Int) - 1)),.fz (.int (a0:Nat)),.fz (.int 1),.no]=some (.nx [.fz (.int c),.fz (.int (n:Nat)),.fz (.int (L:Nat)),.fz (.int r),.fz (.int ((2^n:Nat):Nat)),.fz (.int ((M:Int) - 1)),.fz (.int (a0:Nat)),.fz (.int (S:Nat)),y8]):=by
     unfold tU iR
     rw[hmod,Qr]
     show(if decide (-1000000<=(k:Int))&&decide ((k:Int)<=1000000) then some (tX 0 (k:Int).toNat) else none).bind _=_
     rw[Qt (by omega),Qt (by omega),Rs]
     exact lp
   rw[zA es]
   unfold yY
   have hv:wO (oK (eF (eV 6) (eV 7)) (eV 7)) (eC (.int 1)) [.fz (.int c),.fz (.int (n:Nat)),.fz (.int (L:Nat)),.fz (.int r),.fz (.int ((2^n:Nat):Nat)),.fz (.int ((M:Int) - 1)),.fz (.int (a0:Nat)),.fz (.int (S:Nat)),y8]=some (.int (((a0 / S*S:Nat):Int) - 1)):=by
     rw[Tk,←hdiv]
     refine yN (yN (yN rfl rfl hlog) rfl ?_) rfl rfl
     unfold bB
     rw[Qt hbq,Qt hbs]
     rfl
   rw[hv]
   rfl
 · obtain⟨a,ha,hf⟩:=fin (a0:Int) .no .no (by omega) (by omega)
   refine⟨a,ha,go _ ?_⟩
   unfold uH
   exact xL ((xZ tt).trans (by rw[Qf hr];rfl)) hf
theorem zRV (n:Nat)(ps:List Pt):jJ [zM n false ps]=some (zM n false ps):=rfl
theorem zUb {n:Nat}{ps:List Pt}{d:D}(h:wZ [zM n true ps]=some d):yY 1 (eIf (tB1 (wX "Curve" "joined" (eV 0))) (zL 1 wZ (zY (eV 0) zR)) (eC .non)) [.fz (zM n true ps),.no,.no,.no]=some (.nx [.fz (zM n true ps),.fz d,.no,.no]):=by
 refine zY7 ?_
 unfold eIf
 rw[show tB1 (wX "Curve" "joined" (eV 0)) [.fz (zM n true ps),.no,.no,.no]=some true from rfl,Qr,Qx rfl,pP (x:=zM n true ps) rfl,h]
theorem zNz {n:Nat}{ps:List Pt}(h:wZ [zM n true ps]=some .non):jJ [zM n true ps]=some (zM n true ps)/\jG [zM n true ps]=none:=by
 refine⟨?_,?_⟩
 · show(lO [.fz (zM n true ps),.no,.no,.no]).bind w8=_
   unfold lO
   rw[zA (zUb h)]
   rfl
 · show qD [.fz (zM n true ps),.no,.no,.no]=_
   unfold qD
   rw[iW (zUb h)]
   rfl
theorem zQX {n:Nat}{ps:List Pt}{k m:Nat}(h:wZ [zM n true ps]=some (.tup [.int (k:Nat),.int ((m:Int)+1)])):jG [zM n true ps]=some (vK k m):=by
 show qD [.fz (zM n true ps),.no,.no,.no]=_
 unfold qD
 rw[iW (zUb h)]
 rfl
section
variable {n:Nat} (hn:n=2∨n=3)
include hn
theorem zR5 (x0 x2 x3 x5 x6 x9:B)(cv:D)(c:Int)(hc:Builtin.Int.intBits c<=1048576)(L:Nat)(hL:L<=60)(H:1<=L->∀a:Nat,a+1 < (2^n)^L->uU [cv,.int (n:Nat),.int (L:Nat),.int (a:Nat)]=some (.bl true)) :
   ∃y9,zYB [x0,.fz (.int (n:Nat)),x2,x3,.fz cv,x5,x6,.fz (.int c),.fz (.int (L:Nat)),x9]=some (.nx [x0,.fz (.int (n:Nat)),x2,x3,.fz cv,x5,x6,.fz (.int c),.fz (.int (L:Nat)),y9]):=by
 have t:eB2 gGt (eV 8) (eC (.int 0)) [x0,.fz (.int (n:Nat)),x2,x3,.fz cv,x5,x6,.fz (.int c),.fz (.int (L:Nat)),x9]=some (decide ((0:Int) < (L:Nat))):=rfl
 unfold zYB
 by_cases h:1<=L
 · obtain⟨a,ha,e⟩:=zQn hn hL h c hc
   refine⟨.fz (.int (a:Nat)),(xZ t).trans ?_⟩
   rw[Qt (by omega),Qx rfl]
   rw[vE ((sI rfl rfl rfl).trans e)]
   dsimp only[List.set]
   exact(xZ (zMK ((zMV rfl rfl rfl rfl).trans (H h a ha)))).trans rfl
 · refine⟨x9,(xZ t).trans ?_⟩
   rw[Qf (by omega)]
   rfl
theorem zPf (x0 x2 x5 x8 x9:B)(rf cv:D)(s c:Int)(hc:Builtin.Int.intBits c<=1048576)
   (H:∀(s:Int) (L:Nat),L<=60->∃L':Nat,L'<=60/\sIf (eB2 uR (eV 3) (eC .non)) (yY 8 (zWR (eV 8) (wO (wQ xB "level" (eV 3)) (eC (.int 1))))) xH [x0,.fz (.int (n:Nat)),x2,.fz rf,.fz cv,x5,.fz (.int s),.fz (.int c),.fz (.int (L:Nat)),x9]=some (.nx [x0,.fz (.int (n:Nat)),x2,.fz rf,.fz cv,x5,.fz (.int s),.fz (.int c),.fz (.int (L':Nat)),x9])/\(1<=L'->∀a:Nat,a+1 < (2^n)^L'->uU [cv,.int (n:Nat),.int (L':Nat),.int (a:Nat)]=some (.bl true))) :
   ∃s' y8 y9,jU [x0,.fz (.int (n:Nat)),x2,.fz rf,.fz cv,x5,.fz (.int s),.fz (.int c),x8,x9]=some (.nx [x0,.fz (.int (n:Nat)),x2,.fz rf,.fz cv,x5,.fz (.int s'),.fz (.int c),y8,y9]):=by
 have e1:=zUc c 48271 (by decide) (by decide)
 have r0:0<=zWt c 48271:=by unfold zWt;omega
 generalize zWt c 48271=r1 at e1 r0
 obtain⟨r,r0',er⟩:∃r:Int,0<=r/\sIf (eB2 gGe (eV 7) (aJ (eC (.int 10)) (eC (.int 12)))) (yY 8 (xK (eV 7) (eC (.int 1073741824)))) xH [x0,.fz (.int (n:Nat)),x2,.fz rf,.fz cv,x5,.fz (.int s),.fz (.int c),.fz (.int r1),x9]=some (.nx [x0,.fz (.int (n:Nat)),x2,.fz rf,.fz cv,x5,.fz (.int s),.fz (.int c),.fz (.int r),x9]):=by
   by_cases h:(10:Int)^12<=c
   · refine⟨c % 1073741824,by omega,(xZ (iQ rfl)).trans ?_⟩
     rw[Qt h,Qx rfl]
     unfold yY
     rw[show xK (eV 7) (eC (.int 1073741824)) [x0,.fz (.int (n:Nat)),x2,.fz rf,.fz cv,x5,.fz (.int s),.fz (.int c),.fz (.int r1),x9]=some (.int (c % 1073741824)) from yN rfl rfl rfl]
     rfl
   · exact⟨r1,r0,(xZ (iQ rfl)).trans (by rw[Qf h];rfl)⟩
 obtain⟨L0,hL0,e2⟩:=zQz r r0'
 obtain⟨L,hL,e3⟩:∃L:Nat,L<=60/\zTv (eC (.int 1)) (zL 1 oF (zY (eV 8) zR)) [x0,.fz (.int (n:Nat)),x2,.fz rf,.fz cv,x5,.fz (.int s),.fz (.int c),.fz (.int r),x9]=some (.int (L:Nat)):=by
   refine⟨if 1 < L0 then L0 else 1,by split<;>omega,?_⟩
   unfold zTv
   rw[show eC (.int 1) [x0,.fz (.int (n:Nat)),x2,.fz rf,.fz cv,x5,.fz (.int s),.fz (.int c),.fz (.int r),x9]=some (D.int 1) from rfl,Qr,pP (x:=.int r) rfl,e2,Qr]
   show some (D.int (if (L0:Int) > 1 then(L0:Int) else 1))=_
   by_cases h:1 < L0
   · rw[Qx h,Qx (show(L0:Int) > 1 by omega)]
   · rw[Wy h,Wy (show ¬(L0:Int) > 1 by omega)];rfl
 have fin:∀L':Nat,L'<=60->∃s' y8 y9,fB [x0,.fz (.int (n:Nat)),x2,.fz rf,.fz cv,x5,.fz (.int s),.fz (.int c),.fz (.int (L':Nat)),x9]=some (.nx [x0,.fz (.int (n:Nat)),x2,.fz rf,.fz cv,x5,.fz (.int s'),.fz (.int c),y8,y9]):=fun L' hL'=>by
   obtain⟨L2,h2,es,hm⟩:=H (s+(L':Nat)) L' hL'
   obtain⟨y9,et⟩:=zR5 hn x0 x2 (.fz rf) x5 (.fz (.int (s+(L':Nat)))) x9 cv c hc L2 h2 hm
   refine⟨s+(L':Nat),.fz (.int (L2:Nat)),y9,?_⟩
   unfold fB
   rw[vE (d:=.int (s+(L':Nat))) (yN rfl rfl rfl)]
   dsimp only[List.set]
   unfold zZx
   rw[zA es]
   exact et
 have t:eB2 gGt (eV 6) (eC (.int 900)) [x0,.fz (.int (n:Nat)),x2,.fz rf,.fz cv,x5,.fz (.int s),.fz (.int c),.fz (.int (L:Nat)),x9]=some (decide ((900:Int) < s)):=rfl
 obtain⟨L3,h3,e4⟩:∃L3:Nat,L3<=60/\sIf (eB2 gGt (eV 6) (eC (.int 900))) (yY 8 (tG (eC (.int 1)) (xK (eV 8) (eC (.int 6))))) xH [x0,.fz (.int (n:Nat)),x2,.fz rf,.fz cv,x5,.fz (.int s),.fz (.int c),.fz (.int (L:Nat)),x9]=some (.nx [x0,.fz (.int (n:Nat)),x2,.fz rf,.fz cv,x5,.fz (.int s),.fz (.int c),.fz (.int (L3:Nat)),x9]):=by
   by_cases h9:(900:Int) < s
   · refine⟨1+L % 6,by omega,(xZ t).trans ?_⟩
     rw[Qt h9,Qx rfl]
     unfold yY
     rw[show tG (eC (.int 1)) (xK (eV 8) (eC (.int 6))) [x0,.fz (.int (n:Nat)),x2,.fz rf,.fz cv,x5,.fz (.int s),.fz (.int c),.fz (.int (L:Nat)),x9]=some (.int ((1+L % 6:Nat):Nat)) from by
       rw[show((1+L % 6:Nat):Int)=1+(L:Int) % 6 by omega]
       exact yN rfl (yN rfl rfl rfl) rfl]
     rfl
   · exact⟨L,hL,(xZ t).trans (by rw[Qf h9];rfl)⟩
 obtain⟨s',y8,y9,e5⟩:=fin L3 h3
 refine⟨s',y8,y9,?_⟩
 unfold jU
 rw[vE ((vD rfl rfl).trans e1)]
 dsimp only[List.set]
 unfold zZ7
 rw[zA er]
 unfold zYA
 rw[vE e3]
 dsimp only[List.set]
 unfold zZ0
 rw[zA e4]
 exact e5
theorem zVI (ns:List Int)(h:ns.length<=63)(hbit:∀n∈ns,Builtin.Int.intBits n<=1048576)(rf cv:D)(x2 x5:B)
   (H:∀(x9:B) (c s:Int) (L:Nat),L<=60->∃L':Nat,L'<=60/\sIf (eB2 uR (eV 3) (eC .non)) (yY 8 (zWR (eV 8) (wO (wQ xB "level" (eV 3)) (eC (.int 1))))) xH [.fz (.lst (ns.map .int)),.fz (.int (n:Nat)),x2,.fz rf,.fz cv,x5,.fz (.int s),.fz (.int c),.fz (.int (L:Nat)),x9]=some (.nx [.fz (.lst (ns.map .int)),.fz (.int (n:Nat)),x2,.fz rf,.fz cv,x5,.fz (.int s),.fz (.int c),.fz (.int (L':Nat)),x9])/\(1<=L'->∀a:Nat,a+1 < (2^n)^L'->uU [cv,.int (n:Nat),.int (L':Nat),.int (a:Nat)]=some (.bl true))) :
   (zZO [.fz (.lst (ns.map .int)),.fz (.int (n:Nat)),x2,.fz rf,.fz cv,x5,.no,.no,.no,.no]).bind w8=some (.bl true):=by
 obtain⟨cs,hcs,hsub,hlen⟩:∃cs:List Int,zNK (ns.map D.int) (some 2) (some 62)=cs.map D.int/\(∀c∈cs,c∈ns)/\cs.length<=63:=by
   unfold zNK
   refine⟨(ns.drop (HT.sIx (ns.map D.int).length 0 (some 2))).take (HT.sIx (ns.map D.int).length (ns.map D.int).length (some 62) - HT.sIx (ns.map D.int).length 0 (some 2)),?_,fun c hc=>List.mem_of_mem_drop (List.mem_of_mem_take hc),?_⟩
   · rw[List.map_take,List.map_drop]
   · rw[Ul,List.length_drop]
     omega
 have src:∀x6 x7 x8 x9:B,aG (fV (eV 0) (mQ (eC (.int 2))) (mQ (eC (.int 62)))) (xP (zY (eC (.int 19)) zR)) [.fz (.lst (ns.map .int)),.fz (.int (n:Nat)),x2,.fz rf,.fz cv,x5,x6,x7,x8,x9]=some ((cs++[19]).map .int):=fun x6 x7 x8 x9=>by
   have e2:fV (eV 0) (mQ (eC (.int 2))) (mQ (eC (.int 62))) [.fz (.lst (ns.map .int)),.fz (.int (n:Nat)),x2,.fz rf,.fz cv,x5,x6,x7,x8,x9]=some (cs.map .int):=by
     simp only[fV,mQ,eV,eC,rC,Wv,Qr,hcs]
   have e1:xP (zY (eC (.int 19)) zR) [.fz (.lst (ns.map .int)),.fz (.int (n:Nat)),x2,.fz rf,.fz cv,x5,x6,x7,x8,x9]=some [.int 19]:=rfl
   unfold aG
   rw[e2,e1,Qr,Qr]
   rw[zUr (by simp;omega),Wl]
   rfl
 obtain⟨ρ',e,s',y7,y8,y9,rfl⟩:=zV0 (g:=gN 7) (body:=jU) (P:=fun ρ=>∃s y7 y8 y9,ρ=[.fz (.lst (ns.map .int)),.fz (.int (n:Nat)),x2,.fz rf,.fz cv,x5,.fz (.int s),y7,y8,y9]) ((cs++[19]).map .int) (fun d hd ρ hρ=>by
     obtain⟨c,hcm,rfl⟩:=Wx.mp hd
     obtain⟨s,y7,y8,y9,rfl⟩:=hρ
     have hbc:Builtin.Int.intBits c<=1048576:=by
       rcases Eh.mp hcm with z | z
       · exact hbit c (hsub c z)
       · rw[Wh.mp z];decide
     obtain⟨s',z8,z9,e⟩:=zPf hn (.fz (.lst (ns.map .int))) x2 x5 y8 y9 rf cv s c hbc (fun s L hL=>H y9 c s L hL)
     exact⟨_,_,rfl,e,_,_,_,_,rfl⟩) [.fz (.lst (ns.map .int)),.fz (.int (n:Nat)),x2,.fz rf,.fz cv,x5,.fz (.int 0),.no,.no,.no] ⟨_,_,_,_,rfl⟩
 unfold zZO
 refine wC (d:=.int 0) rfl ?_
 unfold zWT
 dsimp only[List.set]
 refine xL (g:=zS1) (ρ':=[.fz (.lst (ns.map .int)),.fz (.int (n:Nat)),x2,.fz rf,.fz cv,x5,.fz (.int s'),y7,y8,y9]) ?_ rfl
 unfold tU
 rw[src,Qr]
 exact e
end
theorem zOS (ns:List Int)(h:ns.length<=63)(hb:∀n∈ns,Builtin.Int.intBits n<=1048576):zXA [.lst (ns.map .int)]=some (.bl true):=by
 obtain⟨c0,q0⟩:=zZ2 ns 0
 obtain⟨c1,q1⟩:=zZ2 ns 1
 have e1:=zYU c0 0 69621 (by decide) (by decide) (by decide) (by decide)
 have r0:0<=zYb c0 0 69621:=zU3 _ _ _
 generalize zYb c0 0 69621=r at e1 r0
 obtain⟨n,hn,hnn⟩:∃n:Nat,(n=2∨n=3)/\(2+r % 2)=(n:Int):=by
   rcases bit r with h | h
   · exact⟨2,.inl rfl,by omega⟩
   · exact⟨3,.inr rfl,by omega⟩
 obtain⟨ps,ok,e3⟩:=zPv hn c1
 obtain⟨oft,xft⟩:=of_eq hn ok true _ rfl
 obtain⟨off,xff⟩:=of_eq hn ok false _ rfl
 have et:=zS9 hn ok true
 have ef:=zS9 hn ok false
 have near:∀(j:Bool) (L:Nat),L<=60->(∀m,m < L->∀k,k+1 < ps.length->Adj ps n k m)->∀a:Nat,a+1 < (2^n)^L->uU [zM n j ps,.int (n:Nat),.int (L:Nat),.int (a:Nat)]=some (.bl true):=fun j L hL hA a ha=>by
   rw[←ok.len] at ha
   have me:=zPB hn ok j (L:=L) (by omega) ha
   rwa[show dst (plc ps n L a) (plc ps n L (a+1))=1 from zOJ hn ok ha hA,Qt rfl] at me
 show(zZZ [.fz (.lst (ns.map .int)),.no,.no,.no,.no,.no,.no,.no,.no,.no]).bind w8=_
 unfold zZZ
 refine wC (d:=.int (n:Nat)) (by rw[←hnn];exact yN rfl (yN ((sI ((vD rfl rfl).trans q0) rfl rfl).trans e1) rfl rfl) rfl) ?_
 unfold zWl
 dsimp only[List.set]
 refine wC (d:=.lst (ps.map yL)) (zMT ((fK rfl ((vD rfl rfl).trans q1)).trans e3)) ?_
 unfold zXd
 dsimp only[List.set]
 refine wC (d:=.non) rfl ?_
 unfold zWu
 dsimp only[List.set]
 refine wC (d:=.non) rfl ?_
 unfold zWp
 dsimp only[List.set]
 generalize hT:Str.join "\n" (wN n true::ps.map wV)=T at *
 generalize hF:Str.join "\n" (wN n false::ps.map wV)=F at *
 generalize hS:B.fz (.lst (ns.map .int))=S at *
 generalize hP:B.fz (.lst (ps.map yL))=PP at *
 have etx:∀x3 x4 x5 x6 x7 x8 x9:B,zL 3 uA (zY (eV 1) (zY (eC (.bl true)) (zY (eV 2) zR))) [S,.fz (.int (n:Nat)),PP,x3,x4,x5,x6,x7,x8,x9]=some (.str T):=fun x3 x4 x5 x6 x7 x8 x9=>by
   rw[←hP];exact(sI rfl rfl rfl).trans et
 have efx:∀x3 x4 x5 x6 x7 x8 x9:B,zL 3 uA (zY (eV 1) (zY (eC (.bl false)) (zY (eV 2) zR))) [S,.fz (.int (n:Nat)),PP,x3,x4,x5,x6,x7,x8,x9]=some (.str F):=fun x3 x4 x5 x6 x7 x8 x9=>by
   rw[←hP];exact(sI rfl rfl rfl).trans ef
 rcases zVh hn ok true with⟨me,all⟩ | ⟨k,m,hk,hm,me,na,below⟩
 · obtain⟨f1,f2⟩:=zNz me
   rw[f1] at oft
   rw[f2] at xft
   refine xL (ρ':=[S,.fz (.int (n:Nat)),PP,.fz .non,.fz (zM n true ps),.no,.no,.no,.no,.no]) ?_ ?_
   · unfold zVH
     rw[(pP (etx _ _ _ _ _ _ _)).trans xft]
     dsimp only
     rw[zY7 ((pP (etx _ _ _ _ _ _ _)).trans oft)]
     rfl
   unfold aB
   refine xL (ρ':=[S,.fz (.int (n:Nat)),PP,.fz .non,.fz (zM n true ps),.no,.no,.no,.no,.no]) ((xZ (b:=false) rfl).trans rfl) ?_
   rw[←hS]
   refine zVI hn ns h hb .non (zM n true ps) PP .no fun x9 c s L hL=>⟨L,hL,(xZ (b:=false) rfl).trans rfl,fun _=>near true L hL fun q _ k hk=>all k hk q⟩
 · have f1:=zQX me
   rw[f1] at xft
   rw[zRV] at off
   have sh:=zPc hn ok false hk (m:=m) (by omega)
   rw[Qf na] at sh
   refine xL (ρ':=[S,.fz (.int (n:Nat)),PP,.fz (vK k m),.fz .non,.no,.no,.no,.no,.no]) ?_ ?_
   · unfold zVH
     rw[(pP (etx _ _ _ _ _ _ _)).trans xft]
     rfl
   unfold aB
   refine xL (ρ':=[S,.fz (.int (n:Nat)),PP,.fz (vK k m),.fz (zM n false ps),.no,.no,.no,.no,.no]) ((xZ (b:=true) rfl).trans ?_) ?_
   · rw[Qx rfl,vE ((pP (efx _ _ _ _ _ _ _)).trans off)]
     dsimp only[List.set]
     exact(xZ (zMK ((sI rfl rfl rfl).trans sh))).trans rfl
   rw[←hS]
   refine zVI hn ns h hb (vK k m) (zM n false ps) PP .no fun x9 c s L hL=>?_
   have ev:wO (wQ xB "level" (eV 3)) (eC (.int 1)) [.fz (.lst (ns.map .int)),.fz (.int (n:Nat)),PP,.fz (vK k m),.fz (zM n false ps),.no,.fz (.int s),.fz (.int c),.fz (.int (L:Nat)),x9]=some (.int (m:Nat)):=by
     have:wO (wQ xB "level" (eV 3)) (eC (.int 1)) [.fz (.lst (ns.map .int)),.fz (.int (n:Nat)),PP,.fz (vK k m),.fz (zM n false ps),.no,.fz (.int s),.fz (.int c),.fz (.int (L:Nat)),x9]=some (.int ((m:Int)+1 - 1)):=yN rfl rfl rfl
     rw[this,Int.add_sub_cancel]
   refine⟨if m < L then m else L,by split<;>omega,(xZ (b:=true) rfl).trans ?_,fun _=>near false _ (by split<;>omega) fun q hq k' hk'=>below k' hk' q (by split at hq<;>omega)⟩
   rw[Qx rfl]
   unfold yY zWR
   rw[ev,show eV 8 [.fz (.lst (ns.map .int)),.fz (.int (n:Nat)),PP,.fz (vK k m),.fz (zM n false ps),.no,.fz (.int s),.fz (.int c),.fz (.int (L:Nat)),x9]=some (D.int (L:Nat)) from rfl,Qr,Qr]
   show some (Out.nx _)=_
   by_cases hml:m < L
   · rw[Qx hml]
     show some (Out.nx [_,_,_,_,_,_,_,_,.fz (.int (if (m:Int) < (L:Int) then(m:Int) else(L:Int))),_])=_
     rw[Qx (show(m:Int) < (L:Int) by omega)]
   · rw[Wy hml]
     show some (Out.nx [_,_,_,_,_,_,_,_,.fz (.int (if (m:Int) < (L:Int) then(m:Int) else(L:Int))),_])=_
     rw[Wy (show ¬(m:Int) < (L:Int) by omega)]
end My
open PySem PySem.W PyProof.Rows
set_option maxRecDepth 100000 in
set_option maxHeartbeats 0 in
theorem PySem.Challenge.cw_curveyard_k51_whole_joined_or_shown_holds : PySem.Challenge.rw_curveyard_k51_whole_joined_or_shown.Holds := by
 w_on;o_law
 refine PySem.W.holds_open (r:=PySem.Challenge.rw_curveyard_k51_whole_joined_or_shown.row) (q:=My.nX) (loose:=My.loose) (XP:=PySem.W.XL My.nX [])
   (YP:=PySem.W.InK My.zUh) My.zNt (PySem.W.InK.of My.zUE) PySem.W.InK.keeps
   (fun s e=>PySem.W.xl_of s (Wm.mp e).1) PySem.W.XL.keeps (by rfl) (by rfl) (by rfl)
   (fun s e=>PySem.W.recFacts_of (Wm.mp e).2) (by rfl) (by assumption) (by decide +kernel)
   ⟨rfl,rfl,rfl,rfl,rfl,by decide +kernel⟩ ?hw ?hc
 case hw=>w_witness2
 k_fill
 refine L2.zSl (l:=PySem.Challenge.rw_curveyard_k51_whole_joined_or_shown) (n:=63) (k:=7) (x:="_law_script") (CX:=fun _=>L2.CX0) (sp:=fun w=>L2.spF _ 1 My.zXA) rfl (by decide) rfl ⟨rfl,by decide,by decide⟩ (fun w h Y=>Y) ?F (fun w H a ns hl hb hO hS=>My.zL7 hS (My.zOS ns hl hb)) (fun _ _ _ _ _ z=>z)
 case F =>
   intro w mg fa h KX G hmg
   refine' My.zLw KX G hmg ?g0 ?g1 ?g2 ?g3 ?g4 ?g5 ?g6 ?g7 ?g8 ?g9 ?g10 ?g11 ?g12 ?g13 ?g14 ?g15 ?g16 ?g17 ?g18 ?g19 ?g20 ?g21 ?g22 ?g23 ?g24 ?g25 ?g26 ?g27 ?g28 ?g29 ?g30 ?g31 ?g32 ?g33 ?g34 ?g35 ?g36 ?g37 ?g38 ?g39 ?g40 ?g41 ?g42 ?g43 ?ca0 ?ci0 ?cn0 ?cl0 ?cc0 ?ck0 ?cpg0 ?chd0 ?cpo0 ?csa0 ?cmk0 ?ckc0 ?cf0_back ?cf0_corner ?cf0_turn ?ca1 ?ci1 ?cn1 ?cl1 ?cc1 ?ck1 ?cpg1 ?chd1 ?cpo1 ?csa1 ?cmk1 ?ckc1 ?cf1_dims ?cf1_joined ?cf1_name ?cf1_parts ?xa0 ?xk0 ?xe0 ?xo0 ?xi0 ?xn0 ?xt0 ?xf0_first ?xf0_second ?xf0_level ?yl0 ?yc0 ?yk0 ?em_Unmet_Unmet ?g_BITS ?g_FLIPS ?g_AXES ?g_LETTERS ?g_LONGEST_WORD ?g_PROMISES ?dl_PROMISES ?ds_PROMISES ?g_DIMS ?dl_DIMS ?ds_DIMS ?z_abs ?z_all ?z_int ?z_len ?z_list ?z_max ?z_min ?z_range ?z_reversed ?z_sorted ?z_str ?z_sum ?z_tuple ?z_zip
   all_goals (try exact⟨_,_,_,_,_,_,_,_,_,_,by k_is,by k_is,by k_is,by k_is⟩)
   all_goals (try k_is)
   all_goals kernel_rfl

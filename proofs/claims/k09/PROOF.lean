import PyProof.Rows.All
import OpenK.KLine
import KE.KItem
import Wide.Once
import Wide.FinOn
import Lean
import PyProof.EqAt
import PyProof.EqKinds
import PyProof.TupleCall
import PyProof.TupleKey
import KE.KIntText
import KE.IntTextLaws
import OpenK.KOwn
import KE.KIsAll
import PyProof.InstStoreFacts
import PyProof.RaisesMany
import PyProof.RulesAs
import KE.KTryMore
import PyProof.MaxThree
import PyProof.WalkInts
import KE.KRevIter
import PyProof.ListRange
import KE.RegMulBits
import PyProof.ReprRoads
import PyProof.ReprLen
import PyProof.Rows.SumAny
import PyProof.Rows.RuleN_abs
import Wide.Seal
import PyProof.FactsAll.bool_1
import PyProof.DictRoadsH
import PyProof.MinMaxWalk
import PyProof.Rows.CallKwBuiltin
import PyProof.ZipIter
import PyProof.StrLaws
import PyProof.Rows.FStr
import PyProof.Rows.StrNews
import PyProof.Rows.StrItems
import PyProof.StrLawsChain
import PyProof.StrLawsTight
import PyProof.StrCalls
import PyProof.LongRange
import OpenK.KTop
import PySem.Challenge.RW_curveyard_k09_texts_refused
set_option Elab.async false
set_option Elab.async false
set_option linter.all false
set_option maxRecDepth 100000
set_option maxRecDepth 100000
noncomputable section
section
open PySem PySem.Spec PyProof.Rows
def Qq:=@Option.bind_eq_some_iff
def Qw:=@Option.bind_some
def Qe:=@wpAny_bind
def Qr:=@Heap.get?_push_of_some
def Qt:=@Option.map_eq_some_iff
def Qy:=@Heap.lt_size
def Qu:=@List.length_map
def Qi:=@List.mem_cons_of_mem
def Qo:=@List.length_cons
def Qp:=@List.size_toArray
def Qa:=@wpAny_pure
def Qs:=@List.getElem?_eq_getElem
def Qd:=@List.length_append
def Qf:=@List.mem_cons
def Qg:=@Bool.and_eq_true
def Qh:=@Heap.get?_push_size
def Qj:=@List.getElem?_eq_some_iff
def Qk:=@Bool.false_ne_true
def Ql:=@Nat.le_refl
def Qz:=@decide_eq_false
def Qx:=@List.map_cons
def Qc:=@List.mem_cons_self
def Qv:=@List.append_assoc
def Qb:=@List.append_nil
def Qn:=@PySem.F.plainAttrs_str
def Qm:=@decide_eq_true
def Wq:=@List.all_eq_true
def Ww:=@wpAny_loadPart_at
def We:=@List.nil_append
def Wr:=@if_pos
def Wt:=@List.not_mem_nil
def Wy:=@Nat.ne_of_lt
def Wu:=@Nat.lt_of_lt_of_le
def Wi:=@List.getElem?_set_ne
def Wo:=@Option.some.inj
def Wp:=@List.mem_append_right
def Wa:=@Nat.lt_irrefl
def Ws:=@Nat.le_of_lt
def Wd:=@List.cons_append
def Wg:=@List.mem_map
def Wh:=@decide_eq_true_eq
def Wj:=@if_neg
def Wk:=@List.cons_ne_nil
def Wl:=@beq_eq_false_iff_ne
def Wz:=@List.replicate_succ
def Wx:=@List.getElem?_map
def Wc:=@List.lookup_cons
def Wv:=@Nat.le_trans
def Wb:=@Bool.false_eq_true
def Wn:=@List.getElem?_append_left
def Wm:=@List.length_take
def Ew:=@List.length_singleton
def Ee:=@List.getElem?_append_right
def Er:=@Array.getElem?_eq_some_iff
def Et:=@List.map_append
def Ey:=@List.mem_singleton
def Eu:=@wpAny_mono
def Ei:=@PyProof.Rows.callWith_type1
def Eo:=@Heap.get?_update_self
def Ep:=@wpAny_field
def Ea:=@List.map_nil
def Es:=@List.getElem?_set_self
def Ed:=@Option.map_some
def Eg:=@Array.length_toList
def Eh:=@beq_iff_eq
def Ej:=@PySem.F.slot_str_join
def Ek:=@PySem.F.type_str_join
def El:=@List.mem_append
def Ez:=@List.getElem?_cons_succ
def Ex:=@PySem.mem_of_lookup
def Ec:=@congrArg
def Ev:=@Calls.spliced_cons
def Eb:=@or_false
def En:=@List.getElem?_replicate
def Em:=@PySem.F.plainAttrs_list
def Rq:=@List.length_nil
def Re:=@Heap.get?_update_other
def Rr:=@PySem.F.slot_str_split
def Rt:=@PySem.F.type_str_split
def Ry:=@wpAny_holding
def Ru:=@List.contains_cons
def Ri:=@List.getElem?_eq_none
def Ro:=@sizeLine_eq
def Rp:=@List.mem_of_getElem?
def Ra:=@wpAny_execs_nil
def Rs:=@Option.isSome_iff_exists
def Rf:=@PySem.F.slot_list_append
def Rg:=@PySem.F.type_list_append
def Rh:=@wpAny_getItem_str_slice
def Rj:=@List.getElem?_cons_zero
def Rk:=@wpAny_execs_cons
def Rl:=@wpAny_Call_Name_kw
def Rz:=@Int.emod_lt_of_pos
def Rx:=@wpAny_passesOwn
def Rc:=@List.length_set
def Rv:=@Bool.or_eq_true
def Rb:=@PySem.W.kia_one
def Rn:=@Array.getElem?_setIfInBounds_self_of_lt
def Rm:=@PassesOwn.never
def Tq:=@List.singleton_append
def Tw:=@wpAny_truthy_bool
def Te:=@if_false
def Tt:=@List.flatten_cons
def Tu:=@of_decide_eq_true
def Ti:=@Around.under_plainId
def To:=@List.mem_of_mem_take
def Tp:=@Heap.size_push
def Ta:=@wpAny_is_other
def Ts:=@List.length_drop
def Td:=@beq_self_eq_true
def Tg:=@List.filterMap_cons
def Th:=@List.map_map
def Tj:=@Bool.eq_iff_iff
def Tk:=@List.pairwise_cons
def Tl:=@codeAny_builtin
def Tz:=@List.eraseIdx_cons_succ
def Tx:=@wpAny_ite_split
def Tc:=@Int.emod_nonneg
def Tv:=@Calls.callWith_builtin
def Tb:=@Nat.zero_le
def Yq:=@Calls.spliced_nil
def Yw:=@Nat.le_succ
def Ye:=@typeIs_str
def Yr:=@call_meets
def Yt:=@wpAny_newObj_type
def Yy:=@List.nodup_append
def Yu:=@builtinLookup_eq_fast
def Yi:=@List.contains_iff_mem
def Yo:=@codeAny_call_builtin
def Yp:=@List.all_cons
def Ya:=@plainId_quiet
def Ys:=@if_true
def Yd:=@SeqAt.EqAt.same
def Yf:=@wpAny_updateSeq
def Yg:=@wpAny_specialOf
def Yh:=@wpAny_isSubtype_exc
def Yj:=@List.find?_cons
def Yk:=@Calls.Constant_str
def Yl:=@codeAny_mono
def Yz:=@PySem.W.callWith_K
def Yx:=@Array.forIn_toList
def Yc:=@Heap.get?_some_iff
def Yv:=@List.getElem?_take
def Yb:=@List.drop_eq_getElem_cons
def Yn:=@List.extract_eq_take_drop
def Ym:=@List.reverse_cons
def Uq:=@wpAny_standAt
def Uw:=@List.map_take
def Ue:=@decide_eq_decide
def Ur:=@wpAny_Call_method_late
def Ut:=@wpAny_nextOf_list_item
def Uy:=@List.take_of_length_le
def Uu:=@List.nodup_cons
def Ui:=@List.length_replicate
def Uo:=@post_val_or_str
def Up:=@typeLookup_type
def Ua:=@PySem.F.slot_str_find
def Us:=@PySem.F.type_str_find
def Ud:=@SeqAt.EqAt.bool_bool
def Uf:=@Calls.evalArgs_plain
def Ug:=@Bool.and_eq_true_iff
def Uh:=@Array.toList_extract
def Uj:=@List.mem_range
def Uk:=@wpAny_seqItems
def Ul:=@ne_true_of_eq_false
def Uz:=@Array.toList_append
def Ux:=@Array.find?_toList
def Uc:=@SeqAt.EqAt.int_int
def Uv:=@Code.quiet_builtin
def Ub:=@List.cons.inj
def Um:=@wpAny_Assign_Name
def Iq:=@plainObj_wpAny_Assign_Attribute
def Iw:=@wpAny_call
def Ie:=@Int.toNat_natCast
def Ir:=@List.getElem?_set
def Iy:=@Bool.eq_false_iff
def Iu:=@Bool.not_eq_true'
def Ii:=@Function.comp_def
def Ip:=@Txt.slice_le
def Ia:=@wpAny_typeOf
def Ig:=@wpAny_lookBehind
def Ih:=@pastItsLine_dict
def Ij:=@Nat.lt_succ_self
def Ik:=@List.drop_length
def Il:=@wpAny_isInstance
def Ix:=@List.of_mem_zip
def Ic:=@List.forIn_cons
def Iv:=@Iff.rfl
def Ib:=@Calls.Name_function_global
def Im:=@SeqAt.RcNeAt.lists_lengths
def Oq:=@List.getD_eq_getElem?_getD
def Ow:=@wpAny_loadPart
def Oe:=@refuseLoop_ref
end
namespace L2
open PySem PySem.Spec PyProof.Rows
def wF (s:Stmt)(j:Nat):Stmt:=match s with
 | .ClassDef _ _ _ body _ _ _ _ _ _ _=>body.getD j (.Pass ⟨0,0,0,0⟩)
 | _=>.Pass ⟨0,0,0,0⟩
def zE (s:Stmt):Arguments:=match s with
 | .FunctionDef _ a _ _ _ _ _ _ _ _=>a
 | _=>{ posonlyargs:=[],args:=[],vararg:=none,kwonlyargs:=[],kw_defaults:=[],kwarg:=none,defaults:=[] }
def zJ (s:Stmt):List Stmt:=match s with
 | .FunctionDef _ _ b _ _ _ _ _ _ _=>b
 | _=>[]
def zU (s:Stmt):Scope:=match s with
 | .FunctionDef _ _ _ _ _ _ sc _ _ _=>sc
 | _=>{ kind:=.function,names:=[],isGenerator:=false,isCoroutine:=false }
end L2
namespace My
open PySem L2
def top (i:Nat):Stmt:=PySem.Challenge.pw_curveyard_k09_texts_refused.main.body.getD i (.Pass ⟨0,0,0,0⟩)
end My
namespace My
open PySem PySem.W L2 PyData
def zVX:Params->Frag:=fun P =>
 (nat_lit 3,⟨.type "dict",none,.dict #[⟨keyHash P "__name__",.str "__name__" 165,.str "law_curveyard_k09_texts_refused" 588⟩,⟨keyHash P "__doc__",.str "__doc__" 166,.none⟩,⟨keyHash P "__package__",.str "__package__" 167,.none⟩,⟨keyHash P "__loader__",.str "__loader__" 168,.builtin "__main__.__loader__#opaque"⟩,⟨keyHash P "__spec__",.str "__spec__" 169,.none⟩,⟨keyHash P "__annotations__",.str "__annotations__" 170,.ref 6⟩,⟨keyHash P "__builtins__",.str "__builtins__" 171,.ref 4⟩,⟨keyHash P "__file__",.str "__file__" 173,.str "/claim/cut.py" 172⟩,⟨keyHash P "__cached__",.str "__cached__" 174,.none⟩,⟨keyHash P "BITS",.str "BITS" 190,.str "01" 189⟩,⟨keyHash P "FLIPS",.str "FLIPS" 192,.str "+-" 191⟩,⟨keyHash P "AXES",.str "AXES" 194,.str "xyz" 193⟩,⟨keyHash P "turned",.str "turned" 200,.ref 19⟩,⟨keyHash P "still",.str "still" 206,.ref 24⟩,⟨keyHash P "after",.str "after" 212,.ref 29⟩,⟨keyHash P "turn_of",.str "turn_of" 218,.ref 34⟩,⟨keyHash P "corner_of",.str "corner_of" 224,.ref 39⟩,⟨keyHash P "Part",.str "Part" 259,.ref 56⟩,⟨keyHash P "Curve",.str "Curve" 294,.ref 77⟩,⟨keyHash P "first_state",.str "first_state" 301,.ref 88⟩,⟨keyHash P "part_at",.str "part_at" 314,.ref 95⟩,⟨keyHash P "walked",.str "walked" 323,.ref 102⟩,⟨keyHash P "YardError",.str "YardError" 343,.ref 112⟩,⟨keyHash P "OffFloor",.str "OffFloor" 359,.ref 125⟩,⟨keyHash P "TextError",.str "TextError" 384,.ref 144⟩,⟨keyHash P "BadRow",.str "BadRow" 400,.ref 156⟩,⟨keyHash P "CornerTwice",.str "CornerTwice" 416,.ref 168⟩,⟨keyHash P "Unmet",.str "Unmet" 445,.ref 187⟩,⟨keyHash P "LETTERS",.str "LETTERS" 449,.str "abcdefghijklmnopqrstuvwxyz" 448⟩,⟨keyHash P "LONGEST_WORD",.str "LONGEST_WORD" 451,.int 12 450⟩,⟨keyHash P "is_word",.str "is_word" 458,.ref 196⟩,⟨keyHash P "is_made_of",.str "is_made_of" 464,.ref 201⟩,⟨keyHash P "full",.str "full" 476,.ref 208⟩,⟨keyHash P "deeper",.str "deeper" 482,.ref 213⟩,⟨keyHash P "next_to",.str "next_to" 488,.ref 218⟩,⟨keyHash P "unmet_at",.str "unmet_at" 506,.ref 225⟩,⟨keyHash P "meeting_of",.str "meeting_of" 512,.ref 230⟩,⟨keyHash P "PROMISES",.str "PROMISES" 519,.ref 231⟩,⟨keyHash P "DIMS",.str "DIMS" 526,.ref 232⟩,⟨keyHash P "curve_of",.str "curve_of" 536,.ref 239⟩,⟨keyHash P "curve_from",.str "curve_from" 550,.ref 246⟩,⟨keyHash P "words_at",.str "words_at" 558,.ref 253⟩,⟨keyHash P "read_head",.str "read_head" 565,.ref 260⟩,⟨keyHash P "read_part",.str "read_part" 577,.ref 267⟩,⟨keyHash P "fitted",.str "fitted" 587,.ref 274⟩,⟨keyHash P "_law_mix",.str "_law_mix" 598,.ref 281⟩,⟨keyHash P "_law_turned",.str "_law_turned" 604,.ref 286⟩,⟨keyHash P "_law_after",.str "_law_after" 610,.ref 291⟩,⟨keyHash P "_law_undone",.str "_law_undone" 619,.ref 298⟩,⟨keyHash P "_law_turn",.str "_law_turn" 625,.ref 303⟩,⟨keyHash P "_law_base",.str "_law_base" 634,.ref 310⟩,⟨keyHash P "_law_joined",.str "_law_joined" 640,.ref 315⟩,⟨keyHash P "_law_corners",.str "_law_corners" 646,.ref 320⟩,⟨keyHash P "_law_loose",.str "_law_loose" 658,.ref 327⟩,⟨keyHash P "_law_rows",.str "_law_rows" 664,.ref 332⟩,⟨keyHash P "_law_bad_head",.str "_law_bad_head" 674,.ref 339⟩,⟨keyHash P "_law_bad_part",.str "_law_bad_part" 680,.ref 344⟩,⟨keyHash P "_law_faulty",.str "_law_faulty" 692,.ref 351⟩,⟨keyHash P "_law_second",.str "_law_second" 702,.ref 358⟩,⟨keyHash P "_law_caught",.str "_law_caught" 712,.ref 365⟩,⟨keyHash P "_law_refused",.str "_law_refused" 721,.ref 372⟩,⟨keyHash P "law",.str "law" 737,.ref 379⟩] 62,#[]⟩) ::
 (nat_lit 18,⟨.type "code",none,.fields #[.str "turned" 195,.str "turned" 196,.str "/claim/cut.py" 197,.int 5 0,.int 2 0,.int 0 0,.int 0 0,.int 3 0,.ref 15,.bool true,.int 181 0,.ref 16,.none,.none,.none,.ref 17,.int 198 0,.int 5 0,.str "/claim/cut.py" 199],#[]⟩) ::
 (nat_lit 19,⟨.type "function",none,.func (fnOf "turned" "turned" (zE (top 4)) (zJ (top 4)) (zU (top 4)) (.none) (.none) (.none) (.str "curveyard.turns" 187) none (.ref 18) (.none)),#[]⟩) ::
 (nat_lit 23,⟨.type "code",none,.fields #[.str "still" 201,.str "still" 202,.str "/claim/cut.py" 203,.int 7 0,.int 1 0,.int 0 0,.int 0 0,.int 3 0,.ref 20,.bool true,.int 181 0,.ref 21,.none,.none,.none,.ref 22,.int 204 0,.int 7 0,.str "/claim/cut.py" 205],#[]⟩) ::
 (nat_lit 24,⟨.type "function",none,.func (fnOf "still" "still" (zE (top 5)) (zJ (top 5)) (zU (top 5)) (.none) (.none) (.none) (.str "curveyard.turns" 187) none (.ref 23) (.none)),#[]⟩) ::
 (nat_lit 28,⟨.type "code",none,.fields #[.str "after" 207,.str "after" 208,.str "/claim/cut.py" 209,.int 9 0,.int 2 0,.int 0 0,.int 0 0,.int 3 0,.ref 25,.bool true,.int 181 0,.ref 26,.none,.none,.none,.ref 27,.int 210 0,.int 9 0,.str "/claim/cut.py" 211],#[]⟩) ::
 (nat_lit 29,⟨.type "function",none,.func (fnOf "after" "after" (zE (top 6)) (zJ (top 6)) (zU (top 6)) (.none) (.none) (.none) (.str "curveyard.turns" 187) none (.ref 28) (.none)),#[]⟩) ::
 (nat_lit 33,⟨.type "code",none,.fields #[.str "turn_of" 213,.str "turn_of" 214,.str "/claim/cut.py" 215,.int 11 0,.int 2 0,.int 0 0,.int 0 0,.int 3 0,.ref 30,.bool true,.int 181 0,.ref 31,.none,.none,.none,.ref 32,.int 216 0,.int 11 0,.str "/claim/cut.py" 217],#[]⟩) ::
 (nat_lit 34,⟨.type "function",none,.func (fnOf "turn_of" "turn_of" (zE (top 7)) (zJ (top 7)) (zU (top 7)) (.none) (.none) (.none) (.str "curveyard.turns" 187) none (.ref 33) (.none)),#[]⟩) ::
 (nat_lit 38,⟨.type "code",none,.fields #[.str "corner_of" 219,.str "corner_of" 220,.str "/claim/cut.py" 221,.int 19 0,.int 2 0,.int 0 0,.int 0 0,.int 3 0,.ref 35,.bool true,.int 181 0,.ref 36,.none,.none,.none,.ref 37,.int 222 0,.int 19 0,.str "/claim/cut.py" 223],#[]⟩) ::
 (nat_lit 39,⟨.type "function",none,.func (fnOf "corner_of" "corner_of" (zE (top 8)) (zJ (top 8)) (zU (top 8)) (.none) (.none) (.none) (.str "curveyard.turns" 187) none (.ref 38) (.none)),#[]⟩) ::
 (nat_lit 52,⟨.type "code",none,.fields #[.str "__init__" 239,.str "Part.__init__" 240,.str "/claim/cut.py" 241,.int 27 0,.int 4 0,.int 0 0,.int 0 0,.int 3 0,.ref 47,.bool true,.int 181 0,.ref 48,.none,.ref 49,.ref 50,.ref 51,.int 246 0,.int 27 0,.str "/claim/cut.py" 247],#[]⟩) ::
 (nat_lit 53,⟨.type "function",none,.func (fnOf "__init__" "Part.__init__" (zE (wF (top 10) 0)) (zJ (wF (top 10) 0)) (zU (wF (top 10) 0)) (.none) (.none) (.none) (.str "curveyard.curves" 225) none (.ref 52) (.none)),#[]⟩) ::
 (nat_lit 55,⟨.type "dict",none,.dict #[⟨keyHash P "__module__",.str "__module__" 234,.str "curveyard.curves" 225⟩,⟨keyHash P "__firstlineno__",.str "__firstlineno__" 238,.int 25 237⟩,⟨keyHash P "__init__",.str "__init__" 248,.ref 53⟩,⟨keyHash P "__static_attributes__",.str "__static_attributes__" 252,.ref 54⟩,⟨keyHash P "__dict__",.str "__dict__" 254,.ref 57⟩,⟨keyHash P "__weakref__",.str "__weakref__" 256,.ref 58⟩,⟨keyHash P "__doc__",.str "__doc__" 257,.none⟩] 4,#[]⟩) ::
 (nat_lit 56,⟨.type "type",none,.cls { name:="Part",bases:=[.type "object"],mro:=[.ref 56,.type "object"],ns:=55,qualname:="Part",hasDict:=true,slotNames:=[],subclasses:=[],abstract:=false,collection:=none,hasDel:=false },#[none,none,some (.str "Part" 227),some (.str "Part" 235),some (.builtin "object.__new__"),some (.bool true)]⟩) ::
 (nat_lit 57,⟨.type "getset_descriptor",none,.fields #[.str "__dict__" 253,.ref 56,.builtin "function.__dict__",.builtin "function.__dict__#set"],#[]⟩) ::
 (nat_lit 58,⟨.type "getset_descriptor",none,.fields #[.str "__weakref__" 255,.ref 56,.builtin "ExceptionGroup.__weakref__",.none],#[]⟩) ::
 (nat_lit 73,⟨.type "code",none,.fields #[.str "__init__" 272,.str "Curve.__init__" 273,.str "/claim/cut.py" 274,.int 33 0,.int 5 0,.int 0 0,.int 0 0,.int 3 0,.ref 68,.bool true,.int 181 0,.ref 69,.none,.ref 70,.ref 71,.ref 72,.int 280 0,.int 33 0,.str "/claim/cut.py" 281],#[]⟩) ::
 (nat_lit 74,⟨.type "function",none,.func (fnOf "__init__" "Curve.__init__" (zE (wF (top 11) 0)) (zJ (wF (top 11) 0)) (zU (wF (top 11) 0)) (.none) (.none) (.none) (.str "curveyard.curves" 225) none (.ref 73) (.none)),#[]⟩) ::
 (nat_lit 76,⟨.type "dict",none,.dict #[⟨keyHash P "__module__",.str "__module__" 267,.str "curveyard.curves" 225⟩,⟨keyHash P "__firstlineno__",.str "__firstlineno__" 271,.int 31 270⟩,⟨keyHash P "__init__",.str "__init__" 282,.ref 74⟩,⟨keyHash P "__static_attributes__",.str "__static_attributes__" 287,.ref 75⟩,⟨keyHash P "__dict__",.str "__dict__" 289,.ref 78⟩,⟨keyHash P "__weakref__",.str "__weakref__" 291,.ref 79⟩,⟨keyHash P "__doc__",.str "__doc__" 292,.none⟩] 4,#[]⟩) ::
 (nat_lit 77,⟨.type "type",none,.cls { name:="Curve",bases:=[.type "object"],mro:=[.ref 77,.type "object"],ns:=76,qualname:="Curve",hasDict:=true,slotNames:=[],subclasses:=[],abstract:=false,collection:=none,hasDel:=false },#[none,none,some (.str "Curve" 260),some (.str "Curve" 268),some (.builtin "object.__new__"),some (.bool true)]⟩) ::
 (nat_lit 78,⟨.type "getset_descriptor",none,.fields #[.str "__dict__" 288,.ref 77,.builtin "function.__dict__",.builtin "function.__dict__#set"],#[]⟩) ::
 (nat_lit 79,⟨.type "getset_descriptor",none,.fields #[.str "__weakref__" 290,.ref 77,.builtin "ExceptionGroup.__weakref__",.none],#[]⟩) ::
 (nat_lit 87,⟨.type "code",none,.fields #[.str "first_state" 295,.str "first_state" 296,.str "/claim/cut.py" 297,.int 38 0,.int 1 0,.int 0 0,.int 0 0,.int 3 0,.ref 82,.bool true,.int 181 0,.ref 83,.none,.ref 84,.ref 85,.ref 86,.int 299 0,.int 38 0,.str "/claim/cut.py" 300],#[]⟩) ::
 (nat_lit 88,⟨.type "function",none,.func (fnOf "first_state" "first_state" (zE (top 12)) (zJ (top 12)) (zU (top 12)) (.none) (.none) (.none) (.str "curveyard.curves" 225) none (.ref 87) (.none)),#[]⟩) ::
 (nat_lit 94,⟨.type "code",none,.fields #[.str "part_at" 302,.str "part_at" 303,.str "/claim/cut.py" 304,.int 40 0,.int 3 0,.int 0 0,.int 0 0,.int 3 0,.ref 89,.bool true,.int 181 0,.ref 90,.none,.ref 91,.ref 92,.ref 93,.int 312 0,.int 40 0,.str "/claim/cut.py" 313],#[]⟩) ::
 (nat_lit 95,⟨.type "function",none,.func (fnOf "part_at" "part_at" (zE (top 13)) (zJ (top 13)) (zU (top 13)) (.none) (.none) (.none) (.str "curveyard.curves" 225) none (.ref 94) (.none)),#[]⟩) ::
 (nat_lit 101,⟨.type "code",none,.fields #[.str "walked" 315,.str "walked" 316,.str "/claim/cut.py" 317,.int 45 0,.int 3 0,.int 0 0,.int 0 0,.int 3 0,.ref 96,.bool true,.int 181 0,.ref 97,.none,.ref 98,.ref 99,.ref 100,.int 321 0,.int 45 0,.str "/claim/cut.py" 322],#[]⟩) ::
 (nat_lit 102,⟨.type "function",none,.func (fnOf "walked" "walked" (zE (top 14)) (zJ (top 14)) (zU (top 14)) (.none) (.none) (.none) (.str "curveyard.curves" 225) none (.ref 101) (.none)),#[]⟩) ::
 (nat_lit 111,⟨.type "dict",none,.dict #[⟨keyHash P "__module__",.str "__module__" 333,.str "curveyard.errors" 324⟩,⟨keyHash P "__firstlineno__",.str "__firstlineno__" 337,.int 48 336⟩,⟨keyHash P "__static_attributes__",.str "__static_attributes__" 338,.ref 110⟩,⟨keyHash P "__weakref__",.str "__weakref__" 340,.ref 113⟩,⟨keyHash P "__doc__",.str "__doc__" 341,.none⟩] 3,#[]⟩) ::
 (nat_lit 112,⟨.type "type",none,.cls { name:="YardError",bases:=[.type "ValueError"],mro:=[.ref 112,.type "ValueError",.type "Exception",.type "BaseException",.type "object"],ns:=111,qualname:="YardError",hasDict:=true,slotNames:=[],subclasses:=[.ref 125,.ref 144,.ref 187],abstract:=false,collection:=none,hasDel:=false },#[some (.ref 103),none,some (.str "YardError" 326),some (.str "YardError" 334),some (.builtin "ValueError.__new__"),some (.bool true)]⟩) ::
 (nat_lit 113,⟨.type "getset_descriptor",none,.fields #[.str "__weakref__" 339,.ref 112,.builtin "ExceptionGroup.__weakref__",.none],#[]⟩) ::
 (nat_lit 124,⟨.type "dict",none,.dict #[⟨keyHash P "__module__",.str "__module__" 351,.str "curveyard.errors" 324⟩,⟨keyHash P "__firstlineno__",.str "__firstlineno__" 355,.int 50 354⟩,⟨keyHash P "__static_attributes__",.str "__static_attributes__" 356,.ref 123⟩,⟨keyHash P "__doc__",.str "__doc__" 357,.none⟩] 2,#[]⟩) ::
 (nat_lit 125,⟨.type "type",none,.cls { name:="OffFloor",bases:=[.ref 112],mro:=[.ref 125,.ref 112,.type "ValueError",.type "Exception",.type "BaseException",.type "object"],ns:=124,qualname:="OffFloor",hasDict:=true,slotNames:=[],subclasses:=[],abstract:=false,collection:=none,hasDel:=false },#[some (.ref 116),none,some (.str "OffFloor" 344),some (.str "OffFloor" 352),some (.builtin "ValueError.__new__"),some (.bool true)]⟩) ::
 (nat_lit 140,⟨.type "code",none,.fields #[.str "__init__" 372,.str "TextError.__init__" 373,.str "/claim/cut.py" 374,.int 54 0,.int 2 0,.int 0 0,.int 0 0,.int 3 0,.ref 135,.bool true,.int 181 0,.ref 136,.none,.ref 137,.ref 138,.ref 139,.int 377 0,.int 54 0,.str "/claim/cut.py" 378],#[]⟩) ::
 (nat_lit 141,⟨.type "function",none,.func (fnOf "__init__" "TextError.__init__" (zE (wF (top 18) 0)) (zJ (wF (top 18) 0)) (zU (wF (top 18) 0)) (.none) (.none) (.none) (.str "curveyard.errors" 324) none (.ref 140) (.none)),#[]⟩) ::
 (nat_lit 143,⟨.type "dict",none,.dict #[⟨keyHash P "__module__",.str "__module__" 367,.str "curveyard.errors" 324⟩,⟨keyHash P "__firstlineno__",.str "__firstlineno__" 371,.int 52 370⟩,⟨keyHash P "__init__",.str "__init__" 379,.ref 141⟩,⟨keyHash P "__static_attributes__",.str "__static_attributes__" 381,.ref 142⟩,⟨keyHash P "__doc__",.str "__doc__" 382,.none⟩] 2,#[]⟩) ::
 (nat_lit 144,⟨.type "type",none,.cls { name:="TextError",bases:=[.ref 112],mro:=[.ref 144,.ref 112,.type "ValueError",.type "Exception",.type "BaseException",.type "object"],ns:=143,qualname:="TextError",hasDict:=true,slotNames:=[],subclasses:=[.ref 156,.ref 168],abstract:=false,collection:=none,hasDel:=false },#[some (.ref 128),none,some (.str "TextError" 360),some (.str "TextError" 368),some (.builtin "ValueError.__new__"),some (.bool true)]⟩) ::
 (nat_lit 155,⟨.type "dict",none,.dict #[⟨keyHash P "__module__",.str "__module__" 392,.str "curveyard.errors" 324⟩,⟨keyHash P "__firstlineno__",.str "__firstlineno__" 396,.int 56 395⟩,⟨keyHash P "__static_attributes__",.str "__static_attributes__" 397,.ref 154⟩,⟨keyHash P "__doc__",.str "__doc__" 398,.none⟩] 2,#[]⟩) ::
 (nat_lit 156,⟨.type "type",none,.cls { name:="BadRow",bases:=[.ref 144],mro:=[.ref 156,.ref 144,.ref 112,.type "ValueError",.type "Exception",.type "BaseException",.type "object"],ns:=155,qualname:="BadRow",hasDict:=true,slotNames:=[],subclasses:=[],abstract:=false,collection:=none,hasDel:=false },#[some (.ref 147),none,some (.str "BadRow" 385),some (.str "BadRow" 393),some (.builtin "ValueError.__new__"),some (.bool true)]⟩) ::
 (nat_lit 167,⟨.type "dict",none,.dict #[⟨keyHash P "__module__",.str "__module__" 408,.str "curveyard.errors" 324⟩,⟨keyHash P "__firstlineno__",.str "__firstlineno__" 412,.int 58 411⟩,⟨keyHash P "__static_attributes__",.str "__static_attributes__" 413,.ref 166⟩,⟨keyHash P "__doc__",.str "__doc__" 414,.none⟩] 2,#[]⟩) ::
 (nat_lit 168,⟨.type "type",none,.cls { name:="CornerTwice",bases:=[.ref 144],mro:=[.ref 168,.ref 144,.ref 112,.type "ValueError",.type "Exception",.type "BaseException",.type "object"],ns:=167,qualname:="CornerTwice",hasDict:=true,slotNames:=[],subclasses:=[],abstract:=false,collection:=none,hasDel:=false },#[some (.ref 159),none,some (.str "CornerTwice" 401),some (.str "CornerTwice" 409),some (.builtin "ValueError.__new__"),some (.bool true)]⟩) ::
 (nat_lit 183,⟨.type "code",none,.fields #[.str "__init__" 429,.str "Unmet.__init__" 430,.str "/claim/cut.py" 431,.int 62 0,.int 4 0,.int 0 0,.int 0 0,.int 3 0,.ref 178,.bool true,.int 181 0,.ref 179,.none,.ref 180,.ref 181,.ref 182,.int 436 0,.int 62 0,.str "/claim/cut.py" 437],#[]⟩) ::
 (nat_lit 184,⟨.type "function",none,.func (fnOf "__init__" "Unmet.__init__" (zE (wF (top 21) 0)) (zJ (wF (top 21) 0)) (zU (wF (top 21) 0)) (.none) (.none) (.none) (.str "curveyard.errors" 324) none (.ref 183) (.none)),#[]⟩) ::
 (nat_lit 186,⟨.type "dict",none,.dict #[⟨keyHash P "__module__",.str "__module__" 424,.str "curveyard.errors" 324⟩,⟨keyHash P "__firstlineno__",.str "__firstlineno__" 428,.int 60 427⟩,⟨keyHash P "__init__",.str "__init__" 438,.ref 184⟩,⟨keyHash P "__static_attributes__",.str "__static_attributes__" 442,.ref 185⟩,⟨keyHash P "__doc__",.str "__doc__" 443,.none⟩] 2,#[]⟩) ::
 (nat_lit 187,⟨.type "type",none,.cls { name:="Unmet",bases:=[.ref 112],mro:=[.ref 187,.ref 112,.type "ValueError",.type "Exception",.type "BaseException",.type "object"],ns:=186,qualname:="Unmet",hasDict:=true,slotNames:=[],subclasses:=[],abstract:=false,collection:=none,hasDel:=false },#[some (.ref 171),none,some (.str "Unmet" 417),some (.str "Unmet" 425),some (.builtin "ValueError.__new__"),some (.bool true)]⟩) ::
 (nat_lit 195,⟨.type "code",none,.fields #[.str "is_word" 452,.str "is_word" 453,.str "/claim/cut.py" 454,.int 69 0,.int 1 0,.int 0 0,.int 0 0,.int 3 0,.ref 190,.bool true,.int 181 0,.ref 191,.none,.ref 192,.ref 193,.ref 194,.int 456 0,.int 69 0,.str "/claim/cut.py" 457],#[]⟩) ::
 (nat_lit 196,⟨.type "function",none,.func (fnOf "is_word" "is_word" (zE (top 25)) (zJ (top 25)) (zU (top 25)) (.none) (.none) (.none) (.str "curveyard.figures" 446) none (.ref 195) (.none)),#[]⟩) ::
 (nat_lit 200,⟨.type "code",none,.fields #[.str "is_made_of" 459,.str "is_made_of" 460,.str "/claim/cut.py" 461,.int 71 0,.int 3 0,.int 0 0,.int 0 0,.int 3 0,.ref 197,.bool true,.int 181 0,.ref 198,.none,.none,.none,.ref 199,.int 462 0,.int 71 0,.str "/claim/cut.py" 463],#[]⟩) ::
 (nat_lit 201,⟨.type "function",none,.func (fnOf "is_made_of" "is_made_of" (zE (top 26)) (zJ (top 26)) (zU (top 26)) (.none) (.none) (.none) (.str "curveyard.figures" 446) none (.ref 200) (.none)),#[]⟩) ::
 (nat_lit 207,⟨.type "code",none,.fields #[.str "full" 467,.str "full" 468,.str "/claim/cut.py" 469,.int 74 0,.int 2 0,.int 0 0,.int 0 0,.int 3 0,.ref 202,.bool true,.int 181 0,.ref 203,.none,.ref 204,.ref 205,.ref 206,.int 474 0,.int 74 0,.str "/claim/cut.py" 475],#[]⟩) ::
 (nat_lit 208,⟨.type "function",none,.func (fnOf "full" "full" (zE (top 28)) (zJ (top 28)) (zU (top 28)) (.none) (.none) (.none) (.str "curveyard.numbering" 465) none (.ref 207) (.none)),#[]⟩) ::
 (nat_lit 212,⟨.type "code",none,.fields #[.str "deeper" 477,.str "deeper" 478,.str "/claim/cut.py" 479,.int 79 0,.int 2 0,.int 0 0,.int 0 0,.int 3 0,.ref 209,.bool true,.int 181 0,.ref 210,.none,.none,.none,.ref 211,.int 480 0,.int 79 0,.str "/claim/cut.py" 481],#[]⟩) ::
 (nat_lit 213,⟨.type "function",none,.func (fnOf "deeper" "deeper" (zE (top 29)) (zJ (top 29)) (zU (top 29)) (.none) (.none) (.none) (.str "curveyard.numbering" 465) none (.ref 212) (.none)),#[]⟩) ::
 (nat_lit 217,⟨.type "code",none,.fields #[.str "next_to" 483,.str "next_to" 484,.str "/claim/cut.py" 485,.int 81 0,.int 2 0,.int 0 0,.int 0 0,.int 3 0,.ref 214,.bool true,.int 181 0,.ref 215,.none,.none,.none,.ref 216,.int 486 0,.int 81 0,.str "/claim/cut.py" 487],#[]⟩) ::
 (nat_lit 218,⟨.type "function",none,.func (fnOf "next_to" "next_to" (zE (top 30)) (zJ (top 30)) (zU (top 30)) (.none) (.none) (.none) (.str "curveyard.numbering" 465) none (.ref 217) (.none)),#[]⟩) ::
 (nat_lit 224,⟨.type "code",none,.fields #[.str "unmet_at" 491,.str "unmet_at" 492,.str "/claim/cut.py" 493,.int 84 0,.int 2 0,.int 0 0,.int 0 0,.int 3 0,.ref 219,.bool true,.int 181 0,.ref 220,.none,.ref 221,.ref 222,.ref 223,.int 504 0,.int 84 0,.str "/claim/cut.py" 505],#[]⟩) ::
 (nat_lit 225,⟨.type "function",none,.func (fnOf "unmet_at" "unmet_at" (zE (top 32)) (zJ (top 32)) (zU (top 32)) (.none) (.none) (.none) (.str "curveyard.fitting" 489) none (.ref 224) (.none)),#[]⟩) ::
 (nat_lit 229,⟨.type "code",none,.fields #[.str "meeting_of" 507,.str "meeting_of" 508,.str "/claim/cut.py" 509,.int 100 0,.int 1 0,.int 0 0,.int 0 0,.int 3 0,.ref 226,.bool true,.int 181 0,.ref 227,.none,.none,.none,.ref 228,.int 510 0,.int 100 0,.str "/claim/cut.py" 511],#[]⟩) ::
 (nat_lit 230,⟨.type "function",none,.func (fnOf "meeting_of" "meeting_of" (zE (top 33)) (zJ (top 33)) (zU (top 33)) (.none) (.none) (.none) (.str "curveyard.fitting" 489) none (.ref 229) (.none)),#[]⟩) ::
 (nat_lit 231,⟨.type "dict",none,.dict #[⟨keyHash P "joined",.str "joined" 515,.bool true⟩,⟨keyHash P "loose",.str "loose" 516,.bool false⟩] 2,#[]⟩) ::
 (nat_lit 232,⟨.type "dict",none,.dict #[⟨keyHash P "2",.str "2" 520,.int 2 521⟩,⟨keyHash P "3",.str "3" 522,.int 3 523⟩] 2,#[]⟩) ::
 (nat_lit 238,⟨.type "code",none,.fields #[.str "curve_of" 527,.str "curve_of" 528,.str "/claim/cut.py" 529,.int 109 0,.int 1 0,.int 0 0,.int 0 0,.int 3 0,.ref 233,.bool true,.int 181 0,.ref 234,.none,.ref 235,.ref 236,.ref 237,.int 534 0,.int 109 0,.str "/claim/cut.py" 535],#[]⟩) ::
 (nat_lit 239,⟨.type "function",none,.func (fnOf "curve_of" "curve_of" (zE (top 37)) (zJ (top 37)) (zU (top 37)) (.none) (.none) (.none) (.str "curveyard.curvetext" 513) none (.ref 238) (.none)),#[]⟩) ::
 (nat_lit 245,⟨.type "code",none,.fields #[.str "curve_from" 537,.str "curve_from" 538,.str "/claim/cut.py" 539,.int 116 0,.int 1 0,.int 0 0,.int 0 0,.int 3 0,.ref 240,.bool true,.int 181 0,.ref 241,.none,.ref 242,.ref 243,.ref 244,.int 548 0,.int 116 0,.str "/claim/cut.py" 549],#[]⟩) ::
 (nat_lit 246,⟨.type "function",none,.func (fnOf "curve_from" "curve_from" (zE (top 38)) (zJ (top 38)) (zU (top 38)) (.none) (.none) (.none) (.str "curveyard.curvetext" 513) none (.ref 245) (.none)),#[]⟩) ::
 (nat_lit 252,⟨.type "code",none,.fields #[.str "words_at" 551,.str "words_at" 552,.str "/claim/cut.py" 553,.int 127 0,.int 2 0,.int 0 0,.int 0 0,.int 3 0,.ref 247,.bool true,.int 181 0,.ref 248,.none,.ref 249,.ref 250,.ref 251,.int 556 0,.int 127 0,.str "/claim/cut.py" 557],#[]⟩) ::
 (nat_lit 253,⟨.type "function",none,.func (fnOf "words_at" "words_at" (zE (top 39)) (zJ (top 39)) (zU (top 39)) (.none) (.none) (.none) (.str "curveyard.curvetext" 513) none (.ref 252) (.none)),#[]⟩) ::
 (nat_lit 259,⟨.type "code",none,.fields #[.str "read_head" 559,.str "read_head" 560,.str "/claim/cut.py" 561,.int 131 0,.int 1 0,.int 0 0,.int 0 0,.int 3 0,.ref 254,.bool true,.int 181 0,.ref 255,.none,.ref 256,.ref 257,.ref 258,.int 563 0,.int 131 0,.str "/claim/cut.py" 564],#[]⟩) ::
 (nat_lit 260,⟨.type "function",none,.func (fnOf "read_head" "read_head" (zE (top 40)) (zJ (top 40)) (zU (top 40)) (.none) (.none) (.none) (.str "curveyard.curvetext" 513) none (.ref 259) (.none)),#[]⟩) ::
 (nat_lit 266,⟨.type "code",none,.fields #[.str "read_part" 566,.str "read_part" 567,.str "/claim/cut.py" 568,.int 137 0,.int 3 0,.int 0 0,.int 0 0,.int 3 0,.ref 261,.bool true,.int 181 0,.ref 262,.none,.ref 263,.ref 264,.ref 265,.int 575 0,.int 137 0,.str "/claim/cut.py" 576],#[]⟩) ::
 (nat_lit 267,⟨.type "function",none,.func (fnOf "read_part" "read_part" (zE (top 41)) (zJ (top 41)) (zU (top 41)) (.none) (.none) (.none) (.str "curveyard.curvetext" 513) none (.ref 266) (.none)),#[]⟩) ::
 (nat_lit 273,⟨.type "code",none,.fields #[.str "fitted" 578,.str "fitted" 579,.str "/claim/cut.py" 580,.int 146 0,.int 1 0,.int 0 0,.int 0 0,.int 3 0,.ref 268,.bool true,.int 181 0,.ref 269,.none,.ref 270,.ref 271,.ref 272,.int 585 0,.int 146 0,.str "/claim/cut.py" 586],#[]⟩) ::
 (nat_lit 274,⟨.type "function",none,.func (fnOf "fitted" "fitted" (zE (top 42)) (zJ (top 42)) (zU (top 42)) (.none) (.none) (.none) (.str "curveyard.curvetext" 513) none (.ref 273) (.none)),#[]⟩) ::
 (nat_lit 280,⟨.type "code",none,.fields #[.str "_law_mix" 590,.str "_law_mix" 591,.str "/claim/cut.py" 592,.int 153 0,.int 2 0,.int 0 0,.int 0 0,.int 3 0,.ref 275,.bool true,.int 181 0,.ref 276,.none,.ref 277,.ref 278,.ref 279,.int 596 0,.int 153 0,.str "/claim/cut.py" 597],#[]⟩) ::
 (nat_lit 281,⟨.type "function",none,.func (fnOf "_law_mix" "_law_mix" (zE (top 44)) (zJ (top 44)) (zU (top 44)) (.none) (.none) (.none) (.str "law_curveyard_k09_texts_refused" 588) none (.ref 280) (.none)),#[]⟩) ::
 (nat_lit 285,⟨.type "code",none,.fields #[.str "_law_turned" 599,.str "_law_turned" 600,.str "/claim/cut.py" 601,.int 156 0,.int 2 0,.int 0 0,.int 0 0,.int 3 0,.ref 282,.bool true,.int 181 0,.ref 283,.none,.none,.none,.ref 284,.int 602 0,.int 156 0,.str "/claim/cut.py" 603],#[]⟩) ::
 (nat_lit 286,⟨.type "function",none,.func (fnOf "_law_turned" "_law_turned" (zE (top 45)) (zJ (top 45)) (zU (top 45)) (.none) (.none) (.none) (.str "law_curveyard_k09_texts_refused" 588) none (.ref 285) (.none)),#[]⟩) ::
 (nat_lit 290,⟨.type "code",none,.fields #[.str "_law_after" 605,.str "_law_after" 606,.str "/claim/cut.py" 607,.int 158 0,.int 2 0,.int 0 0,.int 0 0,.int 3 0,.ref 287,.bool true,.int 181 0,.ref 288,.none,.none,.none,.ref 289,.int 608 0,.int 158 0,.str "/claim/cut.py" 609],#[]⟩) ::
 (nat_lit 291,⟨.type "function",none,.func (fnOf "_law_after" "_law_after" (zE (top 46)) (zJ (top 46)) (zU (top 46)) (.none) (.none) (.none) (.str "law_curveyard_k09_texts_refused" 588) none (.ref 290) (.none)),#[]⟩) ::
 (nat_lit 297,⟨.type "code",none,.fields #[.str "_law_undone" 611,.str "_law_undone" 612,.str "/claim/cut.py" 613,.int 160 0,.int 1 0,.int 0 0,.int 0 0,.int 3 0,.ref 292,.bool true,.int 181 0,.ref 293,.none,.ref 294,.ref 295,.ref 296,.int 617 0,.int 160 0,.str "/claim/cut.py" 618],#[]⟩) ::
 (nat_lit 298,⟨.type "function",none,.func (fnOf "_law_undone" "_law_undone" (zE (top 47)) (zJ (top 47)) (zU (top 47)) (.none) (.none) (.none) (.str "law_curveyard_k09_texts_refused" 588) none (.ref 297) (.none)),#[]⟩) ::
 (nat_lit 302,⟨.type "code",none,.fields #[.str "_law_turn" 620,.str "_law_turn" 621,.str "/claim/cut.py" 622,.int 165 0,.int 2 0,.int 0 0,.int 0 0,.int 3 0,.ref 299,.bool true,.int 181 0,.ref 300,.none,.none,.none,.ref 301,.int 623 0,.int 165 0,.str "/claim/cut.py" 624],#[]⟩) ::
 (nat_lit 303,⟨.type "function",none,.func (fnOf "_law_turn" "_law_turn" (zE (top 48)) (zJ (top 48)) (zU (top 48)) (.none) (.none) (.none) (.str "law_curveyard_k09_texts_refused" 588) none (.ref 302) (.none)),#[]⟩) ::
 (nat_lit 309,⟨.type "code",none,.fields #[.str "_law_base" 626,.str "_law_base" 627,.str "/claim/cut.py" 628,.int 172 0,.int 1 0,.int 0 0,.int 0 0,.int 3 0,.ref 304,.bool true,.int 181 0,.ref 305,.none,.ref 306,.ref 307,.ref 308,.int 632 0,.int 172 0,.str "/claim/cut.py" 633],#[]⟩) ::
 (nat_lit 310,⟨.type "function",none,.func (fnOf "_law_base" "_law_base" (zE (top 49)) (zJ (top 49)) (zU (top 49)) (.none) (.none) (.none) (.str "law_curveyard_k09_texts_refused" 588) none (.ref 309) (.none)),#[]⟩) ::
 (nat_lit 314,⟨.type "code",none,.fields #[.str "_law_joined" 635,.str "_law_joined" 636,.str "/claim/cut.py" 637,.int 182 0,.int 2 0,.int 0 0,.int 0 0,.int 3 0,.ref 311,.bool true,.int 181 0,.ref 312,.none,.none,.none,.ref 313,.int 638 0,.int 182 0,.str "/claim/cut.py" 639],#[]⟩) ::
 (nat_lit 315,⟨.type "function",none,.func (fnOf "_law_joined" "_law_joined" (zE (top 50)) (zJ (top 50)) (zU (top 50)) (.none) (.none) (.none) (.str "law_curveyard_k09_texts_refused" 588) none (.ref 314) (.none)),#[]⟩) ::
 (nat_lit 319,⟨.type "code",none,.fields #[.str "_law_corners" 641,.str "_law_corners" 642,.str "/claim/cut.py" 643,.int 198 0,.int 1 0,.int 0 0,.int 0 0,.int 3 0,.ref 316,.bool true,.int 181 0,.ref 317,.none,.none,.none,.ref 318,.int 644 0,.int 198 0,.str "/claim/cut.py" 645],#[]⟩) ::
 (nat_lit 320,⟨.type "function",none,.func (fnOf "_law_corners" "_law_corners" (zE (top 51)) (zJ (top 51)) (zU (top 51)) (.none) (.none) (.none) (.str "law_curveyard_k09_texts_refused" 588) none (.ref 319) (.none)),#[]⟩) ::
 (nat_lit 326,⟨.type "code",none,.fields #[.str "_law_loose" 647,.str "_law_loose" 648,.str "/claim/cut.py" 649,.int 203 0,.int 2 0,.int 0 0,.int 0 0,.int 3 0,.ref 321,.bool true,.int 181 0,.ref 322,.none,.ref 323,.ref 324,.ref 325,.int 656 0,.int 203 0,.str "/claim/cut.py" 657],#[]⟩) ::
 (nat_lit 327,⟨.type "function",none,.func (fnOf "_law_loose" "_law_loose" (zE (top 52)) (zJ (top 52)) (zU (top 52)) (.none) (.none) (.none) (.str "law_curveyard_k09_texts_refused" 588) none (.ref 326) (.none)),#[]⟩) ::
 (nat_lit 331,⟨.type "code",none,.fields #[.str "_law_rows" 659,.str "_law_rows" 660,.str "/claim/cut.py" 661,.int 211 0,.int 3 0,.int 0 0,.int 0 0,.int 3 0,.ref 328,.bool true,.int 181 0,.ref 329,.none,.none,.none,.ref 330,.int 662 0,.int 211 0,.str "/claim/cut.py" 663],#[]⟩) ::
 (nat_lit 332,⟨.type "function",none,.func (fnOf "_law_rows" "_law_rows" (zE (top 53)) (zJ (top 53)) (zU (top 53)) (.none) (.none) (.none) (.str "law_curveyard_k09_texts_refused" 588) none (.ref 331) (.none)),#[]⟩) ::
 (nat_lit 338,⟨.type "code",none,.fields #[.str "_law_bad_head" 665,.str "_law_bad_head" 666,.str "/claim/cut.py" 667,.int 220 0,.int 2 0,.int 0 0,.int 0 0,.int 3 0,.ref 333,.bool true,.int 181 0,.ref 334,.none,.ref 335,.ref 336,.ref 337,.int 672 0,.int 220 0,.str "/claim/cut.py" 673],#[]⟩) ::
 (nat_lit 339,⟨.type "function",none,.func (fnOf "_law_bad_head" "_law_bad_head" (zE (top 54)) (zJ (top 54)) (zU (top 54)) (.none) (.none) (.none) (.str "law_curveyard_k09_texts_refused" 588) none (.ref 338) (.none)),#[]⟩) ::
 (nat_lit 343,⟨.type "code",none,.fields #[.str "_law_bad_part" 675,.str "_law_bad_part" 676,.str "/claim/cut.py" 677,.int 228 0,.int 2 0,.int 0 0,.int 0 0,.int 3 0,.ref 340,.bool true,.int 181 0,.ref 341,.none,.none,.none,.ref 342,.int 678 0,.int 228 0,.str "/claim/cut.py" 679],#[]⟩) ::
 (nat_lit 344,⟨.type "function",none,.func (fnOf "_law_bad_part" "_law_bad_part" (zE (top 55)) (zJ (top 55)) (zU (top 55)) (.none) (.none) (.none) (.str "law_curveyard_k09_texts_refused" 588) none (.ref 343) (.none)),#[]⟩) ::
 (nat_lit 350,⟨.type "code",none,.fields #[.str "_law_faulty" 681,.str "_law_faulty" 682,.str "/claim/cut.py" 683,.int 241 0,.int 2 0,.int 0 0,.int 0 0,.int 3 0,.ref 345,.bool true,.int 181 0,.ref 346,.none,.ref 347,.ref 348,.ref 349,.int 690 0,.int 241 0,.str "/claim/cut.py" 691],#[]⟩) ::
 (nat_lit 351,⟨.type "function",none,.func (fnOf "_law_faulty" "_law_faulty" (zE (top 56)) (zJ (top 56)) (zU (top 56)) (.none) (.none) (.none) (.str "law_curveyard_k09_texts_refused" 588) none (.ref 350) (.none)),#[]⟩) ::
 (nat_lit 357,⟨.type "code",none,.fields #[.str "_law_second" 693,.str "_law_second" 694,.str "/claim/cut.py" 695,.int 256 0,.int 3 0,.int 0 0,.int 0 0,.int 3 0,.ref 352,.bool true,.int 181 0,.ref 353,.none,.ref 354,.ref 355,.ref 356,.int 700 0,.int 256 0,.str "/claim/cut.py" 701],#[]⟩) ::
 (nat_lit 358,⟨.type "function",none,.func (fnOf "_law_second" "_law_second" (zE (top 57)) (zJ (top 57)) (zU (top 57)) (.none) (.none) (.none) (.str "law_curveyard_k09_texts_refused" 588) none (.ref 357) (.none)),#[]⟩) ::
 (nat_lit 364,⟨.type "code",none,.fields #[.str "_law_caught" 703,.str "_law_caught" 704,.str "/claim/cut.py" 705,.int 261 0,.int 2 0,.int 0 0,.int 0 0,.int 3 0,.ref 359,.bool true,.int 181 0,.ref 360,.none,.ref 361,.ref 362,.ref 363,.int 710 0,.int 261 0,.str "/claim/cut.py" 711],#[]⟩) ::
 (nat_lit 365,⟨.type "function",none,.func (fnOf "_law_caught" "_law_caught" (zE (top 58)) (zJ (top 58)) (zU (top 58)) (.none) (.none) (.none) (.str "law_curveyard_k09_texts_refused" 588) none (.ref 364) (.none)),#[]⟩) ::
 (nat_lit 371,⟨.type "code",none,.fields #[.str "_law_refused" 713,.str "_law_refused" 714,.str "/claim/cut.py" 715,.int 271 0,.int 3 0,.int 0 0,.int 0 0,.int 3 0,.ref 366,.bool true,.int 181 0,.ref 367,.none,.ref 368,.ref 369,.ref 370,.int 719 0,.int 271 0,.str "/claim/cut.py" 720],#[]⟩) ::
 (nat_lit 372,⟨.type "function",none,.func (fnOf "_law_refused" "_law_refused" (zE (top 59)) (zJ (top 59)) (zU (top 59)) (.none) (.none) (.none) (.str "law_curveyard_k09_texts_refused" 588) none (.ref 371) (.none)),#[]⟩) ::
 (nat_lit 378,⟨.type "code",none,.fields #[.str "law" 722,.str "law" 723,.str "/claim/cut.py" 724,.int 279 0,.int 1 0,.int 0 0,.int 0 0,.int 3 0,.ref 373,.bool true,.int 181 0,.ref 374,.none,.ref 375,.ref 376,.ref 377,.int 735 0,.int 279 0,.str "/claim/cut.py" 736],#[]⟩) ::
 (nat_lit 379,⟨.type "function",none,.func (fnOf "law" "law" (zE (top 60)) (zJ (top 60)) (zU (top 60)) (.none) (.none) (.none) (.str "law_curveyard_k09_texts_refused" 588) none (.ref 378) (.none)),#[]⟩)::[]
def oV:Program:=view PySem.Challenge.pw_curveyard_k09_texts_refused [60]
def loose:List Str:="BITS"::"FLIPS"::"AXES"::"turned"::"still"::"after"::"turn_of"::"corner_of"::"Part"::"Curve"::"first_state"::"part_at"::"walked"::"YardError"::"OffFloor"::"TextError"::"BadRow"::"CornerTwice"::"Unmet"::"LETTERS"::"LONGEST_WORD"::"is_word"::"is_made_of"::"full"::"deeper"::"next_to"::"unmet_at"::"meeting_of"::"PROMISES"::"DIMS"::"curve_of"::"curve_from"::"words_at"::"read_head"::"read_part"::"fitted"::"_law_mix"::"_law_turned"::"_law_after"::"_law_undone"::"_law_turn"::"_law_base"::"_law_joined"::"_law_corners"::"_law_loose"::"_law_rows"::"_law_bad_head"::"_law_bad_part"::"_law_faulty"::"_law_second"::"_law_caught"::"_law_refused"::[]
def zPK:List Addr:=nat_lit 3::nat_lit 18::nat_lit 19::nat_lit 23::nat_lit 24::nat_lit 28::nat_lit 29::nat_lit 33::nat_lit 34::nat_lit 38::nat_lit 39::nat_lit 52::nat_lit 53::nat_lit 55::nat_lit 56::nat_lit 57::nat_lit 58::nat_lit 73::nat_lit 74::nat_lit 76::nat_lit 77::nat_lit 78::nat_lit 79::nat_lit 87::nat_lit 88::nat_lit 94::nat_lit 95::nat_lit 101::nat_lit 102::nat_lit 111::nat_lit 112::nat_lit 113::nat_lit 124::nat_lit 125::nat_lit 140::nat_lit 141::nat_lit 143::nat_lit 144::nat_lit 155::nat_lit 156::nat_lit 167::nat_lit 168::nat_lit 183::nat_lit 184::nat_lit 186::nat_lit 187::nat_lit 195::nat_lit 196::nat_lit 200::nat_lit 201::nat_lit 207::nat_lit 208::nat_lit 212::nat_lit 213::nat_lit 217::nat_lit 218::nat_lit 224::nat_lit 225::nat_lit 229::nat_lit 230::nat_lit 231::nat_lit 232::nat_lit 238::nat_lit 239::nat_lit 245::nat_lit 246::nat_lit 252::nat_lit 253::nat_lit 259::nat_lit 260::nat_lit 266::nat_lit 267::nat_lit 273::nat_lit 274::nat_lit 280::nat_lit 281::nat_lit 285::nat_lit 286::nat_lit 290::nat_lit 291::nat_lit 297::nat_lit 298::nat_lit 302::nat_lit 303::nat_lit 309::nat_lit 310::nat_lit 314::nat_lit 315::nat_lit 319::nat_lit 320::nat_lit 326::nat_lit 327::nat_lit 331::nat_lit 332::nat_lit 338::nat_lit 339::nat_lit 343::nat_lit 344::nat_lit 350::nat_lit 351::nat_lit 357::nat_lit 358::nat_lit 364::nat_lit 365::nat_lit 371::nat_lit 372::nat_lit 378::nat_lit 379::[]
theorem zW7 (P:Params):zPK=(zVX P).map (fun x=>x.1):=by kernel_rfl
abbrev hook:Hook:=kHook zVX zPK zW7
abbrev zRo (s:Shared):Bool:=xlAt oV [] s&&recOk (RowW.records PySem.Challenge.rw_curveyard_k09_texts_refused.row.toRowW) s
def rH (w:World):Prop:=(openEnds treeTable PySem.Challenge.rw_curveyard_k09_texts_refused.row.prog w 6376).map (fun s=>openSeen oV loose (importedModules PySem.Challenge.rw_curveyard_k09_texts_refused.row.prog.main.body) zRo true s)=some (openGood oV loose)
theorem zVg (w:World):rH (w.withFollow "special-get-raises" false):=by unfold rH;kernel_rfl
theorem zVI (w:World):rH (w.withFollow "special-get-raises" true):=by unfold rH;kernel_rfl
theorem zRV (w:World):(openEnds treeTable PySem.Challenge.rw_curveyard_k09_texts_refused.row.prog w 6376).map (fun s=>openSeen oV loose (importedModules PySem.Challenge.rw_curveyard_k09_texts_refused.row.prog.main.body) zRo true s)=some (openGood oV loose):=byRow2 "special-get-raises" (P:=rH) zVg zVI w
def rG (w:World):Prop:=(openEnds treeTable PySem.Challenge.rw_curveyard_k09_texts_refused.row.prog w 6376).map hook.obs=some (hook.val w)
theorem zVk (w:World):rG (w.withFollow "special-get-raises" false):=by unfold rG;kernel_rfl
theorem zVH (w:World):rG (w.withFollow "special-get-raises" true):=by unfold rG;kernel_rfl
theorem zSA (w:World):(openEnds treeTable PySem.Challenge.rw_curveyard_k09_texts_refused.row.prog w 6376).map hook.obs=some (hook.val w):=byRow2 "special-get-raises" (P:=rG) zVk zVH w
theorem zQH {α β γ:Type}{x:Option α}{f:α->β}{g:α->γ}{a:β}{b:γ}(h1:x.map f=some a)(h2:x.map g=some b):x.map (fun s=>(f s,g s))=some (a,b):=by
 cases x with
 | none=>cases h1
 | some s=>cases h1;cases h2;rfl
theorem zPP:LeftO PySem.Challenge.rw_curveyard_k09_texts_refused.row.prog oV loose zRo hook.obs hook.val 6376:=fun w=>zQH (zRV w) (zSA w)
theorem zRp:PySem.Challenge.rw_curveyard_k09_texts_refused.row.wellSaid=true:=by kernel_rfl
theorem zQc:PySem.W.OpenLaw.wellSaid PySem.Challenge.rw_curveyard_k09_texts_refused=true:=by
 unfold PySem.W.OpenLaw.wellSaid
 rw[zRp]
 kernel_rfl
end My
namespace L2
open PySem PySem.Spec PyProof.Rows
abbrev Key:=Sum Int Str
def zPB:Key->Value->Bool
 | .inl k,v=>Value.isInt k v
 | .inr x,v=>Value.isStrOf x v
def zMJ (w:World):Key->Int
 | .inl k=>hashInt k
 | .inr x=>hashStr w x
theorem wJ:∀ {k:Key} {v:Value},zPB k v=true->(∃i t,k=Sum.inl i/\v=Value.int i t)∨(∃x t,k=Sum.inr x/\v=Value.str x t)
 | .inl i,v,h=>by
   obtain⟨t,e⟩:=Value.isInt_shape (k:=i) (v:=v) h
   exact .inl ⟨i,t,rfl,e⟩
 | .inr x,v,h=>by
   obtain⟨t,e⟩:=Value.isStrOf_shape (x:=x) (v:=v) h
   exact .inr ⟨x,t,rfl,e⟩
theorem zOS (a b:Int):decide ((Sum.inl a:Key)=Sum.inl b)=(a==b):=by
 by_cases e:a=b
 · subst e;simp
 · have h:¬(Sum.inl a:Key)=Sum.inl b:=fun q=>e (Sum.inl.inj q)
   rw[Qz h]
   exact(Wl.mpr e).symm
theorem zO8 (a b:Str):decide ((Sum.inr a:Key)=Sum.inr b)=decide (a=b):=by
 by_cases e:a=b
 · subst e;simp
 · have h:¬(Sum.inr a:Key)=Sum.inr b:=fun q=>e (Sum.inr.inj q)
   rw[Qz h,Qz e]
theorem zPg (a:Int)(b:Str):decide ((Sum.inl a:Key)=Sum.inr b)=false:=Qz (fun q=>nomatch q)
theorem zPl (a:Str)(b:Int):decide ((Sum.inr a:Key)=Sum.inl b)=false:=Qz (fun q=>nomatch q)
def zUJ (prog:Program)(w:World):PySem.KeyKind prog w Key where
 is:=zPB
 hash:=zMJ w
 inj:=fun v a b ha hb=>by
   rcases wJ ha with⟨i,t,rfl,rfl⟩ | ⟨x,t,rfl,rfl⟩
   · rcases wJ hb with⟨j,u,rfl,e⟩ | ⟨y,u,rfl,e⟩
     · injection e with e1 _;rw[e1]
     · exact nomatch e
   · rcases wJ hb with⟨j,u,rfl,e⟩ | ⟨y,u,rfl,e⟩
     · exact nomatch e
     · injection e with e1 _;rw[e1]
 byValue:=fun k v h=>by
   rcases wJ h with⟨i,t,rfl,rfl⟩ | ⟨x,t,rfl,rfl⟩<;>rfl
 pyHash:=fun hv h=>by
   rcases wJ hv with⟨i,t,rfl,rfl⟩ | ⟨x,t,rfl,rfl⟩
   · exact wpAny_pyHash_int h
   · exact wpAny_pyHash_str h
 eqBool:=fun hu hv h=>by
   rcases wJ hu with⟨i,t,rfl,rfl⟩ | ⟨x,t,rfl,rfl⟩
   · rcases wJ hv with⟨j,u,rfl,rfl⟩ | ⟨y,u,rfl,rfl⟩
     · rw[zOS] at h;exact wpAny_eqBool_int h
     · rw[zPg] at h;exact SeqAt.EqAt.int_str i t y u _ _ _ _ h
   · rcases wJ hv with⟨j,u,rfl,rfl⟩ | ⟨y,u,rfl,rfl⟩
     · rw[zPl] at h;exact SeqAt.EqAt.str_int x t j u _ _ _ _ h
     · rw[zO8] at h;exact wpAny_eqBool_str h
 «strs» := fun k x t v h=>by
   rcases wJ h with⟨i,u,rfl,e⟩ | ⟨y,u,rfl,e⟩
   · exact nomatch e
   · injection e with e1 _
     subst e1
     cases v<;>rfl
inductive V where
 | non | bl (b:Bool) | int (i:Int) | str (x:Str) | byt (b:Array UInt8) | flt (b:UInt64) | ref (a:Addr) | ty (n:String)
 deriving DecidableEq
def RelV:V->Value->Prop
 | .non,u=>u=Value.none
 | .bl b,u=>u=Value.bool b
 | .int i,u=>∃t,u=Value.int i t
 | .str x,u=>∃t,u=Value.str x t
 | .byt b,u=>∃t,u=Value.bytes b t
 | .flt b,u=>∃t,u=Value.float b t
 | .ref a,u=>u=Value.ref a
 | .ty n,u=>u=Value.type n
abbrev Vals:List V->List Value->Prop:=Paired RelV
theorem Vals.length {xs:List V}{us:List Value}(r:Vals xs us):xs.length=us.length:=Paired.length r
theorem Vals.get:∀ {xs:List V} {us:List Value} {i:Nat} {x:V},Vals xs us->xs[i]?=some x->∃u,us[i]?=some u/\RelV x u
 | _,_,_,_,.nil,e=>by simp at e
 | _,_,0,_,.cons r _,e=>by simp at e;subst e;exact⟨_,rfl,r⟩
 | _,_,i+1,x,.cons _ t,e=>by
   obtain⟨u,h1,h2⟩:=Vals.get (i:=i) (x:=x) t (by simpa using e)
   exact⟨u,by simpa using h1,h2⟩
theorem Vals.set {x:V}{u:Value}(r:RelV x u):∀ {xs:List V} {us:List Value} (i:Nat),Vals xs us->Vals (xs.set i x) (us.set i u)
 | _,_,_,.nil=>.nil
 | _,_,0,.cons _ t=>.cons r t
 | _,_,i+1,.cons q t=>.cons q (Vals.set r i t)
theorem Vals.append:∀ {xs ys:List V} {us ws:List Value},Vals xs us->Vals ys ws->Vals (xs++ys) (us++ws)
 | _,_,_,_,.nil,s=>s
 | _,_,_,_,.cons r t,s=>.cons r (Vals.append t s)
theorem Vals.take:∀ {xs:List V} {us:List Value} (n:Nat),Vals xs us->Vals (xs.take n) (us.take n)
 | _,_,0,_=>.nil
 | _,_,_+1,.nil=>.nil
 | _,_,n+1,.cons r t=>.cons r (Vals.take n t)
theorem Vals.drop:∀ {xs:List V} {us:List Value} (n:Nat),Vals xs us->Vals (xs.drop n) (us.drop n)
 | _,_,0,r=>r
 | _,_,_+1,.nil=>.nil
 | _,_,n+1,.cons _ t=>Vals.drop n t
def RelO:Option V->Option Value->Prop
 | some v,some u=>RelV v u
 | none,none=>True
 | _,_=>False
def KV {κ:Type}:List (κ×V)->List (κ×Value)->Prop:=Paired fun(p:κ×V) (q:κ×Value)=>p.1=q.1/\RelV p.2 q.2
def kV:Key->V
 | .inl i=>.int i
 | .inr x=>.str x
inductive HO where
 /-- a list -/
 | lst (xs:List V)
 /-- a tuple (never changes) -/
 | tup (xs:List V)
 /-- a dict whose keys are ints and texts; one whose keys are tuples of ints and texts (the empty one is both) -/
 | dK (kvs:List (Key×V)) | dT (kvs:List (List Key×V))
 /-- a set of ints: its members, its size -/
 | set (S:Int->Bool) (n:Nat)
 /-- an instance of the class at C, its dict at dx, its attributes -/
 | ins (C dx:Addr) (fs:List (Str×V))
 /-- the dict of the instance at x -/
 | own (x:Addr)
 /-- the dict of an exception -/
 | xd (fs:List (Str×V))
 /-- a bound method, f of x -/
 | met (f x:Addr)
 /-- a range object lo, lo + 1, .. below hi -/
 | rng (lo hi:Int)
 /-- a thing that is known to the object (the script; a dict while a loop walks it): read, never written while it is so -/
 | frz (o:Obj) (u:HO)
 /-- a code object's table -/
 | tbl (ps:Array Value)
 /-- any other thing, by what is true of its one object (a def of one's own: SetO a S n := HO.ext fun h => ..) -/
 | ext (φ:Heap->Prop)
abbrev Hp:=Addr->Option HO
def upd (H:Hp)(a:Addr)(o:HO):Hp:=fun b=>if b=a then some o else H b
theorem zN {H:Hp}{a:Addr}{o:HO}:upd H a o a=some o:=by unfold upd;rw[Wr rfl]
theorem yS {H:Hp}{a b:Addr}{o:HO}(h:b≠a):upd H a o b=H b:=by unfold upd;rw[Wj h]
theorem yK {H:Hp}{a b:Addr}{o:HO}(h:H a=some o)(h':H b=none):a≠b:=by
 intro e;subst e;rw[h] at h';cases h'
section
variable (P:Program) (w:World)
def ObjOk (H:Hp)(h:Heap)(a:Addr):HO->Prop
 | .lst xs=>xs.length<=sizeLine/\∃(its:List Value) (n:Nat),Vals xs its/\h.get? a=some { cls:=.type "list",data:=.seq its.toArray n }
 | .tup xs=>xs.length<=sizeLine/\∃its:List Value,Vals xs its/\IsTup h a its.toArray
 | .dK kvs=>kvs.length<=sizeLine/\(a==sysModules)=false/\∃vs,KV kvs vs/\h.DictOf (zUJ P w) a vs
 | .dT kvs=>kvs.length<=sizeLine/\(a==sysModules)=false/\∃xs:List (List Key×Addr×Value),
     Paired (fun(p:List Key×V) (q:List Key×Addr×Value)=>p.1=q.1/\H q.2.1=some (.tup (p.1.map kV))/\RelV p.2 q.2.2) kvs xs /\
     ∃o es ep,h.get? a=some o/\o.ExactDict/\o.data = .dict es ep/\es.toList=xs.map (entryOfKey (tupleKind (zUJ P w)))/\(xs.map (·.1)).Nodup
 | .set S n=>h.SetOf (intKind P w) a S n
 | .ins C dx fs=>H dx=some (.own a)/\fs.length<=1000/\dx≠a/\h.get? a=some (PySem.W.instObj C dx) /\
     ∃mA,h.Ns1 dx mA/\(∀f,RelO (fs.lookup f) (mA f))/\PySem.Within mA (fs.map (·.1))
 | .own _=>∃o,h.get? a=some o
 | .xd fs=>∃mA,h.Ns1 a mA/\∀f,RelO (fs.lookup f) (mA f)
 | .rng lo hi=>∃t u v,h.get? a=some { cls:=.type "range",data:=.fields #[.int lo t,.int hi u,.int 1 v] }
 | .frz o u=>h.get? a=some o/\ObjOk H h a u
 | .tbl ps=>h.get? a=some { cls:=.none,data:=.fields ps }
 | .met f x=>h.get? a=some (PySem.W.methodObj (.ref f) (.ref x))
 | .ext φ=>φ h/\(∃o,h.get? a=some o)/\∀h1 h2:Heap,φ h1->(∀o,h1.get? a=some o->h2.get? a=some o)->φ h2
def HOk (H:Hp)(h:Heap):Prop:=∀a o,H a=some o->ObjOk P w H h a o
end
section
variable {P:Program} {w:World} {H H':Hp} {h h':Heap} {a:Addr} {o:HO}
theorem ObjOk.lt (x:ObjOk P w H h a o):a < h.objs.size:=by
 cases o with
 | lst xs=>obtain⟨_,_,_,_,e⟩:=x;exact Qy e
 | tup xs=>obtain⟨_,_,_,p⟩:=x;exact p.lt
 | dK kvs=>obtain⟨_,_,_,_,o,_,_,e,_⟩:=x;exact Qy e
 | dT kvs=>obtain⟨_,_,_,_,o,_,_,e,_⟩:=x;exact Qy e
 | set S n=>obtain⟨o,_,_,_,e,_⟩:=x;exact Qy e
 | ins C dx fs=>obtain⟨_,_,_,e,_⟩:=x;exact Qy e
 | own y=>obtain⟨_,e⟩:=x;exact Qy e
 | xd fs=>obtain⟨_,⟨_,_,_,e,_⟩,_⟩:=x;exact Qy e
 | rng lo hi=>obtain⟨_,_,_,e⟩:=x;exact Qy e
 | frz ob u=>obtain⟨e,_⟩:=x;exact Qy e
 | tbl ps=>exact Qy (show h.get? a=some _ from x)
 | met f y=>exact Qy (show h.get? a=some _ from x)
 | ext φ=>obtain⟨_,⟨_,e⟩,_⟩:=x;exact Qy e
theorem Paired.mapP {α β:Type}{F G:α->β->Prop}:∀ {l₁:List α} {l₂:List β},Paired F l₁ l₂->(∀a b,F a b->G a b)->Paired G l₁ l₂
 | _,_,.nil,_=>.nil
 | _,_,.cons r t,f=>.cons (f _ _ r) (Paired.mapP t f)
theorem ObjOk.stay (x:ObjOk P w H h a o)(k:∀b u,(b=a∨H b=some (.own a))->h.get? b=some u->h'.get? b=some u)
   (ho:∀b,H b=some (.own a)->H' b=some (.own a)) (ht:∀b xs,H b=some (.tup xs)->H' b=some (.tup xs)):ObjOk P w H' h' a o:=by
 induction o with
 | lst xs=>obtain⟨z,its,n,r,e⟩:=x;exact⟨z,its,n,r,k _ _ (.inl rfl) e⟩
 | tup xs=>obtain⟨z,its,r,ob,e,c⟩:=x;exact⟨z,its,r,ob,k _ _ (.inl rfl) e,c⟩
 | dK kvs=>obtain⟨z,y,vs,r,ob,es,ep,e,c⟩:=x;exact⟨z,y,vs,r,ob,es,ep,k _ _ (.inl rfl) e,c⟩
 | dT kvs =>
   obtain⟨z,y,xs,r,ob,es,ep,e,c⟩:=x
   exact⟨z,y,xs,Paired.mapP r fun p q z=>⟨z.1,ht _ _ z.2.1,z.2.2⟩,ob,es,ep,k _ _ (.inl rfl) e,c⟩
 | set S n=>obtain⟨ob,es,ep,t,e,c⟩:=x;exact⟨ob,es,ep,t,k _ _ (.inl rfl) e,c⟩
 | ins C dx fs =>
   obtain⟨d,z,ne,e,mA,⟨od,es,ep,e2,c⟩,r⟩:=x
   exact⟨ho _ d,z,ne,k _ _ (.inl rfl) e,mA,⟨od,es,ep,k _ _ (.inr d) e2,c⟩,r⟩
 | own y=>obtain⟨ob,e⟩:=x;exact⟨ob,k _ _ (.inl rfl) e⟩
 | xd fs=>obtain⟨mA,⟨od,es,ep,e,c⟩,r⟩:=x;exact⟨mA,⟨od,es,ep,k _ _ (.inl rfl) e,c⟩,r⟩
 | rng lo hi=>obtain⟨t,u,v,e⟩:=x;exact⟨t,u,v,k _ _ (.inl rfl) e⟩
 | frz ob u ih=>obtain⟨e,q⟩:=x;exact⟨k _ _ (.inl rfl) e,ih q⟩
 | tbl ps =>
   have e:h.get? a=some { cls:=.none,data:=.fields ps }:=x
   show h'.get? a=some { cls:=.none,data:=.fields ps }
   exact k a _ (.inl rfl) e
 | met f y =>
   have e:h.get? a=some (PySem.W.methodObj (.ref f) (.ref y)):=x
   show h'.get? a=some (PySem.W.methodObj (.ref f) (.ref y))
   exact k a _ (.inl rfl) e
 | ext φ=>obtain⟨p,⟨o,e⟩,st⟩:=x;exact⟨st _ _ p fun o q=>k _ _ (.inl rfl) q,⟨o,k _ _ (.inl rfl) e⟩,st⟩
theorem HOk.lt (x:HOk P w H h)(e:H a=some o):a < h.objs.size:=(x a o e).lt
theorem HOk.fresh (x:HOk P w H h)(e:h.objs.size<=a):H a=none:=by
 cases q:H a with
 | none=>rfl
 | some u=>exact absurd (Wu (x.lt q) e) (Wa _)
theorem HOk.kept (x:HOk P w H h)(k:∀b u,h.get? b=some u->h'.get? b=some u):HOk P w H h':=fun a o e =>
 (x a o e).stay (fun b u _ q=>k b u q) (fun _ q=>q) fun _ _ q=>q
theorem HOk.laid (x:HOk P w H h)(k:∀b u,h.get? b=some u->h'.get? b=some u)(hp:h.objs.size<=a)(new:ObjOk P w (upd H a o) h' a o):HOk P w (upd H a o) h':=fun b u e=>by
 have hn:=x.fresh hp
 by_cases hb:b=a
 · subst hb;rw[zN] at e;cases e;exact new
 · rw[yS hb] at e
   exact(x b u e).stay (fun c v _ q=>k c v q) (fun c q=>by rw[yS (yK q hn)];exact q) fun c xs q=>by rw[yS (yK q hn)];exact q
end
def Rd (H:Hp)(a:Addr)(u:HO):Prop:=H a=some u∨∃o,H a=some (.frz o u)
theorem Rd.of {H:Hp}{a:Addr}{u:HO}(h:H a=some u):Rd H a u:=.inl h
theorem Rd.ok {P:Program}{w:World}{H:Hp}{h:Heap}{a:Addr}{u:HO}(r:Rd H a u)(x:HOk P w H h):ObjOk P w H h a u:=by
 rcases r with r | ⟨o,r⟩
 · exact x a u r
 · obtain⟨_,q⟩:=x a _ r
   exact q
def Mut:Option HO->Prop
 | some (.lst _)=>True
 | some (.dK _)=>True
 | some (.dT _)=>True
 | some (.set _ _)=>True
 | some (.ins _ _ _)=>True
 | some (.ext _)=>True
 | _=>False
section
variable {P:Program} {w:World} {H:Hp} {h h':Heap} {x e:Addr} {o':HO}
theorem HOk.write (ok:HOk P w H h)(mu:Mut (H x))(he:e=x∨H e=some (.own x))(k:∀b u,b≠e->h.get? b=some u->h'.get? b=some u)(heo:∃u,h'.get? e=some u)
   (new:ObjOk P w (upd H x o') h' x o'):HOk P w (upd H x o') h':=fun b u q=>by
 have nown:∀c y,H c=some (.own y)->c≠x:=fun c y r z=>by subst z;rw[r] at mu;exact mu
 have ntup:∀c xs,H c=some (.tup xs)->c≠x:=fun c xs r z=>by subst z;rw[r] at mu;exact mu
 by_cases hb:b=x
 · subst hb;rw[zN] at q;cases q;exact new
 · rw[yS hb] at q
   by_cases hbe:b=e
   · have q':H b=some (.own x):=by
       rcases he with z | z
       · exact absurd (hbe.trans z) hb
       · rw[hbe];exact z
     rw[q] at q';cases q'
     obtain⟨v,hv⟩:=heo
     exact⟨v,by rw[hbe];exact hv⟩
   · refine(ok b u q).stay (fun c v hc r=>k c v ?_ r) (fun c r=>by rw[yS (nown c b r)];exact r) fun c xs r=>by rw[yS (ntup c xs r)];exact r
     rcases hc with rfl | hc
     · exact hbe
     · rintro rfl
       rcases he with z | z
       · exact nown c b hc z
       · rw[hc] at z;cases z;exact hb rfl
end
structure Un (fs ex:List Addr)(H H':Hp)(h h':Heap):Prop where
 keep:∀b o,h.get? b=some o->H b=none->b∉fs->b∉ex->h'.get? b=some o
 slot:∀b o,h.get? b=some o->H b=none->b∈fs->b∉ex->∃sl,h'.get? b=some { o with slots:=sl }
 free:∀b o,h.get? b=some o->H b=none->b∉ex->H' b=none
 there:∀b o,h.get? b=some o->b∉ex->∃o',h'.get? b=some o'
 tups:∀b xs,H b=some (.tup xs)->H' b=some (.tup xs)
 frzs:∀b o u,H b=some (.frz o u)->H' b=some (.frz o u)
 tbls:∀b ps,H b=some (.tbl ps)->∃more,H' b=some (.tbl (ps++more))
section
variable {fs ex:List Addr} {H H1 H2:Hp} {h h1 h2 h':Heap} {a x e:Addr} {o:HO}
theorem Un.any (u:Un fs ex H H1 h h1){b:Addr}{ob:Obj}(q:h.get? b=some ob)(n:H b=none)(hx:b∉ex):∃sl,h1.get? b=some { ob with slots:=sl }:=by
 by_cases hb:b∈fs
 · exact u.slot b ob q n hb hx
 · exact⟨ob.slots,u.keep b ob q n hb hx⟩
theorem Un.trans (a:Un fs ex H H1 h h1)(b:Un fs ex H1 H2 h1 h2):Un fs ex H H2 h h2 where
 keep:=fun c ob q n hc hx=>b.keep c ob (a.keep c ob q n hc hx) (a.free c ob q n hx) hc hx
 slot:=fun c ob q n hc hx=>by
   obtain⟨sl,e1⟩:=a.slot c ob q n hc hx
   obtain⟨sl',e2⟩:=b.slot c _ e1 (a.free c ob q n hx) hc hx
   exact⟨sl',e2⟩
 free:=fun c ob q n hx=>by
   obtain⟨o',e1⟩:=a.there c ob q hx
   exact b.free c o' e1 (a.free c ob q n hx) hx
 there:=fun c ob q hx=>by
   obtain⟨o',e1⟩:=a.there c ob q hx
   exact b.there c o' e1 hx
 tups:=fun c xs q=>b.tups c xs (a.tups c xs q)
 frzs:=fun c ob xs q=>b.frzs c ob xs (a.frzs c ob xs q)
 tbls:=fun c ps q=>by
   obtain⟨m1,e1⟩:=a.tbls c ps q
   obtain⟨m2,e2⟩:=b.tbls c _ e1
   exact⟨m1++m2,by rw[e2,Array.append_assoc]⟩
theorem Un.kept (k:∀b u,h.get? b=some u->h'.get? b=some u):Un fs ex H H h h' :=
 ⟨fun b ob q _ _ _=>k b ob q,fun b ob q _ _ _=>⟨ob.slots,k b ob q⟩,fun _ _ _ n _=>n,fun b ob q _=>⟨ob,k b ob q⟩,fun _ _ q=>q,fun _ _ _ q=>q,fun _ ps q=>⟨#[],by rw[q];simp⟩⟩
theorem Un.refl:Un fs ex H H h h:=Un.kept fun _ _ q=>q
theorem Un.laid (k:∀b u,h.get? b=some u->h'.get? b=some u)(hp:h.objs.size<=a)(hn:H a=none):Un fs ex H (upd H a o) h h' where
 keep:=fun b u q _ _ _=>k b u q
 slot:=fun b u q _ _ _=>⟨u.slots,k b u q⟩
 free:=fun b u q n _=>by rw[yS (Wy (Wu (Qy q) hp))];exact n
 there:=fun b u q _=>⟨u,k b u q⟩
 tups:=fun b xs q=>by rw[yS (yK q hn)];exact q
 frzs:=fun b u xs q=>by rw[yS (yK q hn)];exact q
 tbls:=fun b ps q=>⟨#[],by rw[yS (yK q hn),q];simp⟩
theorem Un.write (mu:Mut (H x))(he:e=x∨H e=some (.own x))(k:∀b u,b≠e->h.get? b=some u->h'.get? b=some u)(heo:∃u,h'.get? e=some u):Un fs ex H (upd H x o) h h':=by
 have hx:∀b,H b=none->b≠x:=fun b n z=>by subst z;rw[n] at mu;exact mu
 have hb:∀b,H b=none->b≠e:=fun b n z=>by
   subst z
   rcases he with r | r
   · exact hx b n r
   · rw[n] at r;cases r
 have hm:∀b u,H b=some u->¬Mut (some u)->b≠x:=fun b u q nm z=>by subst z;rw[q] at mu;exact nm mu
 refine⟨fun b u q n _ _=>k b u (hb b n) q,fun b u q n _ _=>⟨u.slots,k b u (hb b n) q⟩,fun b u q n _=>by rw[yS (hx b n)];exact n,fun b u q _=>?_,
   fun b xs q=>by rw[yS (hm b _ q fun z=>z)];exact q,fun b u xs q=>by rw[yS (hm b _ q fun z=>z)];exact q,fun b ps q=>⟨#[],by rw[yS (hm b _ q fun z=>z),q];simp⟩⟩
 by_cases hbe:b=e
 · subst hbe;exact heo
 · exact⟨u,k b u hbe q⟩
end
def trk (h:Heap)(H:Hp):List Addr:=(List.range h.objs.size).filter fun a=>(H a).isSome
def zXE (h:Heap)(H:Hp):Heap:=PySem.W.hideAll h (trk h H)
theorem zTj (h:Heap)(H:Hp):(zXE h H).objs.size=h.objs.size:=PySem.W.hideAll_size _ _
theorem zR5 {h:Heap}{H:Hp}{b:Addr}{o:Obj}(e:h.get? b=some o)(n:H b=none):(zXE h H).get? b=some o :=
 PySem.W.hideAll_get _ e fun hm=>by
   have q:(H b).isSome=true:=(List.mem_filter.mp hm).2
   rw[n] at q;simp at q
theorem zQD {h:Heap}{H:Hp}{b:Addr}{o:Obj}(e:(zXE h H).get? b=some o):h.get? b=some o/\H b=none:=by
 have e':h.get? b=some o:=PySem.W.of_hideAll (trk h H) e
 refine⟨e',?_⟩
 cases q:H b with
 | none=>rfl
 | some x =>
   have hm:b∈trk h H:=List.mem_filter.mpr ⟨Uj.mpr (Qy e'),by simp[q]⟩
   have z:(zXE h H).get? b=none:=PySem.W.hideAll_none (trk h H) hm
   rw[z] at e;cases e
def zQ4 (g h:Heap)(L:Addr):List (Addr×Obj):=(List.range h.objs.size).filterMap fun a=>if a=L∨(g.get? a).isSome=true then none else(h.get? a).map fun o=>(a,o)
def rest (g h:Heap)(L d:Addr):List (Addr×Obj):=(zQ4 g h L).filter fun p=>decide (p.1≠d)
structure Mod (K:PySem.W.Frag)(mg:Str->Option Value)(base:Heap):Prop where
 kin:K.In base
 glob:base.Ns mainGlobals mg
 blt:∃mb,base.Ns builtinsNs mb/\∀x:Str,x≠"__name__"->mb x=bootBuiltins x
 nolimit:base.NoLimit
/-- the context: a def's body (or a comprehension's block) running. base: fixed through the whole law; s₀, H₀: the entry; outer: the frames whose slots others may change (a def's callers); stack: all frames that run;
  ex: iterators that were made ahead of the entry and are walked here (a comprehension's);fn: the names whose cells were made at the entry (a def: all;a comprehension's block: its own);calm: not within an except suite;pn: pins that every state bears;xe: what is wanted of an exception that leaves the code -/
structure Cx where
 prog:Program
 w:World
 K:PySem.W.Frag
 mg:Str->Option Value
 base:Heap
 A:Around
 N:List Str
 s₀:Shared
 H₀:Hp
 env:Env
 outer:List Env
 stack:List Env
 ex:List Addr
 fn:Str->Bool
 calm:Bool
 pn:List (Addr×Obj)
 xe:Value->Shared->Prop
def frs (l:List Env):List Addr:=l.filterMap (·.frame)
abbrev Cx.fs (X:Cx):List Addr:=frs X.outer
def Vis (sc:Scope)(x:Str):Prop:=sc.names.lookup x=some .local∨sc.names.lookup x=some .cell∨sc.names.lookup x=some .free
def Loc (sc:Scope)(x:Str):Prop:=sc.names.lookup x=some .local∨sc.names.lookup x=some .cell
def zMW (env:Env)(h:Heap)(m:Str->Option Value)(x:Str)(u:Value):Prop :=
 (env.kindOf x=some .local/\m x=some u)∨((env.kindOf x=some .cell∨env.kindOf x=some .free)/\∃c,env.cells.lookup x=some c/\h.IsCell c (some u))
structure Cx.Ok (X:Cx):Prop where
 mod:Mod X.K X.mg X.base
 kind:X.env.scope.kind = .function
 glob:X.env.globals=mainGlobals
 blt:X.env.builtins=builtinsNs
 above:X.s₀.heap.objs.size<=X.env.locals
 inj:∀x y c,X.env.cells.lookup x=some c->X.env.cells.lookup y=some c->x=y
 has:∀x,(X.env.kindOf x=some .cell∨X.env.kindOf x=some .free)->∃c,X.env.cells.lookup x=some c
 cab:∀x c,X.fn x=true->X.env.cells.lookup x=some c->X.s₀.heap.objs.size<=c
 hd:X.calm=true->X.A.handled=none
 frames:X.A.frames=some X.stack
 stk:X.stack=X.outer∨(X.stack=X.env::X.outer/\X.env.frame=some X.env.locals)
 exf:∀b∈X.ex,b≠X.env.locals/\∀x c,X.env.cells.lookup x=some c->c≠b
 bs:∀b o,X.base.get? b=some o->X.s₀.heap.get? b=some o/\X.H₀ b=none
 bsz:X.base.objs.size<=X.s₀.heap.objs.size
 noex:∀b o,X.base.get? b=some o->b∉X.ex
 exfs:∀b∈X.ex,b∉X.fs
 funs:X.s₀.heap.FunFrames X.base X.outer
 frf:∀b∈X.fs,X.H₀ b=none
structure Inv (X:Cx)(pins:List (Addr×Obj))(σ:List (Option V))(H:Hp)(s:Shared):Prop where
 ok:X.Ok
 os:s.os=X.s₀.os
 bare:AllBare s.gens
 base:Un X.fs X.ex X.H₀ H X.s₀.heap s.heap
 loc:∃m,s.heap.Ns X.env.locals m/\∀(i:Nat) (x:Str) (v:V),X.N[i]?=some x->σ[i]?=some (some v)->Vis X.env.scope x->∃u,RelV v u/\zMW X.env s.heap m x u
 cell:∀x c,X.env.cells.lookup x=some c->∃v,s.heap.IsCell c v
 free:H X.env.locals=none
 freeC:∀x c,X.env.cells.lookup x=some c->H c=none
 pin:∀p∈X.pn++pins,s.heap.get? p.1=some p.2/\H p.1=none/\p.1≠X.env.locals/\p.1∉X.fs/\∀v,p.2.data ≠ .cell v
 hok:HOk X.prog X.w H s.heap
 len:σ.length=X.N.length
section
variable {X:Cx} {pins:List (Addr×Obj)} {σ:List (Option V)} {H H':Hp} {s:Shared} {h':Heap}
theorem Cx.Ok.nofr (ok:X.Ok){b:Addr}{o:Obj}(e:X.base.get? b=some o):b∉X.fs:=fun hb=>by
 have:=(ok.funs.mem hb).1
 rw[e] at this;cases this
theorem Inv.bs (I:Inv X pins σ H s):∀b o,X.base.get? b=some o->s.heap.get? b=some o/\H b=none:=fun b o e =>
 ⟨I.base.keep b o (I.ok.bs b o e).1 (I.ok.bs b o e).2 (I.ok.nofr e) (I.ok.noex b o e),I.base.free b o (I.ok.bs b o e).1 (I.ok.bs b o e).2 (I.ok.noex b o e)⟩
theorem Inv.bk (I:Inv X pins σ H s):∀b o,X.base.get? b=some o->s.heap.get? b=some o:=fun b o e=>(I.bs b o e).1
theorem Inv.mod (I:Inv X pins σ H s):Mod X.K X.mg X.base:=I.ok.mod
theorem Inv.kIn (I:Inv X pins σ H s):X.K.In s.heap:=I.ok.mod.kin.keeps I.bk
theorem Inv.lt (I:Inv X pins σ H s):X.env.locals < s.heap.objs.size:=let ⟨_,hn,_⟩:=I.loc;hn.lt
theorem Inv.sz (I:Inv X pins σ H s):X.s₀.heap.objs.size<=s.heap.objs.size:=Wv I.ok.above (Ws I.lt)
theorem Inv.nofs (I:Inv X pins σ H s){a:Addr}(h:s.heap.objs.size<=a):a∉X.fs:=fun hb=>by
 obtain⟨_,o,ho,_⟩:=I.ok.funs.mem hb
 exact absurd (Wu (Qy ho) (Wv I.sz h)) (Wa _)
theorem Inv.cne (I:Inv X pins σ H s):∀x c,X.env.cells.lookup x=some c->c≠X.env.locals:=fun x c e z=>by
 obtain⟨v,o,ho,hd⟩:=I.cell x c e
 obtain⟨m,⟨o',es,ep,ho',hd',_⟩,_⟩:=I.loc
 rw[z,ho'] at ho;cases ho;rw[hd'] at hd;cases hd
theorem Inv.funs (I:Inv X pins σ H s):s.heap.FunFrames X.base X.outer:=by
 have all:∀(l:List Env),(∀b∈frs l,b∈X.fs)->X.s₀.heap.FunFrames X.base l->s.heap.FunFrames X.base l:=by
   intro l
   induction l with
   | nil=>intro _ _;trivial
   | cons env r ih =>
     intro hs hl
     obtain⟨hk,⟨L,o,hf,hn,ho,hd⟩,hr⟩:=hl
     have hL:L∈X.fs:=hs L (by unfold frs;rw[Tg,hf];exact Qc)
     obtain⟨sl,e⟩:=I.base.slot L o ho (I.ok.frf L hL) hL fun z=>I.ok.exfs L z hL
     exact⟨hk,⟨L,_,hf,hn,e,hd⟩,ih (fun b hb=>hs b (by unfold frs;rw[Tg,hf];exact Qi _ hb)) hr⟩
 exact all X.outer (fun _ hb=>hb) I.ok.funs
theorem Inv.stack (I:Inv X pins σ H s):s.heap.FunFrames X.base X.stack:=by
 rcases I.ok.stk with e | ⟨e,hf⟩
 · rw[e];exact I.funs
 · rw[e]
   obtain⟨m,hn,_⟩:=I.loc
   refine .cons (by rw[I.ok.kind];decide) hf hn ?_ I.funs
   exact Heap.get?_none_of_le (Wv I.ok.bsz I.ok.above)
theorem Inv.stkSub (I:Inv X pins σ H s):∀b∈frs X.stack,b∈X.env.locals::X.fs:=fun b hb=>by
 rcases I.ok.stk with e | ⟨e,hf⟩
 · rw[e] at hb;exact Qi _ hb
 · rw[e] at hb
   unfold frs at hb
   rw[Tg,hf] at hb
   exact hb
theorem Inv.stkFree (I:Inv X pins σ H s):∀b∈frs X.stack,H b=none:=fun b hb=>by
 rcases Qf.mp (I.stkSub b hb) with e | hb
 · rw[e];exact I.free
 · obtain⟨_,o,ho,_⟩:=I.ok.funs.mem hb
   exact I.base.free b o ho (I.ok.frf b hb) fun z=>I.ok.exfs b z hb
theorem Inv.step {g':Array GenState}{t':Nat}{d':Drawn}{ch:List Addr}(I:Inv X pins σ H s)
   (hch:∀b∈ch,(b∈X.ex∨X.s₀.heap.objs.size<=b)/\b≠X.env.locals/\(∀x c,X.env.cells.lookup x=some c->c≠b)/\∀p∈X.pn++pins,p.1≠b)
   (keep:∀b o,b≠X.env.locals->b∉X.fs->b∉ch->s.heap.get? b=some o->H b=none->h'.get? b=some o)
   (slot:∀b o,b≠X.env.locals->b∈X.fs->b∉ch->s.heap.get? b=some o->H b=none->∃sl,h'.get? b=some { o with slots:=sl }) (free:∀b o,b∉ch->s.heap.get? b=some o->H b=none->H' b=none)
   (there:∀b o,b∉ch->s.heap.get? b=some o->∃o',h'.get? b=some o')
   (tups:∀b xs,H b=some (.tup xs)->H' b=some (.tup xs)) (frzs:∀b o u,H b=some (.frz o u)->H' b=some (.frz o u)) (tbls:∀b ps,H b=some (.tbl ps)->∃more,H' b=some (.tbl (ps++more)))
   (ns:∀m,s.heap.Ns X.env.locals m->h'.Ns X.env.locals m) (hok:HOk X.prog X.w H' h') (hg:AllBare g') :
   Inv X pins σ H' { s with heap:=h',gens:=g',drawn:=d',toks:=t' }:=by
 have neL:∀b o,X.s₀.heap.get? b=some o->b≠X.env.locals:=fun b o e=>Wy (Wu (Qy e) I.ok.above)
 have neC:∀b o,X.s₀.heap.get? b=some o->b∉X.ex->b∉ch:=fun b o e hx hb=>by
   rcases(hch b hb).1 with z | z
   · exact hx z
   · exact absurd (Wu (Qy e) z) (Wa _)
 have cellK:∀x c,X.env.cells.lookup x=some c->∀v,s.heap.IsCell c v->h'.IsCell c v:=fun x c e v ⟨o,ho,hd⟩=>by
   have nch:c∉ch:=fun z=>(hch c z).2.2.1 x c e rfl
   by_cases hc:c∈X.fs
   · obtain⟨sl,q⟩:=slot c o (I.cne x c e) hc nch ho (I.freeC x c e)
     exact⟨_,q,hd⟩
   · exact⟨o,keep c o (I.cne x c e) hc nch ho (I.freeC x c e),hd⟩
 refine⟨I.ok,I.os,hg,⟨fun b o e n hb hx=>?_,fun b o e n hb hx=>?_,fun b o e n hx=>?_,fun b o e hx=>?_,fun b xs e=>tups b xs (I.base.tups b xs e),fun b o xs e=>frzs b o xs (I.base.frzs b o xs e),fun b ps e=>?_⟩,?_,fun x c e=>?_,?_,fun x c e=>?_,fun p hp=>?_,hok,I.len⟩
 · exact keep b o (neL b o e) hb (neC b o e hx) (I.base.keep b o e n hb hx) (I.base.free b o e n hx)
 · obtain⟨sl,e1⟩:=I.base.slot b o e n hb hx
   obtain⟨sl',e2⟩:=slot b _ (neL b o e) hb (neC b o e hx) e1 (I.base.free b o e n hx)
   exact⟨sl',e2⟩
 · obtain⟨o',e1⟩:=I.base.there b o e hx
   exact free b o' (neC b o e hx) e1 (I.base.free b o e n hx)
 · obtain⟨o',e1⟩:=I.base.there b o e hx
   exact there b o' (neC b o e hx) e1
 · obtain⟨m1,e1⟩:=I.base.tbls b ps e
   obtain⟨m2,e2⟩:=tbls b _ e1
   exact⟨m1++m2,by rw[e2,Array.append_assoc]⟩
 · obtain⟨m,hn,hl⟩:=I.loc
   refine⟨m,ns m hn,fun i x v e1 e2 e3=>?_⟩
   obtain⟨u,r,l⟩:=hl i x v e1 e2 e3
   refine⟨u,r,?_⟩
   rcases l with l | ⟨k,c,e,z⟩
   · exact .inl l
   · exact .inr ⟨k,c,e,cellK x c e _ z⟩
 · obtain⟨v,z⟩:=I.cell x c e
   exact⟨v,cellK x c e v z⟩
 · obtain⟨m,⟨o,_,_,ho,_⟩,_⟩:=I.loc
   exact free _ o (fun z=>(hch _ z).2.1 rfl) ho I.free
 · obtain⟨v,o,ho,hd⟩:=I.cell x c e
   exact free c o (fun z=>(hch c z).2.2.1 x c e rfl) ho (I.freeC x c e)
 · obtain⟨e,n,ne,nf,d⟩:=I.pin p hp
   have nch:p.1∉ch:=fun z=>(hch p.1 z).2.2.2 p hp rfl
   exact⟨keep p.1 p.2 ne nf nch e n,free p.1 p.2 nch e n,ne,nf,d⟩
theorem Inv.un {t':Nat}(I:Inv X pins σ H s)(u:Un X.fs [] H H' s.heap h')(hok:HOk X.prog X.w H' h'):Inv X pins σ H' { s with heap:=h',toks:=t' }:=by
 obtain⟨m,⟨o,es,ep,ho,r⟩,_⟩:=id I.loc
 obtain⟨sl,hL⟩:=u.any ho I.free (by simp)
 exact I.step (g':=s.gens) (d':=s.drawn) (ch:=[]) (fun _ z=>nomatch z) (fun b o _ hb _ e n=>u.keep b o e n hb (by simp)) (fun b o _ hb _ e n=>u.slot b o e n hb (by simp)) (fun b o _ e n=>u.free b o e n (by simp)) (fun b o _ e=>u.there b o e (by simp)) u.tups u.frzs u.tbls (fun m' hm=>by
   obtain⟨o',es',ep',ho',r'⟩:=hm
   rw[ho] at ho';cases ho'
   exact⟨_,es',ep',hL,r'⟩) hok I.bare
theorem Inv.call {g':Array GenState}{t':Nat}{d':Drawn}{ch:List Addr}(I:Inv X pins σ H s)(u:Un (frs X.stack) ch H H' s.heap h')(hok:HOk X.prog X.w H' h')(hg:AllBare g')
   (hch:∀b∈ch,(b∈X.ex∨X.s₀.heap.objs.size<=b)/\b≠X.env.locals/\(∀x c,X.env.cells.lookup x=some c->c≠b)/\∀p∈X.pn++pins,p.1≠b) :
   Inv X pins σ H' { s with heap:=h',gens:=g',drawn:=d',toks:=t' }:=by
 obtain⟨m,⟨o,es,ep,ho,r⟩,_⟩:=id I.loc
 obtain⟨sl,hL⟩:=u.any ho I.free fun z=>(hch _ z).2.1 rfl
 exact I.step (ch:=ch) hch (fun b o hL hb hc e n=>u.keep b o e n (fun z=>(Qf.mp (I.stkSub b z)).elim hL hb) hc) (fun b o _ _ hc e n=>u.any e n hc) (fun b o hc e n=>u.free b o e n hc) (fun b o hc e=>u.there b o e hc) u.tups u.frzs u.tbls (fun m' hm=>by
   obtain⟨o',es',ep',ho',r'⟩:=hm
   rw[ho] at ho';cases ho'
   exact⟨_,es',ep',hL,r'⟩) hok hg
theorem Inv.turned {t':Nat}{it:Addr}(I:Inv X pins σ H s)(k:∀b o,b≠it->s.heap.get? b=some o->h'.get? b=some o)(hn:H it=none)(hL:it≠X.env.locals)
   (h1:it∈X.ex∨X.s₀.heap.objs.size<=it) (h2:∀x c,X.env.cells.lookup x=some c->c≠it) (h3:∀p∈X.pn++pins,p.1≠it):Inv X pins σ H { s with heap:=h',toks:=t' }:=by
 have nit:∀b u,H b=some u->b≠it:=fun b u e z=>by rw[z,hn] at e;cases e
 refine I.step (g':=s.gens) (d':=s.drawn) (ch:=[it]) (fun b hb=>?_) (fun b o _ _ hc e _=>k b o (fun z=>hc (by simp[z])) e) (fun b o _ _ hc e _=>⟨o.slots,k b o (fun z=>hc (by simp[z])) e⟩) (fun _ _ _ _ n=>n)
   (fun b o hc e=>⟨o,k b o (fun z=>hc (by simp[z])) e⟩) (fun _ _ e=>e) (fun _ _ _ e=>e) (fun b ps e=>⟨#[],by rw[e];simp⟩) (fun m hm=>?_) (fun b u e=>?_) I.bare
 · have e:b=it:=by simpa using hb
   subst e
   exact⟨h1,hL,h2,h3⟩
 · obtain⟨o,es,ep,ho,r⟩:=hm
   exact⟨o,es,ep,k _ o (Ne.symm hL) ho,r⟩
 · refine(I.hok b u e).stay (fun c v hc q=>k c v ?_ q) (fun _ q=>q) fun _ _ q=>q
   rcases hc with z | z
   · rw[z];exact nit b u e
   · exact nit c _ z
theorem Inv.tok (I:Inv X pins σ H s)(t:Nat):Inv X pins σ H { s with toks:=t }:=I.un (h':=s.heap) (t':=t) Un.refl I.hok
theorem Inv.kept {t':Nat}(I:Inv X pins σ H s)(k:∀b u,s.heap.get? b=some u->h'.get? b=some u):Inv X pins σ H { s with heap:=h',toks:=t' }:=I.un (Un.kept k) (I.hok.kept k)
theorem Inv.laid {a:Addr}{o:HO}{t':Nat}(I:Inv X pins σ H s)(k:∀b u,s.heap.get? b=some u->h'.get? b=some u)(hp:s.heap.objs.size<=a)(new:ObjOk X.prog X.w (upd H a o) h' a o) :
   Inv X pins σ (upd H a o) { s with heap:=h',toks:=t' }:=I.un (Un.laid k hp (I.hok.fresh hp)) (I.hok.laid k hp new)
theorem Inv.write {x e:Addr}{o:HO}{t':Nat}(I:Inv X pins σ H s)(mu:Mut (H x))(he:e=x∨H e=some (.own x))(k:∀b u,b≠e->s.heap.get? b=some u->h'.get? b=some u)(heo:∃u,h'.get? e=some u)
   (new:ObjOk X.prog X.w (upd H x o) h' x o):Inv X pins σ (upd H x o) { s with heap:=h',toks:=t' }:=I.un (Un.write mu he k heo) (I.hok.write mu he k heo new)
theorem Inv.pins_of {pins':List (Addr×Obj)}(I:Inv X pins σ H s)(h:∀p∈pins',s.heap.get? p.1=some p.2/\H p.1=none/\p.1≠X.env.locals/\p.1∉X.fs/\∀v,p.2.data ≠ .cell v):Inv X pins' σ H s :=
 ⟨I.ok,I.os,I.bare,I.base,I.loc,I.cell,I.free,I.freeC,fun p hp=>(El.mp hp).elim (fun z=>I.pin p (List.mem_append_left _ z)) (h p),I.hok,I.len⟩
theorem zXf {N:List Str}(hN:N.Nodup){i j:Nat}{x:Str}(a:N[i]?=some x)(b:N[j]?=some x):i=j:=by
 obtain⟨h1,e1⟩:=Qj.mp a
 obtain⟨h2,e2⟩:=Qj.mp b
 exact(List.getElem_inj hN).mp (e1.trans e2.symm)
theorem eZ {M:Model}{A:Around}{E:Value->Shared->Prop}{i:Nat}{x:Str}{v:V}{u:Value}{Q:Unit->Shared->Prop}(I:Inv X pins σ H s)(hN:X.N.Nodup)(hi:X.N[i]?=some x)(hx:Loc X.env.scope x)(r:RelV v u)
   (h:∀s',Inv X pins (σ.set i (some v)) H s'->(∃a,Heap.SameBut a s.heap s'.heap/\(a=X.env.locals∨X.env.cells.lookup x=some a))->Q () s') (hf:X.fn x=true∨X.env.scope.names.lookup x=some .local:=by first | exact .inl rfl | exact .inr rfl | assumption):wpAny M A (storeName X.env x u) Q E s:=by
 obtain⟨m,hn,hl⟩:=id I.loc
 have hcls:(X.env.scope.kind == .class||(X.env.scope.kind == .module&&X.env.locals != X.env.globals))=false:=by rw[I.ok.kind];rfl
 have hiσ:i < σ.length:=by rw[I.len];exact(Qj.mp hi).1
 have cne:=I.cne
 have tracked:∀ {a:Addr} {h':Heap},(∃o,s.heap.get? a=some o/\H a=none)->Heap.SameBut a s.heap h'->HOk X.prog X.w H h':=fun {a h'} ha hs b ob e=>by
   obtain⟨_,_,hfree⟩:=ha
   refine(I.hok b ob e).stay (fun c w' hc q=>(hs.2 c ?_).trans q) (fun _ q=>q) fun _ _ q=>q
   rintro rfl
   rcases hc with rfl | hc
   · rw[hfree] at e;cases e
   · rw[hfree] at hc;cases hc
 rcases hx with hk | hk
 · refine wpAny_storeName_local hk hn (fun h' hn' hs=>?_) hcls
   obtain⟨oL,_,_,hoL,_⟩:=id hn
   refine h _ ⟨I.ok,I.os,I.bare,⟨fun b o e n hb hx=>?_,fun b o e n hb hx=>?_,I.base.free,fun b o e hx=>?_,I.base.tups,I.base.frzs,I.base.tbls⟩,⟨_,hn',fun j y v' e1 e2 e3=>?_⟩,fun y c e=>?_,I.free,I.freeC,fun p hp=>?_,tracked ⟨oL,hoL,I.free⟩ hs,by simpa using I.len⟩ ⟨_,hs,.inl rfl⟩
   · exact(hs.2 b (Wy (Wu (Qy e) I.ok.above))).trans (I.base.keep b o e n hb hx)
   · obtain⟨sl,e1⟩:=I.base.slot b o e n hb hx
     exact⟨sl,(hs.2 b (Wy (Wu (Qy e) I.ok.above))).trans e1⟩
   · obtain⟨o',e1⟩:=I.base.there b o e hx
     exact⟨o',(hs.2 b (Wy (Wu (Qy e) I.ok.above))).trans e1⟩
   · by_cases hj:j=i
     · subst hj
       rw[hi] at e1;cases e1
       rw[Es hiσ] at e2
       cases e2
       exact⟨u,r,.inl ⟨hk,by simp⟩⟩
     · rw[Wi (Ne.symm hj)] at e2
       obtain⟨u',r',q⟩:=hl j y v' e1 e2 e3
       refine⟨u',r',?_⟩
       rcases q with⟨k,e⟩ | ⟨k,c,e,z⟩
       · refine .inl ⟨k,?_⟩
         have:y≠x:=fun e=>hj (zXf hN e1 (e ▸ hi))
         simp[this,e]
       · exact .inr ⟨k,c,e,z.sameBut hs (cne y c e)⟩
   · obtain⟨w',z⟩:=I.cell y c e
     exact⟨w',z.sameBut hs (cne y c e)⟩
   · obtain⟨e,n,ne,nf,d⟩:=I.pin p hp
     exact⟨(hs.2 p.1 ne).trans e,n,ne,nf,d⟩
 · have hfn:X.fn x=true:=by
     rcases hf with z | z
     · exact z
     · rw[z] at hk;cases hk
   obtain⟨c,hc⟩:=I.ok.has x (.inl hk)
   obtain⟨w',z⟩:=I.cell x c hc
   refine wpAny_storeName_cell I.ok.kind hk hc z (fun h' hc' hs=>?_)
   obtain⟨oc,hoc,hocd⟩:=id z
   refine h { s with heap:=h' } ⟨I.ok,I.os,I.bare,⟨fun b o e n hb hx=>?_,fun b o e n hb hx=>?_,I.base.free,fun b o e hx=>?_,I.base.tups,I.base.frzs,I.base.tbls⟩,⟨m,hn.sameBut hs (Ne.symm (cne x c hc)),fun j y v' e1 e2 e3=>?_⟩,fun y c' e=>?_,I.free,I.freeC,fun p hp=>?_,tracked ⟨oc,hoc,I.freeC x c hc⟩ hs,by simpa using I.len⟩ ⟨c,hs,.inr hc⟩
   · exact(hs.2 b (Wy (Wu (Qy e) (I.ok.cab x c hfn hc)))).trans (I.base.keep b o e n hb hx)
   · obtain⟨sl,e1⟩:=I.base.slot b o e n hb hx
     exact⟨sl,(hs.2 b (Wy (Wu (Qy e) (I.ok.cab x c hfn hc)))).trans e1⟩
   · obtain⟨o',e1⟩:=I.base.there b o e hx
     exact⟨o',(hs.2 b (Wy (Wu (Qy e) (I.ok.cab x c hfn hc)))).trans e1⟩
   · by_cases hj:j=i
     · subst hj
       rw[hi] at e1;cases e1
       rw[Es hiσ] at e2
       cases e2
       exact⟨u,r,.inr ⟨.inl hk,c,hc,hc'⟩⟩
     · rw[Wi (Ne.symm hj)] at e2
       obtain⟨u',r',q⟩:=hl j y v' e1 e2 e3
       refine⟨u',r',?_⟩
       rcases q with q | ⟨k,c',e,z'⟩
       · exact .inl q
       · refine .inr ⟨k,c',e,z'.sameBut hs ?_⟩
         rintro rfl
         exact hj (zXf hN e1 (I.ok.inj _ _ _ e hc ▸ hi))
   · by_cases hcc:c'=c
     · subst hcc;exact⟨_,hc'⟩
     · obtain⟨w2,z2⟩:=I.cell y c' e
       exact⟨w2,z2.sameBut hs hcc⟩
   · obtain⟨e,n,ne,nf,d⟩:=I.pin p hp
     refine⟨(hs.2 p.1 ?_).trans e,n,ne,nf,d⟩
     intro q
     rw[q,hoc] at e
     have q':oc=p.2:=Wo e
     exact d w' (by rw[←q'];exact hocd)
theorem lL {M:Model}{A:Around}{E:Value->Shared->Prop}{i:Nat}{x:Str}{v:V}{u:Value}{Q:Unit->Shared->Prop}(I:Inv X pins σ H s)(hN:X.N.Nodup)(hi:X.N[i]?=some x)(hx:Loc X.env.scope x)(r:RelV v u)
   (h:∀s',Inv X pins (σ.set i (some v)) H s'->Q () s') (hf:X.fn x=true∨X.env.scope.names.lookup x=some .local:=by first | exact .inl rfl | exact .inr rfl | assumption):wpAny M A (storeName X.env x u) Q E s :=
 eZ I hN hi hx r (fun s' I' _=>h s' I') hf
theorem Inv.call' {s':Shared}{ch:List Addr}(I:Inv X pins σ H s)(ho:s'.os=s.os)(u:Un (frs X.stack) ch H H' s.heap s'.heap)(hok:HOk X.prog X.w H' s'.heap)(hg:AllBare s'.gens)
   (hch:∀b∈ch,(b∈X.ex∨X.s₀.heap.objs.size<=b)/\b≠X.env.locals/\(∀x c,X.env.cells.lookup x=some c->c≠b)/\∀p∈X.pn++pins,p.1≠b):Inv X pins σ H' s':=by
 obtain⟨h',g',d',t',o'⟩:=s'
 have e:o'=s.os:=ho
 subst e
 exact I.call (g':=g') (t':=t') (d':=d') u hok hg hch
end
abbrev XK:=Value->Option Addr->Hp->Prop
abbrev St:=List (Option V)
abbrev VK:=V->Hp->Prop
abbrev TE:=St->Hp->VK->Prop
abbrev TT:=St->Hp->(Bool->Hp->Prop)->Prop
abbrev TA:=St->Hp->(List V->Hp->Prop)->Prop
structure Ends where
 nx:St->Hp->Prop
 rt:VK
 bk:St->Hp->Prop:=fun _ _=>False
 ct:St->Hp->Prop:=fun _ _=>False
abbrev TS:=Ends->St->Hp->Prop
def EP (X:Cx)(pins:List (Addr×Obj))(σ:St)(Q:VK)(u:Value)(s':Shared):Prop:=∃v H',Inv X pins σ H' s'/\RelV v u/\Q v H'
def TP (X:Cx)(pins:List (Addr×Obj))(σ:St)(Q:Bool->Hp->Prop)(b:Bool)(s':Shared):Prop:=∃H',Inv X pins σ H' s'/\Q b H'
def AP (X:Cx)(pins:List (Addr×Obj))(σ:St)(Q:List V->Hp->Prop)(us:List Value)(s':Shared):Prop:=∃vs H',Inv X pins σ H' s'/\Vals vs us/\Q vs H'
def SP (X:Cx)(pins:List (Addr×Obj))(D:Ends)(f:Flow)(s':Shared):Prop :=
 match f with
 | .next=>∃σ' H',Inv X pins σ' H' s'/\D.nx σ' H'
 | .brk=>∃σ' H',Inv X pins σ' H' s'/\D.bk σ' H'
 | .cont=>∃σ' H',Inv X pins σ' H' s'/\D.ct σ' H'
 | .ret u=>∃v σ' H',Inv X pins σ' H' s'/\RelV v u/\D.rt v H'
def PE (X:Cx)(e:Expr)(t:TE):Prop :=
 ∀(pins:List (Addr×Obj)) (s:Shared) (σ:St) (H:Hp) (Q:VK),Inv X pins σ H s->t σ H Q->wpAny (model X.prog X.w) X.A (eval e X.env) (EP X pins σ Q) X.xe s
def PT (X:Cx)(e:Expr)(t:TT):Prop :=
 ∀(pins:List (Addr×Obj)) (s:Shared) (σ:St) (H:Hp) (Q:Bool->Hp->Prop),Inv X pins σ H s->t σ H Q->wpAny (model X.prog X.w) X.A (isTrue e X.env (eval e X.env)) (TP X pins σ Q) X.xe s
def PW (X:Cx)(e:Expr)(t:TT):Prop :=
 ∀(whole:Sem Value) (pins:List (Addr×Obj)) (s:Shared) (σ:St) (H:Hp) (Q:Bool->Hp->Prop),Inv X pins σ H s->t σ H Q->wpAny (model X.prog X.w) X.A (isTrue e X.env whole) (TP X pins σ Q) X.xe s
theorem PW.pt {X:Cx}{e:Expr}{t:TT}(h:PW X e t):PT X e t:=h _
def PA (X:Cx)(es:List Expr)(t:TA):Prop :=
 ∀(pos:Pos) (pins:List (Addr×Obj)) (s:Shared) (σ:St) (H:Hp) (Q:List V->Hp->Prop),Inv X pins σ H s->t σ H Q->wpAny (model X.prog X.w) X.A (spliced (backTo pos (starEach es X.env))) (AP X pins σ Q) X.xe s
def PS (X:Cx)(st:Stmt)(t:TS):Prop :=
 ∀(pins:List (Addr×Obj)) (s:Shared) (σ:St) (H:Hp) (D:Ends),Inv X pins σ H s->t D σ H->wpAny (model X.prog X.w) X.A (exec st X.env) (SP X pins D) X.xe s
def PSs (X:Cx)(st:List Stmt)(t:TS):Prop :=
 ∀(pins:List (Addr×Obj)) (s:Shared) (σ:St) (H:Hp) (D:Ends),Inv X pins σ H s->t D σ H->wpAny (model X.prog X.w) X.A (execs st X.env) (SP X pins D) X.xe s
theorem thn {α:Type}{t:Sem α}{Q Q':α->Shared->Prop}{M:Model}{A:Around}{E:Value->Shared->Prop}{s:Shared}(h:wpAny M A t Q E s)(hQ:∀a s,Q a s->Q' a s):wpAny M A t Q' E s:=Eu h hQ fun _ _ x=>x
section
variable {X:Cx}
def zPR (i:Nat):TE:=fun σ H Q=>∃v,σ[i]?=some (some v)/\Q v H
def tC (v:V):TE:=fun _ H Q=>Q v H
theorem nX {i:Nat}{x:Str}{pos:Pos}(hN:X.N[i]?=some x)(hv:Vis X.env.scope x)(hd:(x==("__debug__":Str))=false:=by decide)(hcd:(x==("__classdict__":Str))=false:=by decide):PE X (.Name x pos) (zPR i):=by
 intro pins s σ H Q I h
 obtain⟨v,e,h⟩:=h
 obtain⟨m,hn,hl⟩:=I.loc
 obtain⟨u,r,l⟩:=hl i x v hN e hv
 have fin:EP X pins σ Q u s:=⟨v,H,I,r,h⟩
 rcases l with⟨hk,hm⟩ | ⟨hk,c,hc,hcell⟩
 · exact wpAny_Name (wpAny_loadName_local I.ok.kind hk hn hm fin) hd
 · rcases hk with hk | hk
   · exact wpAny_Name (wpAny_loadName_cell I.ok.kind hk hc hcell fin) hd
   · exact wpAny_Name (wpAny_loadName_free I.ok.kind hk hc hcell fin hcd) hd
theorem zPh {i j pos}:PE X (.Constant (.int i) j pos) (tC (.int i)):=fun _ _ _ H _ I h=>wpAny_Constant_int ⟨.int i,H,I.tok _,⟨_,rfl⟩,h⟩
theorem zNH {b j pos}:PE X (.Constant (.bool b) j pos) (tC (.bl b)):=fun _ _ _ H _ I h=>Constant_bool ⟨.bl b,H,I,rfl,h⟩
theorem zPw {j pos}:PE X (.Constant .none j pos) (tC .non):=fun _ _ _ H _ I h=>Constant_none ⟨.non,H,I,rfl,h⟩
theorem zOj {x j pos}:PE X (.Constant (.str x) j pos) (tC (.str x)):=fun _ _ _ H _ I h=>Yk ⟨.str x,H,I.tok _,⟨_,rfl⟩,h⟩
def Gl (X:Cx)(x:Str):Prop:=X.env.kindOf x=some .globalImplicit
theorem kH {E:Value->Shared->Prop}{pins:List (Addr×Obj)}{s:Shared}{σ:St}{H:Hp}{x:Str}{u:Value}{pos:Pos}{Q:Value->Shared->Prop}(I:Inv X pins σ H s)(hg:Gl X x)(hm:X.mg x=some u)(h:Q u s)
   (hd:(x==("__debug__":Str))=false:=by decide):wpAny (model X.prog X.w) X.A (eval (.Name x pos) X.env) Q E s :=
 Ib I.ok.kind hg (Calls.loadGlobal_global (by rw[I.ok.glob];exact I.mod.glob.keeps I.bk) hm h) hd
theorem mD {E:Value->Shared->Prop}{pins:List (Addr×Obj)}{s:Shared}{σ:St}{H:Hp}{x:Str}{u:Value}{pos:Pos}{Q:Value->Shared->Prop}(I:Inv X pins σ H s)(hg:Gl X x)(hm:X.mg x=none)(hv:bootBuiltins x=some u)(h:Q u s)
   (hn:x≠"__name__":=by decide) (hd:(x==("__debug__":Str))=false:=by decide):wpAny (model X.prog X.w) X.A (eval (.Name x pos) X.env) Q E s:=by
 obtain⟨mb,h1,h2⟩:=I.mod.blt
 exact Ib I.ok.kind hg (Calls.loadGlobal_builtin (by rw[I.ok.glob];exact I.mod.glob.keeps I.bk) hm (by rw[I.ok.blt];exact h1.keeps I.bk) ((h2 x hn).trans hv) h) hd
theorem mK {x:Str}{v:V}{u:Value}{pos:Pos}(hg:Gl X x)(hm:X.mg x=some u)(r:RelV v u)(hd:(x==("__debug__":Str))=false:=by decide):PE X (.Name x pos) (tC v) :=
 fun _ _ _ H _ I h=>kH I hg hm ⟨v,H,I,r,h⟩ hd
theorem zUt {x:Str}{v:V}{u:Value}{pos:Pos}(hg:Gl X x)(hm:X.mg x=none)(hv:bootBuiltins x=some u)(r:RelV v u)(hn:x≠"__name__":=by decide)(hd:(x==("__debug__":Str))=false:=by decide):PE X (.Name x pos) (tC v) :=
 fun _ _ _ H _ I h=>mD I hg hm hv ⟨v,H,I,r,h⟩ hn hd
variable {a b:Expr} {ta tb:TE} {pos:Pos}
def tB (t:TE):TT:=fun σ H Q=>t σ H fun x H1=>∃c,x = .bl c/\Q c H1
theorem zOl {e:Expr}{t:TE}(h:PE X e t)(he:∀whole,isTrue e X.env whole=(do let v ←whole;standAt e.pos;holding [v] (truthy v)):=by intro _;rfl):PT X e (tB t):=by
 intro pins s σ H Q I hw
 refine isTrue_plain (thn (h pins s σ H _ I hw) fun v s1 ⟨x,H1,I1,r1,q1⟩=>?_) (he _)
 obtain⟨d,rfl,q⟩:=q1
 cases r1
 exact Tw ⟨H1,I1,q⟩
variable {tA tB':TT} {rest:List Expr}
def zM8 (t u:TT):TT:=fun σ H Q=>t σ H fun c H1=>if c=true then u σ H1 Q else Q false H1
def tOr (t u:TT):TT:=fun σ H Q=>t σ H fun c H1=>if c=true then Q true H1 else u σ H1 Q
def zMX (t:TT):TT:=fun σ H Q=>t σ H fun c H1=>Q (!c) H1
theorem zQ5 (ha:PT X a tA):PW X (.BoolOp .And [a] pos) tA:=by
 intro wh pins s σ H Q I h
 refine isTrue_and (thn (ha pins s σ H Q I h) fun c s1 e=>?_)
 cases c with
 | true=>exact isTrue_and_nil e
 | false=>exact e
theorem zOo (ha:PT X a tA):PW X (.BoolOp .Or [a] pos) tA:=by
 intro wh pins s σ H Q I h
 refine isTrue_or (thn (ha pins s σ H Q I h) fun c s1 e=>?_)
 cases c with
 | false=>exact isTrue_or_nil e
 | true=>exact e
theorem zOV (ha:PT X a tA)(hb:PW X (.BoolOp .And (b::rest) pos) tB'):PW X (.BoolOp .And (a::b::rest) pos) (zM8 tA tB'):=by
 intro wh pins s σ H Q I h
 refine isTrue_and (thn (ha pins s σ H _ I h) fun c s1 ⟨H1,I1,q1⟩=>?_)
 cases c with
 | true=>exact hb wh pins s1 σ H1 Q I1 q1
 | false=>exact⟨H1,I1,q1⟩
theorem zNf (ha:PT X a tA)(hb:PW X (.BoolOp .Or (b::rest) pos) tB'):PW X (.BoolOp .Or (a::b::rest) pos) (tOr tA tB'):=by
 intro wh pins s σ H Q I h
 refine isTrue_or (thn (ha pins s σ H _ I h) fun c s1 ⟨H1,I1,q1⟩=>?_)
 cases c with
 | true=>exact⟨H1,I1,q1⟩
 | false=>exact hb wh pins s1 σ H1 Q I1 q1
theorem zPd (ha:PT X a tA):PT X (.UnaryOp .Not a pos) (zMX tA):=by
 intro pins s σ H Q I h
 exact isTrue_not (ha pins s σ H (fun c H1=>Q (!c) H1) I h)
def zNB (ta tb:TE):TE:=fun σ H Q=>ta σ H fun x H1=>∃c,x = .bl c/\if c=true then tb σ H1 Q else Q (.bl false) H1
def zNg (ta:TE):TE:=fun σ H Q=>ta σ H fun x H1=>∃c,x = .bl c/\Q (.bl (!c)) H1
theorem zOT {op}{t:TE}(h:PE X a t):PE X (.BoolOp op [a] pos) t:=fun pins s σ H Q I hw=>BoolOp_one (h pins s σ H Q I hw)
theorem zO5 (ha:PE X a ta)(hb:PE X (.BoolOp .And (b::rest) pos) tb):PE X (.BoolOp .And (a::b::rest) pos) (zNB ta tb):=by
 intro pins s σ H Q I h
 refine BoolOp_and (thn (ha pins s σ H _ I h) fun v s1 ⟨x,H1,I1,r1,q1⟩=>?_)
 obtain⟨c,rfl,q1⟩:=q1
 cases r1
 refine Tw ?_
 cases c with
 | true=>exact hb pins s1 σ H1 Q I1 q1
 | false=>exact⟨.bl false,H1,I1,rfl,q1⟩
theorem zOX (ha:PE X a ta):PE X (.UnaryOp .Not a pos) (zNg ta):=by
 intro pins s σ H Q I h
 refine UnaryOp_ (thn (ha pins s σ H _ I h) fun v s1 ⟨x,H1,I1,r1,q1⟩=>?_)
 obtain⟨c,rfl,q1⟩:=q1
 cases r1
 exact not_of (Tw ⟨.bl (!c),H1,I1,rfl,q1⟩)
def tIf (t:TT)(ta tb:TE):TE:=fun σ H Q=>t σ H fun c H1=>if c=true then ta σ H1 Q else tb σ H1 Q
theorem zS8 {c:Expr}(hc:PT X c tA)(ha:PE X a ta)(hb:PE X b tb):PE X (.IfExp c a b pos) (tIf tA ta tb):=by
 intro pins s σ H Q I h
 refine wpAny_IfExp (thn (hc pins s σ H _ I h) fun d s1 ⟨H1,I1,q1⟩=>?_)
 cases d with
 | true=>exact ha pins s1 σ H1 Q I1 q1
 | false=>exact hb pins s1 σ H1 Q I1 q1
end
def SqL (K:PySem.W.Frag)(H:Hp)(a:Addr)(xs:List V):Prop :=
 Rd H a (.lst xs) ∨
   ∃(o:Obj) (its:Array Value) (n:Nat),K.lookup a=some o/\o.cls = .type "list"/\o.dict=none/\o.data = .seq its n/\its.size<=sizeLine/\Vals xs its.toList
def SqT (K:PySem.W.Frag)(H:Hp)(a:Addr)(xs:List V):Prop :=
 Rd H a (.tup xs) ∨
   ∃(o:Obj) (its:Array Value) (n:Nat),K.lookup a=some o/\o.cls = .type "tuple"/\o.data = .seq its n/\its.size<=sizeLine/\Vals xs its.toList
def zMQ:Value->Option V
 | .none=>some .non
 | .bool b=>some (.bl b)
 | .int i _=>some (.int i)
 | .str x _=>some (.str x)
 | .bytes b _=>some (.byt b)
 | .float b _=>some (.flt b)
 | .ref a=>some (.ref a)
 | .type n=>some (.ty n)
 | _=>none
theorem RelV.abs {x:V}{u:Value}(r:RelV x u):zMQ u=some x:=by
 cases x with
 | non=>cases r;rfl
 | bl _=>cases r;rfl
 | int _=>obtain⟨t,rfl⟩:=r;rfl
 | str _=>obtain⟨t,rfl⟩:=r;rfl
 | byt _=>obtain⟨t,rfl⟩:=r;rfl
 | flt _=>obtain⟨t,rfl⟩:=r;rfl
 | ref _=>cases r;rfl
 | ty _=>cases r;rfl
theorem RelV.inj {x y:V}{u:Value}(r:RelV x u)(q:RelV y u):x=y:=Wo (r.abs.symm.trans q.abs)
theorem Vals.inj:∀ {xs ys:List V} {us:List Value},Vals xs us->Vals ys us->xs=ys
 | _,_,_,.nil,.nil=>rfl
 | _,_,_,.cons r t,.cons r' t'=>by rw[r.inj r',Vals.inj t t']
section
variable {X:Cx} {pins:List (Addr×Obj)} {σ:St} {H:Hp} {s:Shared} {a:Addr} {xs ys:List V}
theorem SqL.of {K:PySem.W.Frag}(h:H a=some (.lst xs)):SqL K H a xs:=.inl (.inl h)
theorem SqT.of {K:PySem.W.Frag}(h:H a=some (.tup xs)):SqT K H a xs:=.inl (.inl h)
theorem Inv.list (I:Inv X pins σ H s)(h:SqL X.K H a xs):∃its:List Value,Vals xs its/\PlainL s.heap a its.toArray/\xs.length<=sizeLine:=by
 rcases h with h | ⟨o,its,n,hk,hc,hd,hs,hz,r⟩
 · obtain⟨z,its,n,r,e⟩:=h.ok I.hok
   exact⟨its,r,⟨_,n,e,rfl,rfl,rfl⟩,z⟩
 · refine⟨its.toList,r,⟨o,n,I.kIn a o hk,hc,hd,by simpa using hs⟩,?_⟩
   have e:=r.length
   simp only[Eg] at e
   omega
theorem Inv.tuple (I:Inv X pins σ H s)(h:SqT X.K H a xs):∃its:List Value,Vals xs its/\IsTup s.heap a its.toArray/\xs.length<=sizeLine:=by
 rcases h with h | ⟨o,its,n,hk,hc,hs,hz,r⟩
 · obtain⟨z,its,r,p⟩:=h.ok I.hok
   exact⟨its,r,p,z⟩
 · refine⟨its.toList,r,⟨o,I.kIn a o hk,hc,n,by simpa using hs⟩,?_⟩
   have e:=r.length
   simp only[Eg] at e
   omega
theorem Inv.list_inj (I:Inv X pins σ H s)(h:SqL X.K H a xs)(h':SqL X.K H a ys):xs=ys:=by
 obtain⟨its,r,⟨o,n,e,_,_,d⟩,_⟩:=I.list h
 obtain⟨its',r',⟨o',n',e',_,_,d'⟩,_⟩:=I.list h'
 rw[e] at e';cases e'
 rw[d] at d'
 injection d' with d1 _
 have:its=its':=by simpa using Ec Array.toList d1
 subst this
 exact r.inj r'
theorem Inv.tuple_inj (I:Inv X pins σ H s)(h:SqT X.K H a xs)(h':SqT X.K H a ys):xs=ys:=by
 obtain⟨its,r,⟨o,e,_,n,d⟩,_⟩:=I.tuple h
 obtain⟨its',r',⟨o',e',_,n',d'⟩,_⟩:=I.tuple h'
 rw[e] at e';cases e'
 rw[d] at d'
 injection d' with d1 _
 have:its=its':=by simpa using Ec Array.toList d1
 subst this
 exact r.inj r'
end
abbrev Cx.wish (X:Cx)(E:Value->Shared->Prop):Cx:={ X with xe:=E }
abbrev Cx.nox (X:Cx):Cx:=X.wish fun _ _=>False
theorem Cx.Ok.wish {X:Cx}(ok:X.Ok)(E:Value->Shared->Prop):(X.wish E).Ok :=
 ⟨ok.mod,ok.kind,ok.glob,ok.blt,ok.above,ok.inj,ok.has,ok.cab,ok.hd,ok.frames,ok.stk,ok.exf,ok.bs,ok.bsz,ok.noex,ok.exfs,ok.funs,ok.frf⟩
theorem Cx.Ok.unwish {X:Cx}{E:Value->Shared->Prop}(ok:(X.wish E).Ok):X.Ok :=
 ⟨ok.mod,ok.kind,ok.glob,ok.blt,ok.above,ok.inj,ok.has,ok.cab,ok.hd,ok.frames,ok.stk,ok.exf,ok.bs,ok.bsz,ok.noex,ok.exfs,ok.funs,ok.frf⟩
section
variable {X:Cx} {pins:List (Addr×Obj)} {σ:St} {H:Hp} {s:Shared} {E:Value->Shared->Prop}
theorem Inv.wish (I:Inv X pins σ H s)(E:Value->Shared->Prop):Inv (X.wish E) pins σ H s:=⟨I.ok.wish E,I.os,I.bare,I.base,I.loc,I.cell,I.free,I.freeC,I.pin,I.hok,I.len⟩
theorem Inv.unwish (I:Inv (X.wish E) pins σ H s):Inv X pins σ H s:=⟨I.ok.unwish,I.os,I.bare,I.base,I.loc,I.cell,I.free,I.freeC,I.pin,I.hok,I.len⟩
theorem SP.unwish {D:Ends}{f:Flow}{s':Shared}(h:SP (X.wish E) pins D f s'):SP X pins D f s':=by
 cases f with
 | next=>obtain⟨σ',H',I,q⟩:=h;exact⟨σ',H',I.unwish,q⟩
 | brk=>obtain⟨σ',H',I,q⟩:=h;exact⟨σ',H',I.unwish,q⟩
 | cont=>obtain⟨σ',H',I,q⟩:=h;exact⟨σ',H',I.unwish,q⟩
 | ret u=>obtain⟨v,σ',H',I,r,q⟩:=h;exact⟨v,σ',H',I.unwish,r,q⟩
theorem PSs.nox {st:List Stmt}{t:TS}(h:PSs X.nox st t):PSs X st t:=fun pins s σ H D I hw =>
 Eu (h pins s σ H D (I.wish _) hw) (fun _ _ q=>q.unwish) fun _ _ z=>False.elim z
variable {st:Stmt} {rest:List Stmt} {t u:TS} {e:Expr} {te:TE} {pos:Pos}
def zOg:TS:=fun D σ H=>D.nx σ H
def zNO (t u:TS):TS:=fun D σ H=>t { D with nx:=u D } σ H
theorem zXL:PSs X [] zOg:=fun _ _ σ H _ I h=>Ra ⟨σ,H,I,h⟩
theorem kK (h1:PS X st t)(h2:PSs X rest u):PSs X (st::rest) (zNO t u):=by
 intro pins s σ H D I h
 refine Rk (thn (h1 pins s σ H { D with nx:=u D } I h) fun f s1 q=>?_)
 cases f with
 | next =>
   obtain⟨σ',H',I',q⟩:=q
   exact h2 pins s1 σ' H' D I' q
 | ret v=>exact q
 | brk=>exact q
 | cont=>exact q
theorem zPS (h1:PS X st t):PSs X [st] t:=by
 intro pins s σ H D I h
 refine Rk (thn (h1 pins s σ H D I h) fun f s1 q=>?_)
 cases f with
 | next=>exact Ra q
 | ret v=>exact q
 | brk=>exact q
 | cont=>exact q
theorem Inv.quiet {pins:List (Addr×Obj)}{σ:St}{H:Hp}{s:Shared}(I:Inv X pins σ H s):interactive X.env=false:=by simp[interactive,I.ok.kind]
def zNY (te:TE):TS:=fun D σ H=>te σ H fun _ H1=>D.nx σ H1
theorem zUG (he:PE X e te)(hs:swapsWith e none pos.line X.env=pure false:=by rfl):PS X (.Expr e pos) (zNY te):=by
 intro pins s σ H D I h
 exact wpAny_Expr_any (thn (he pins s σ H _ I h) fun v s1 ⟨x,H1,I1,r1,q1⟩=>⟨σ,H1,I1,q1⟩) I.quiet hs
def zMK (te:TE):TS:=fun D σ H=>te σ H D.rt
theorem zXR (he:PE X e te):PS X (.Return (some e) pos) (zMK te):=by
 intro pins s σ H D I h
 exact wpAny_Return_some (thn (he pins s σ H _ I h) fun v s1 ⟨x,H1,I1,r1,q1⟩=>⟨x,σ,H1,I1,r1,q1⟩)
def zMN (c:TT)(t u:TS):TS:=fun D σ H=>c σ H fun b H1=>if b=true then t D σ H1 else u D σ H1
theorem zPI {c:Expr}{a b:List Stmt}{tc:TT}(hc:PT X c tc)(ha:PSs X a t)(hb:PSs X b u):PS X (.If c a b pos) (zMN tc t u):=by
 intro pins s σ H D I h
 refine wpAny_If (thn (hc pins s σ H _ I h) fun d s1 ⟨H1,I1,q1⟩=>?_)
 cases d with
 | true=>exact ha pins s1 σ H1 D I1 q1
 | false=>exact hb pins s1 σ H1 D I1 q1
end
abbrev TG:=V->St->Hp->(St->Hp->Prop)->Prop
abbrev TGs:=List V->St->Hp->(St->Hp->Prop)->Prop
def PG (X:Cx)(target:Expr)(t:TG):Prop :=
 ∀(pins:List (Addr×Obj)) (s:Shared) (σ:St) (H:Hp) (v:V) (u:Value) (Q:St->Hp->Prop),Inv X pins σ H s->RelV v u->t v σ H Q ->
   wpAny (model X.prog X.w) X.A (assign target X.env u) (fun _ s'=>∃σ' H',Inv X pins σ' H' s'/\Q σ' H') X.xe s
def PGs (X:Cx)(ts:List Expr)(t:TGs):Prop :=
 ∀(pins:List (Addr×Obj)) (s:Shared) (σ:St) (H:Hp) (vs:List V) (us:List Value) (Q:St->Hp->Prop),Inv X pins σ H s->Vals vs us->t vs σ H Q ->
   wpAny (model X.prog X.w) X.A (assignInOrder ((assignEach ts X.env).map (·.2)) us) (fun _ s'=>∃σ' H',Inv X pins σ' H' s'/\Q σ' H') X.xe s
abbrev zOJ:=V->V->V->Hp->(Hp->Prop)->Prop
def zOB (X:Cx)(t:zOJ):Prop :=
 ∀(pins:List (Addr×Obj)) (s:Shared) (σ:St) (H:Hp) (o i v:V) (ov iv u:Value) (Q:Hp->Prop),Inv X pins σ H s->RelV o ov->RelV i iv->RelV v u->t o i v H Q ->
   wpAny (model X.prog X.w) X.A (setItem ov iv u) (fun _ s'=>∃H',Inv X pins σ H' s'/\Q H') X.xe s
section
variable {X:Cx} {pos:Pos}
def aP (i:Nat):TG:=fun v σ H Q=>Q (σ.set i (some v)) H
theorem zQY {i:Nat}{x:Str}(hN:X.N.Nodup)(hi:X.N[i]?=some x)(hx:Loc X.env.scope x)(hf:X.fn x=true∨X.env.scope.names.lookup x=some .local:=by first | exact .inl rfl | exact .inr rfl | assumption):PG X (.Name x pos) (aP i):=by
 intro pins s σ H v u Q I r h
 exact wpAny_assign_Name (lL I hN hi hx r (fun s' I'=>⟨_,H,I',h⟩) hf)
def zMI:TGs:=fun vs σ H Q=>vs=[]/\Q σ H
def zOf (t:TG)(u:TGs):TGs:=fun vs σ H Q=>∃v r,vs=v::r/\t v σ H fun σ' H'=>u r σ' H' Q
theorem zQo:PGs X [] zMI:=by
 intro pins s σ H vs us Q I r h
 obtain⟨e,h⟩:=h
 subst e
 cases r
 exact assignInOrder_nil ⟨σ,H,I,h⟩
theorem zRE {e:Expr}{es:List Expr}{t:TG}{u:TGs}(h1:PG X e t)(h2:PGs X es u)
   (hs:(assignEach (e::es) X.env).map (·.2)=assign e X.env::(assignEach es X.env).map (·.2):=by rfl):PGs X (e::es) (zOf t u):=by
 intro pins s σ H vs us Q I r h
 obtain⟨v,vr,e1,h⟩:=h
 subst e1
 cases r with
 | cons r rr =>
   rw[hs]
   refine assignInOrder_cons (thn (h1 pins s σ H _ _ _ I r h) fun _ s1 ⟨σ1,H1,I1,q1⟩=>?_)
   exact h2 pins s1 σ1 H1 _ _ Q I1 rr q1
def zMA (K:PySem.W.Frag)(n:Nat)(t:TGs):TG:=fun v σ H Q=>∃a xs,v = .ref a/\SqT K H a xs/\xs.length=n/\t xs σ H Q
theorem zPb {es:List Expr}{k:Nat}{t:TGs}{n:Nat}(hc:X.calm=true)(h:PGs X es t)
   (hn:(assignEach es X.env).length=n:=by rfl) (hst:(assignEach es X.env).findIdx? (·.1)=none:=by rfl):PG X (.Tuple es k pos) (zMA X.K n t):=by
 intro pins s σ H v u Q I r hw
 obtain⟨a,xs,e1,hq,hl,hw⟩:=hw
 subst e1
 cases r
 obtain⟨its,rv,ht,hz⟩:=I.tuple hq
 refine assign_Tuple_tuple (I.ok.hd hc) ht (by simp[hn,←hl,rv.length]) hst fun h' hx=>?_
 have I1:Inv X pins σ H { s with heap:=h' }:=I.kept (t':=s.toks) fun b o e=>hx b o (Wy (Qy e)) e
 exact h pins _ σ H xs _ Q I1 (by simpa using rv) hw
def zM4 (to ti:TE)(t:zOJ):TG:=fun v σ H Q=>to σ H fun o H1=>ti σ H1 fun i H2=>t o i v H2 fun H3=>Q σ H3
theorem zSr {o i:Expr}{to ti:TE}{t:zOJ}(ho:PE X o to)(hi:PE X i ti)(hs:zOB X t)
   (ha:∀v,assign (.Subscript o i pos) X.env v=(do
     let ov ←holding [v] (eval o X.env)
     let iv ←holding [v,ov] (eval i X.env)
     standAt pos
     holding [v,ov,iv] (setItem ov iv v)
     release [v,ov,iv] []):=by intro _;rfl):PG X (.Subscript o i pos) (zM4 to ti t):=by
 intro pins s σ H v u Q I r h
 rw[ha]
 refine Qe (Ry (thn (ho pins s σ H _ I h) fun ov s1 ⟨x,H1,I1,r1,q1⟩=>?_))
 refine Qe (Ry (thn (hi pins s1 σ H1 _ I1 q1) fun iv s2 ⟨y,H2,I2,r2,q2⟩=>?_))
 refine Qe (Uq (Qe (Ry (thn (hs pins s2 σ H2 x y v ov iv u _ I2 r1 r2 r q2) fun _ s3 ⟨H3,I3,q3⟩=>?_))))
 exact wpAny_release ⟨σ,H3,I3,q3⟩
def zWP (te:TE)(g:TG):TS:=fun D σ H=>te σ H fun x H1=>g x σ H1 D.nx
theorem zYl {tg e:Expr}{te:TE}{g:TG}(he:PE X e te)(hg:PG X tg g)(hs:swapsWithSole [tg] e pos.line X.env=pure false:=by rfl)(hw:swappedStores [tg] e X.env=pure none:=by rfl)
   (h1:(assignEach [tg] X.env).map (·.2)=[assign tg X.env]:=by rfl):PS X (.Assign [tg] e pos) (zWP te g):=by
 intro pins s σ H D I h
 refine wpAny_Assign_stores (thn (he pins s σ H _ I h) fun v s1 ⟨x,H1,I1,r1,q1⟩=>?_) hs hw
 rw[h1]
 exact thn (hg pins s1 σ H1 x v _ I1 r1 q1) fun _ s2 q=>q
theorem aB {i:Nat}{x:Str}{e:Expr}{te:TE}{pos':Pos}(hN:X.N.Nodup)(hi:X.N[i]?=some x)(hx:Loc X.env.scope x)(he:PE X e te)(hs:swapsWith e (some (.Name x pos')) pos.line X.env=pure false:=by rfl)(hf:X.fn x=true∨X.env.scope.names.lookup x=some .local:=by first | exact .inl rfl | exact .inr rfl | assumption) :
   PS X (.Assign [.Name x pos'] e pos) (zWP te (aP i)):=by
 intro pins s σ H D I h
 refine Um (thn (he pins s σ H _ I h) fun v s1 ⟨y,H1,I1,r1,q1⟩=>?_) hs
 exact lL I1 hN hi hx r1 (fun s2 I2=>⟨_,H1,I2,q1⟩) hf
def zPc (c:TT)(tb:TS):TS:=fun D σ H=>∃W:Nat->St->Hp->Prop,(∃m,W m σ H)/\∀m σ H,W m σ H ->
 c σ H fun b H1=>if b=true then ∃N:St->Hp->Prop,(∀σ' H',N σ' H'->∃m',m' < m/\W m' σ' H')/\tb { D with nx:=N,ct:=N,bk:=D.nx } σ H1 else D.nx σ H1
theorem zSp {c:Expr}{body:List Stmt}{tc:TT}{tb:TS}(hp:PassesOwn (model X.prog X.w) X.A X.env X.xe)(hc:PT X c tc)(hb:PSs X body tb):PS X (.While c body [] pos) (zPc tc tb):=by
 intro pins s σ H D I h
 obtain⟨W,⟨m0,w0⟩,turn⟩:=h
 refine wpAny_While (codeAny_whileLoop (fun n s'=>∃σ' H',Inv X pins σ' H' s'/\W n σ' H') ?_ m0 ⟨σ,H,I,w0⟩)
 rintro n s1 ⟨σ1,H1,I1,w1⟩
 refine Rx hp (thn (hc pins s1 σ1 H1 _ I1 (turn n σ1 H1 w1)) fun b s2 ⟨H2,I2,q2⟩=>?_)
 cases b with
 | true =>
   obtain⟨N,hN,q2⟩:=q2
   rw[Wr rfl]
   refine Rx hp (thn (hb pins s2 σ1 H2 _ I2 q2) fun f s3 q3=>?_)
   cases f with
   | next =>
     obtain⟨σ3,H3,I3,n3⟩:=q3
     obtain⟨m',hm,w3⟩:=hN σ3 H3 n3
     exact⟨m',hm,σ3,H3,I3,w3⟩
   | cont =>
     obtain⟨σ3,H3,I3,n3⟩:=q3
     obtain⟨m',hm,w3⟩:=hN σ3 H3 n3
     exact⟨m',hm,σ3,H3,I3,w3⟩
   | brk=>exact q3
   | ret v=>exact q3
 | false =>
   rw[Wj Qk]
   exact Ra ⟨σ1,H2,I2,q2⟩
end
structure It where
 go:Nat->Hp->Prop
 yld:Nat->Hp->V->Hp->Prop
 stop:Nat->Hp->Prop
def nN (X:Cx)(pins:List (Addr×Obj))(H:Hp)(b:Addr):Prop :=
 H b=none/\b≠X.env.locals/\b∉X.fs/\(b∈X.ex∨X.s₀.heap.objs.size<=b)/\(∀x c,X.env.cells.lookup x=some c->c≠b)/\∀p∈X.pn++pins,p.1≠b
theorem Inv.fpOk {X:Cx}{pins:List (Addr×Obj)}{σ:St}{H H':Hp}{s:Shared}{b:Addr}(I:Inv X pins σ H s)(hb:s.heap.objs.size<=b)(hn:H' b=none):nN X pins H' b:=by
 refine⟨hn,Nat.ne_of_gt (Wu I.lt hb),I.nofs hb,.inr (Wv I.sz hb),fun x c e z=>?_,fun p hp z=>?_⟩
 · obtain⟨v,q⟩:=I.cell x c e
   exact absurd (Wu q.lt (by rw[z];exact hb)) (Wa _)
 · exact absurd (Wu (Qy (I.pin p hp).1) (by rw[z];exact hb)) (Wa _)
structure Turn (P:Program)(w:World)(K:PySem.W.Frag)(tg:Expr)(J:It)(fp:List Addr)(it:Addr)(tn:Nat->Heap->Prop):Prop where
 mem:it∈fp
 obj:∀i h,tn i h->∀b∈fp,∃o,h.get? b=some o/\∀v,o.data ≠ .cell v
 keep:∀i h h',tn i h->(∀b∈fp,∀o,h.get? b=some o->h'.get? b=some o)->tn i h'
 item:∀(X:Cx),X.prog=P->X.w=w->X.K=K->X.calm=true->∀(i:Nat) (pins:List (Addr×Obj)) (s:Shared) (σ:St) (H:Hp) (E:Value->Shared->Prop),Inv X pins σ H s->(∀b∈fp,nN X pins H b)->tn i s.heap->J.go i H ->
   wpAny (model P w) X.A (pyNext (.ref it)) (fun r s1=>∃u,r=some u /\
     wpAny (model P w) X.A (letOwnedTupleGo tg (.ref it) u) (fun _ s2=>∃x H',Inv X pins σ H' s2/\RelV x u/\J.yld i H x H'/\tn (i+1) s2.heap/\∀b∈fp,H' b=none) E s1) E s
 done:∀(X:Cx),X.prog=P->X.w=w->X.K=K->X.calm=true->∀(i:Nat) (pins:List (Addr×Obj)) (s:Shared) (σ:St) (H:Hp) (E:Value->Shared->Prop),Inv X pins σ H s->(∀b∈fp,nN X pins H b)->tn i s.heap->J.stop i H ->
   wpAny (model P w) X.A (pyNext (.ref it)) (fun r s1=>r=none/\Inv X pins σ H s1) E s
 self:∀(A:Around) (i:Nat) (s:Shared) (Q:Value->Shared->Prop) (E:Value->Shared->Prop),tn i s.heap->Q (.ref it) s->wpAny (model P w) A (pyIter (.ref it)) Q E s
abbrev TI:=St->Hp->(It->Hp->Prop)->Prop
def PIE (X:Cx)(pins:List (Addr×Obj))(σ:St)(tg:Expr)(R:It->Hp->Prop)(itv:Value)(s2:Shared):Prop :=
 ∃(it:Addr) (fp:List Addr) (tn:Nat->Heap->Prop) (J:It) (H':Hp),itv = .ref it/\Inv X pins σ H' s2/\Turn X.prog X.w X.K tg J fp it tn/\tn 0 s2.heap/\(∀b∈fp,nN X pins H' b)/\R J H'
def PI (X:Cx)(tg iter:Expr)(wi:TI):Prop :=
 ∀(pins:List (Addr×Obj)) (s:Shared) (σ:St) (H:Hp) (R:It->Hp->Prop),Inv X pins σ H s->wi σ H R ->
   wpAny (model X.prog X.w) X.A (eval iter X.env) (fun v s1=>wpAny (model X.prog X.w) X.A (pyIter v) (PIE X pins σ tg R) X.xe s1) X.xe s
theorem zWR {M:Model}{A:Around}{E:Value->Shared->Prop}{s:Shared}{tg:Expr}{it:Addr}{u:Value}{o:Obj}{n:String}{vs:Array Value}{Q:Unit->Shared->Prop}(ho:s.heap.get? it=some o)(hc:o.cls = .type n)(hd:o.data = .fields vs)
   (hn:["enumerate","zip","dict_itemiterator","dict_reverseitemiterator","odict_iterator","itertools.zip_longest","itertools.pairwise"].contains n=false) (hQ:Q () s):wpAny M A (letOwnedTupleGo tg (.ref it) u) Q E s:=by
 unfold letOwnedTupleGo
 cases tg<;>first
   | exact Qa hQ
   | (cases u<;>first
       | exact Qa hQ
       | (refine Qe (wpAny_load ho ?_)
          rw[hc,hd]
          show wpAny M A (if (["enumerate","zip","dict_itemiterator","dict_reverseitemiterator","odict_iterator","itertools.zip_longest","itertools.pairwise"].contains n&&vs[0]?==some (rawInt _))=true then _ else _) Q E s
          rw[Wj (by intro h;rw[hn,Bool.false_and] at h;cases h)]
          exact Qa hQ))
def Itl (K:PySem.W.Frag)(a:Addr):It :=
 ⟨fun i H=>∃xs x,SqL K H a xs/\xs[i]?=some x,fun i H x H'=>H'=H/\∀xs,SqL K H a xs->xs[i]?=some x,fun i H=>∃xs,SqL K H a xs/\xs.length<=i⟩
def Itt (K:PySem.W.Frag)(a:Addr):It :=
 ⟨fun i H=>∃xs x,SqT K H a xs/\xs[i]?=some x,fun i H x H'=>H'=H/\∀xs,SqT K H a xs->xs[i]?=some x,fun i H=>∃xs,SqT K H a xs/\xs.length<=i⟩
def Itr (lo:Int)(n:Nat):It:=⟨fun i _=>i < n,fun i H x H'=>H'=H/\x = .int (lo+i),fun i _=>n<=i⟩
theorem zTY {P:Program}{w:World}{K:PySem.W.Frag}{tg:Expr}(a it:Addr):Turn P w K tg (Itl K a) [it] it (fun i h=>h.IsListIter it a i) where
 mem:=by simp
 obj:=fun i h st b hb=>by
   have e:b=it:=by simpa using hb
   subst e
   obtain⟨o,e,c,d⟩:=st
   exact⟨o,e,fun v z=>by rw[d] at z;cases z⟩
 keep:=fun i h h' st k=>st.at fun o e=>k it (by simp) o e
 item:=by
   intro X hP hw hK hc i pins s σ H E I hf st hg
   subst hP hw hK
   obtain⟨xs,x,hq,hx⟩:=hg
   obtain⟨its,rv,p,hz⟩:=I.list hq
   obtain⟨u,hu,ru⟩:=rv.get hx
   obtain⟨f0,f1,f2,f3,f4,f5⟩:=hf it (by simp)
   refine wpAny_pyNext_list_item st p.isList (x:=u) (by simpa using hu) fun h' st' sb=>?_
   have I1:Inv X pins σ H { s with heap:=h' }:=I.turned (t':=s.toks) (fun b o hb e=>(sb.2 b hb).trans e) f0 f1 f3 f4 f5
   obtain⟨o,e,c,d⟩:=id st'
   exact⟨u,rfl,zWR (s:={ s with heap:=h' }) e c d (by decide) ⟨x,H,I1,ru,⟨rfl,fun ys hy=>by rw[I.list_inj hy hq];exact hx⟩,st',fun b hb=>(hf b hb).1⟩⟩
 done:=by
   intro X hP hw hK hc i pins s σ H E I hf st hg
   subst hP hw hK
   obtain⟨xs,hq,hx⟩:=hg
   obtain⟨its,rv,p,hz⟩:=I.list hq
   obtain⟨f0,f1,f2,f3,f4,f5⟩:=hf it (by simp)
   have hl:=rv.length
   exact wpAny_pyNext_list_end (I.ok.hd hc) st p.isList (by simp;omega) fun h' eb=>⟨rfl,I.turned (t':=s.toks) (fun b o hb e=>eb b o hb e) f0 f1 f3 f4 f5⟩
 self:=fun _ _ _ _ _ st h=>wpAny_pyIter_listiter st h
theorem zVG {P:Program}{w:World}{K:PySem.W.Frag}{tg:Expr}(a it:Addr):Turn P w K tg (Itt K a) [it] it (fun i h=>h.IsTupleIter it a i) where
 mem:=by simp
 obj:=fun i h st b hb=>by
   have e:b=it:=by simpa using hb
   subst e
   obtain⟨o,e,c,d⟩:=st
   exact⟨o,e,fun v z=>by rw[d] at z;cases z⟩
 keep:=fun i h h' st k=>st.at fun o e=>k it (by simp) o e
 item:=by
   intro X hP hw hK hc i pins s σ H E I hf st hg
   subst hP hw hK
   obtain⟨xs,x,hq,hx⟩:=hg
   obtain⟨its,rv,p,hz⟩:=I.tuple hq
   obtain⟨u,hu,ru⟩:=rv.get hx
   obtain⟨f0,f1,f2,f3,f4,f5⟩:=hf it (by simp)
   refine wpAny_pyNext_tuple_item st (show s.heap.IsTuple a its.toArray from p) (x:=u) (by simpa using hu) fun h' st' sb=>?_
   have I1:Inv X pins σ H { s with heap:=h' }:=I.turned (t':=s.toks) (fun b o hb e=>(sb.2 b hb).trans e) f0 f1 f3 f4 f5
   obtain⟨o,e,c,d⟩:=id st'
   exact⟨u,rfl,zWR (s:={ s with heap:=h' }) e c d (by decide) ⟨x,H,I1,ru,⟨rfl,fun ys hy=>by rw[I.tuple_inj hy hq];exact hx⟩,st',fun b hb=>(hf b hb).1⟩⟩
 done:=by
   intro X hP hw hK hc i pins s σ H E I hf st hg
   subst hP hw hK
   obtain⟨xs,hq,hx⟩:=hg
   obtain⟨its,rv,p,hz⟩:=I.tuple hq
   obtain⟨f0,f1,f2,f3,f4,f5⟩:=hf it (by simp)
   have hl:=rv.length
   exact wpAny_pyNext_tuple_end (I.ok.hd hc) st (show s.heap.IsTuple a its.toArray from p) (by simp;omega) fun h' eb=>⟨rfl,I.turned (t':=s.toks) (fun b o hb e=>eb b o hb e) f0 f1 f3 f4 f5⟩
 self:=fun _ _ _ _ _ st h=>wpAny_pyIter_tupleiter st h
theorem zVT {P:Program}{w:World}{K:PySem.W.Frag}{tg:Expr}(it:Addr)(lo:Int)(n:Nat):Turn P w K tg (Itr lo n) [it] it (fun i h=>IsRangeIter h it (lo+(i:Nat)*1) ((n:Int) - (i:Nat)) 1) where
 mem:=by simp
 obj:=fun i h st b hb=>by
   have e:b=it:=by simpa using hb
   subst e
   exact⟨_,st,fun v z=>by
     have z':Data.fields _=Data.cell v:=z
     cases z'⟩
 keep:=fun i h h' st k=>k it (by simp) _ st
 item:=by
   intro X hP hw hK hc i pins s σ H E I hf st hg
   subst hP hw hK
   obtain⟨f0,f1,f2,f3,f4,f5⟩:=hf it (by simp)
   have W:=Walks.range (prog:=X.prog) (w:=X.w) (I.ok.hd hc) it lo 1 n
   refine W.item i s _ _ hg st fun v h' tk hv st' kk=>?_
   obtain⟨t,rfl⟩:=hv
   have I1:Inv X pins σ H { s with heap:=h',toks:=tk }:=I.turned (fun b o hb e=>kk b o (by simpa using hb) e) f0 f1 f3 f4 f5
   refine⟨_,rfl,zWR (s:={ s with heap:=h',toks:=tk }) (n:="range_iterator") st' rfl rfl (by decide) ⟨.int (lo+i),H,I1,⟨t,?_⟩,⟨rfl,rfl⟩,st',fun b hb=>(hf b hb).1⟩⟩
   rw[Int.mul_one]
 done:=by
   intro X hP hw hK hc i pins s σ H E I hf st hg
   subst hP hw hK
   obtain⟨f0,f1,f2,f3,f4,f5⟩:=hf it (by simp)
   exact wpAny_pyNext_range_end (I.ok.hd hc) st (by have:n<=i:=hg;omega) fun h' eb=>⟨rfl,I.turned (t':=s.toks) (fun b o hb e=>eb b o hb e) f0 f1 f3 f4 f5⟩
 self:=fun _ _ _ _ _ st h=>wpAny_pyIter_rangeiter st h
section
variable {X:Cx} {tg:Expr}
def zNb (K:PySem.W.Frag)(tl:TE):TI:=fun σ H R=>tl σ H fun x H1=>∃a,x = .ref a/\(∃xs,SqL K H1 a xs)/\R (Itl K a) H1
def zMS (K:PySem.W.Frag)(tl:TE):TI:=fun σ H R=>tl σ H fun x H1=>∃a,x = .ref a/\(∃xs,SqT K H1 a xs)/\R (Itt K a) H1
theorem zUi {l:Expr}{tl:TE}(hl:PE X l tl):PI X tg l (zNb X.K tl):=by
 intro pins s σ H R I h
 refine thn (hl pins s σ H _ I h) fun v s1 ⟨x,H1,I1,r1,q1⟩=>?_
 obtain⟨a,e,⟨xs,hq⟩,q⟩:=q1
 subst e
 cases r1
 obtain⟨its,rv,p,hz⟩:=I1.list hq
 refine wpAny_pyIter_list p.isList ?_
 refine⟨s1.heap.objs.size,[s1.heap.objs.size],_,_,H1,rfl,I1.kept (t':=s1.toks) fun b o e=>Qr _ e,zTY a _,⟨_,Qh _ rfl,rfl,rfl⟩,fun b hb=>?_,q⟩
 have e:b=s1.heap.objs.size:=by simpa using hb
 subst e
 exact I1.fpOk (Ql _) (I1.hok.fresh (Ql _))
theorem zPt {l:Expr}{tl:TE}(hl:PE X l tl):PI X tg l (zMS X.K tl):=by
 intro pins s σ H R I h
 refine thn (hl pins s σ H _ I h) fun v s1 ⟨x,H1,I1,r1,q1⟩=>?_
 obtain⟨a,e,⟨xs,hq⟩,q⟩:=q1
 subst e
 cases r1
 obtain⟨its,rv,p,hz⟩:=I1.tuple hq
 refine wpAny_pyIter_tuple (show s1.heap.IsTuple a its.toArray from p) ?_
 refine⟨s1.heap.objs.size,[s1.heap.objs.size],_,_,H1,rfl,I1.kept (t':=s1.toks) fun b o e=>Qr _ e,zVG a _,⟨_,Qh _ rfl,rfl,rfl⟩,fun b hb=>?_,q⟩
 have e:b=s1.heap.objs.size:=by simpa using hb
 subst e
 exact I1.fpOk (Ql _) (I1.hok.fresh (Ql _))
theorem zXh {pins:List (Addr×Obj)}{σ:St}{H:Hp}{s:Shared}{R:It->Hp->Prop}{E:Value->Shared->Prop}{lo hi:Int}{t u v:Tok}{tk:Nat}(I:Inv X pins σ H s)(h1 : -(2^62)<=lo)(h2:lo < 2^62)(h3 : -(2^62)<=hi)(h4:hi < 2^62)
   (q:R (Itr lo (hi - lo).toNat) H):wpAny (model X.prog X.w) X.A (pyIter (.ref s.heap.objs.size)) (PIE X pins σ tg R) E { s with heap:=s.heap.push { cls:=.type "range",data:=.fields #[.int lo t,.int hi u,.int 1 v] },toks:=tk }:=by
 refine wpAny_pyIter_range (IsRange.new ..) (small_one h1 h2 h3 h4) ?_
 have I1:Inv X pins σ H { s with heap:=s.heap.push { cls:=.type "range",data:=.fields #[.int lo t,.int hi u,.int 1 v] },toks:=tk }:=I.kept fun b o e=>Qr _ e
 refine⟨(s.heap.push { cls:=.type "range",data:=.fields #[.int lo t,.int hi u,.int 1 v] }).objs.size,[(s.heap.push { cls:=.type "range",data:=.fields #[.int lo t,.int hi u,.int 1 v] }).objs.size],_,_,H,rfl,
   I1.kept (t':=tk) fun b o e=>Qr _ e,zVT _ lo (hi - lo).toNat,?_,fun b hb=>?_,q⟩
 · have e1:lo+((0:Nat):Int)*1=lo:=by simp
   have e2:(((hi - lo).toNat:Nat):Int) - ((0:Nat):Int)=Builtin.Range.rangeSize lo hi 1:=by rw[rangeSize_one];split<;>omega
   show IsRangeIter _ _ (lo+((0:Nat):Int)*1) ((((hi - lo).toNat:Nat):Int) - ((0:Nat):Int)) 1
   rw[e1,e2]
   exact Qh _ rfl
 · have e:b=(s.heap.push { cls:=.type "range",data:=.fields #[.int lo t,.int hi u,.int 1 v] }).objs.size:=by simpa using hb
   subst e
   exact I1.fpOk (Ql _) (I1.hok.fresh (Ql _))
def zN6 (ta:TA):TI:=fun σ H R=>ta σ H fun vs H1=>∃j:Int,vs=[.int j] /\ -(2^62)<=j/\j < 2^62/\R (Itr 0 j.toNat) H1
def zN9 (ta:TA):TI:=fun σ H R=>ta σ H fun vs H1=>∃i j:Int,vs=[.int i,.int j]/\(-(2^62)<=i/\i < 2^62 /\ -(2^62)<=j/\j < 2^62)/\R (Itr i (j - i).toNat) H1
theorem zT4 {a:Expr}{ta:TA}{p pos:Pos}(hg:Gl X "range")(hm:X.mg "range"=none)(ha:PA X [a] ta)(hs:starEach [a] X.env=[(false,eval a X.env)]:=by rfl):PI X tg (.Call (.Name "range" p) [a] [] pos) (zN6 ta):=by
 intro pins s σ H R I h
 refine Call_ (mD I hg hm boot_range (Ei (thn (ha pos pins s σ H _ I h) fun us s1 ⟨vs,H1,I1,r1,q1⟩=>?_) hs rfl))
 obtain⟨j,e,q1,q2,q⟩:=q1
 subst e
 cases r1 with
 | cons r rr =>
   cases rr
   obtain⟨t,rfl⟩:=r
   exact call_range_1 (zXh I1 (by omega) (by omega) q1 q2 (by simpa using q))
theorem zT1 {a b:Expr}{ta:TA}{p pos:Pos}(hg:Gl X "range")(hm:X.mg "range"=none)(ha:PA X [a,b] ta)(hs:starEach [a,b] X.env=[(false,eval a X.env),(false,eval b X.env)]:=by rfl)(hs2:starEach [b] X.env=[(false,eval b X.env)]:=by rfl) :
   PI X tg (.Call (.Name "range" p) [a,b] [] pos) (zN9 ta):=by
 intro pins s σ H R I h
 refine Call_ (mD I hg hm boot_range (Ei (thn (ha pos pins s σ H _ I h) fun us s1 ⟨vs,H1,I1,r1,q1⟩=>?_) (by rw[hs,hs2]) (by rw[hs2];rfl)))
 obtain⟨i,j,e,⟨q1,q2,q3,q4⟩,q⟩:=q1
 subst e
 cases r1 with
 | cons r rr =>
   cases rr with
   | cons r' rr =>
     cases rr
     obtain⟨t,rfl⟩:=r
     obtain⟨t',rfl⟩:=r'
     exact call_range_2 (zXh I1 q1 q2 q3 q4 q)
def zNN (wi:TI)(g:TG)(tb:TS):TS:=fun D σ H=>wi σ H fun J H1=>∃W:Nat->Nat->St->Hp->Prop,(∃m,W 0 m σ H1)/\∀i m σ H,W i m σ H ->
 (J.stop i H/\D.nx σ H)∨(J.go i H/\∃N:St->Hp->Prop,(∀σ' H',N σ' H'->∃m',m' < m/\W (i+1) m' σ' H')/\∀x H',J.yld i H x H'->g x σ H' fun σ2 H2=>tb { D with nx:=N,ct:=N,bk:=D.nx } σ2 H2)
def eY (fp:List Addr)(h:Heap):List (Addr×Obj):=fp.filterMap fun b=>(h.get? b).map fun o=>(b,o)
theorem sD {fp:List Addr}{h:Heap}{b:Addr}{o:Obj}(hb:b∈fp)(e:h.get? b=some o):(b,o)∈eY fp h:=List.mem_filterMap.mpr ⟨b,hb,by rw[e];rfl⟩
theorem zUc {fp:List Addr}{h:Heap}{p:Addr×Obj}(hp:p∈eY fp h):p.1∈fp/\h.get? p.1=some p.2:=by
 obtain⟨b,hb,e⟩:=List.mem_filterMap.mp hp
 cases q:h.get? b with
 | none=>rw[q] at e;cases e
 | some o =>
   rw[q] at e
   have e':(b,o)=p:=Wo e
   subst e'
   exact⟨hb,q⟩
theorem Inv.pinned {pins:List (Addr×Obj)}{σ:St}{H:Hp}{s:Shared}{fp:List Addr}(I:Inv X pins σ H s)(hf:∀b∈fp,nN X pins H b)(ho:∀b∈fp,∃o,s.heap.get? b=some o/\∀v,o.data ≠ .cell v):Inv X (pins++eY fp s.heap) σ H s :=
 I.pins_of fun p hp=>(El.mp hp).elim (fun z=>I.pin p (Wp _ z)) fun z=>by
   obtain⟨hb,e⟩:=zUc z
   obtain⟨f0,f1,f2,_⟩:=hf p.1 hb
   obtain⟨o,e',d⟩:=ho p.1 hb
   rw[e] at e';cases e'
   exact⟨e,f0,f1,f2,d⟩
theorem Inv.unpinned {pins pl:List (Addr×Obj)}{σ:St}{H:Hp}{s:Shared}(I:Inv X (pins++pl) σ H s):Inv X pins σ H s:=I.pins_of fun p hp=>I.pin p (Wp _ (List.mem_append_left _ hp))
theorem zPm {iter:Expr}{body:List Stmt}{wi:TI}{g:TG}{tb:TS}{pos:Pos}(hp:PassesOwn (model X.prog X.w) X.A X.env X.xe)(hc:X.calm=true)(hi:PI X tg iter wi)(hg:PG X tg g)(hb:PSs X body tb)
   (hs:∀x,foldedSetIterable iter X.env x=pure x:=by intro _;rfl):PS X (.For tg iter body [] pos) (zNN wi g tb):=by
 intro pins s σ H D I h
 refine wpAny_For (thn (hi pins s σ H _ I h) fun v s1 h1=>thn h1 fun itv s2 h2=>?_) hs
 obtain⟨it,fp,tn,J,H2,e,I2,T,st2,f2,W,⟨m0,w0⟩,turn⟩:=h2
 subst e
 -- what stays true of the iterator's objects through the loop
 have stat:∀ {H':Hp},(∀b∈fp,H' b=none)->∀b∈fp,nN X pins H' b:=fun hn b hb=>⟨hn b hb,(f2 b hb).2⟩
 refine codeAny_forLoop_any (fun n s'=>∃i σ' H',Inv X pins σ' H' s'/\tn i s'.heap/\(∀b∈fp,H' b=none)/\W i n σ' H') ?_ m0 ⟨0,σ,H2,I2,st2,fun b hb=>(f2 b hb).1,w0⟩
 rintro n s3 ⟨i,σ3,H3,I3,st3,fr3,w3⟩
 rcases turn i n σ3 H3 w3 with⟨stop,qn⟩ | ⟨go,N,hN,step⟩
 · refine Rx hp (thn (T.done X rfl rfl rfl hc i pins s3 σ3 H3 X.xe I3 (stat fr3) st3 stop) fun r s4 ⟨hr,I4⟩=>?_)
   subst hr
   exact Ra ⟨σ3,H3,I4,qn⟩
 · refine Rx hp (thn (T.item X rfl rfl rfl hc i pins s3 σ3 H3 X.xe I3 (stat fr3) st3 go) fun r s4 ⟨u,hr,h4⟩=>?_)
   subst hr
   refine Rx hp (thn h4 fun _ s5 ⟨x,H5,I5,r5,y5,st5,fr5⟩=>?_)
   have I5':=I5.pinned (stat fr5) (T.obj _ _ st5)
   refine Rx hp (thn (hg _ s5 σ3 H5 x u _ I5' r5 (step x H5 y5)) fun _ s6 ⟨σ6,H6,I6,q6⟩=>?_)
   refine Rx hp (thn (hb _ s6 σ6 H6 _ I6 q6) fun f s7 q7=>?_)
   have again:∀ {σ7:St} {H7:Hp},Inv X (pins++eY fp s5.heap) σ7 H7 s7->N σ7 H7->∃m,m < n/\∃i σ' H',Inv X pins σ' H' s7/\tn i s7.heap/\(∀b∈fp,H' b=none)/\W i m σ' H':=fun {σ7 H7} I7 n7=>by
     obtain⟨m',hm,w7⟩:=hN σ7 H7 n7
     refine⟨m',hm,i+1,σ7,H7,I7.unpinned,T.keep _ _ _ st5 fun b hb o e=>(I7.pin (b,o) (Wp _ (Wp _ (sD hb e)))).1,fun b hb=>?_,w7⟩
     obtain⟨o,e,d⟩:=T.obj _ _ st5 b hb
     exact(I7.pin (b,o) (Wp _ (Wp _ (sD hb e)))).2.1
   cases f with
   | next=>obtain⟨σ7,H7,I7,n7⟩:=q7;exact again I7 n7
   | cont=>obtain⟨σ7,H7,I7,n7⟩:=q7;exact again I7 n7
   | brk=>obtain⟨σ7,H7,I7,q7⟩:=q7;exact⟨σ7,H7,I7.unpinned,q7⟩
   | ret v=>obtain⟨x7,σ7,H7,I7,r7,q7⟩:=q7;exact⟨x7,σ7,H7,I7.unpinned,r7,q7⟩
end
abbrev R2:=V->V->Hp->VK->Prop
def OpR (X:Cx)(f:Value->Value->Sem Value)(r:R2):Prop :=
 ∀(pins:List (Addr×Obj)) (s:Shared) (σ:St) (H:Hp) (x y:V) (v u:Value) (Q:VK),Inv X pins σ H s->RelV x v->RelV y u->r x y H Q ->
   wpAny (model X.prog X.w) X.A (f v u) (EP X pins σ Q) X.xe s
def UnR (X:Cx)(f:Value->Sem Value)(r:V->Hp->VK->Prop):Prop :=
 ∀(pins:List (Addr×Obj)) (s:Shared) (σ:St) (H:Hp) (x:V) (v:Value) (Q:VK),Inv X pins σ H s->RelV x v->r x H Q ->
   wpAny (model X.prog X.w) X.A (f v) (EP X pins σ Q) X.xe s
def CallR (X:Cx)(f:Value)(r:List V->Hp->VK->Prop):Prop :=
 ∀(pins:List (Addr×Obj)) (s:Shared) (σ:St) (H:Hp) (xs:List V) (us:List Value) (Q:VK),Inv X pins σ H s->Vals xs us->r xs H Q ->
   wpAny (model X.prog X.w) X.A (call f us) (EP X pins σ Q) X.xe s
def tOp (r:R2)(ta tb:TE):TE:=fun σ H Q=>ta σ H fun x H1=>tb σ H1 fun y H2=>r x y H2 Q
def tUn (r:V->Hp->VK->Prop)(ta:TE):TE:=fun σ H Q=>ta σ H fun x H1=>r x H1 Q
def rI (C:Int->Int->Prop)(g:Int->Int->V):R2:=fun x y H Q=>∃i j,x = .int i/\y = .int j/\C i j/\Q (g i j) H
def rI0 (g:Int->Int->V):R2:=fun x y H Q=>∃i j,x = .int i/\y = .int j/\Q (g i j) H
def rU (g:Int->V):V->Hp->VK->Prop:=fun x H Q=>∃i,x = .int i/\Q (g i) H
section
variable {X:Cx} {a b:Expr} {ta tb:TE} {pos:Pos}
theorem zOs (ha:PE X a ta)(hb:PE X b tb){pins:List (Addr×Obj)}{s:Shared}{σ:St}{H:Hp}{R:V->V->Hp->Prop}(I:Inv X pins σ H s)
   (h:ta σ H fun x H1=>tb σ H1 fun y H2=>R x y H2) {Q:Value->Shared->Prop} {f:Value->Value->Sem Value}
   (hf:∀v u s2 x y H2,Inv X pins σ H2 s2->RelV x v->RelV y u->R x y H2->wpAny (model X.prog X.w) X.A (f v u) Q X.xe s2) :
   wpAny (model X.prog X.w) X.A (eval a X.env) (fun v s₁=>wpAny (model X.prog X.w) X.A (eval b X.env) (fun u s₂=>wpAny (model X.prog X.w) X.A (f v u) Q X.xe s₂) X.xe s₁) X.xe s:=by
 refine thn (ha pins s σ H _ I h) fun v s1 ⟨x,H1,I1,r1,q1⟩=>?_
 refine thn (hb pins s1 σ H1 _ I1 q1) fun u s2 ⟨y,H2,I2,r2,q2⟩=>?_
 exact hf v u s2 x y H2 I2 r1 r2 q2
theorem aG {op:Operator}{r:R2}(ho:OpR X (binaryOp op) r)(ha:PE X a ta)(hb:PE X b tb):PE X (.BinOp a op b pos) (tOp r ta tb):=by
 intro pins s σ H Q I h
 exact wpAny_BinOp (zOs ha hb I h fun v u s2 x y H2 I2 rx ry q=>ho pins s2 σ H2 x y v u Q I2 rx ry q)
theorem zNs {op:UnaryOp}{r:V->Hp->VK->Prop}(ho:UnR X (unaryOp op) r)(ha:PE X a ta):PE X (.UnaryOp op a pos) (tUn r ta):=by
 intro pins s σ H Q I h
 exact UnaryOp_ (thn (ha pins s σ H _ I h) fun v s1 ⟨x,H1,I1,r1,q1⟩=>ho pins s1 σ H1 x v Q I1 r1 q1)
theorem opI {f:Value->Value->Sem Value}{C:Int->Int->Prop}{g:Int->Int->Int}
   (rule:∀(i j:Int) (t u:Tok) (s:Shared) (Q:Value->Shared->Prop) (E:Value->Shared->Prop),C i j->Q (.int (g i j) s.toks) { s with toks:=s.toks+1 }->wpAny (model X.prog X.w) X.A (f (.int i t) (.int j u)) Q E s) :
   OpR X f (rI C fun i j=>.int (g i j)):=by
 intro pins s σ H x y v u Q I rx ry h
 obtain⟨i,j,rfl,rfl,hc,q⟩:=h
 obtain⟨t,rfl⟩:=rx
 obtain⟨t',rfl⟩:=ry
 exact rule i j t t' s _ _ hc ⟨.int (g i j),H,I.tok _,⟨_,rfl⟩,q⟩
theorem zPz {f:Value->Value->Sem Value}{g:Int->Int->Int}
   (rule:∀(i j:Int) (t u:Tok) (s:Shared) (Q:Value->Shared->Prop) (E:Value->Shared->Prop),Q (.int (g i j) s.toks) { s with toks:=s.toks+1 }->wpAny (model X.prog X.w) X.A (f (.int i t) (.int j u)) Q E s) :
   OpR X f (rI0 fun i j=>.int (g i j)):=by
 intro pins s σ H x y v u Q I rx ry h
 obtain⟨i,j,rfl,rfl,q⟩:=h
 obtain⟨t,rfl⟩:=rx
 obtain⟨t',rfl⟩:=ry
 exact rule i j t t' s _ _ ⟨.int (g i j),H,I.tok _,⟨_,rfl⟩,q⟩
theorem zQI {f:Value->Value->Sem Value}{g:Int->Int->Bool}
   (rule:∀(i j:Int) (t u:Tok) (s:Shared) (Q:Value->Shared->Prop) (E:Value->Shared->Prop),Q (.bool (g i j)) s->wpAny (model X.prog X.w) X.A (f (.int i t) (.int j u)) Q E s) :
   OpR X f (rI0 fun i j=>.bl (g i j)):=by
 intro pins s σ H x y v u Q I rx ry h
 obtain⟨i,j,rfl,rfl,q⟩:=h
 obtain⟨t,rfl⟩:=rx
 obtain⟨t',rfl⟩:=ry
 exact rule i j t t' s _ _ ⟨.bl (g i j),H,I,rfl,q⟩
def zMM (i j:Int):Prop:=0 < j/\j < 1073741824
def CMul (i j:Int):Prop:=(-(2^64) < i/\i < 2^64)∨(-(2^64) < j/\j < 2^64)
theorem CMul.ok {i j:Int}(h:CMul i j):IntMulOk i j:=by
 rcases h with⟨h1,h2⟩ | ⟨h1,h2⟩
 · exact .of_left (intBits_le_64 h1 h2)
 · exact .of_right (intBits_le_64 h1 h2)
theorem zRZ:OpR X (binaryOp .Add) (rI0 fun i j=>.int (i+j)):=zPz fun _ _ _ _ _ _ _ q=>add_int q
theorem zOA:OpR X (binaryOp .Sub) (rI0 fun i j=>.int (i - j)):=zPz fun _ _ _ _ _ _ _ q=>sub_int q
theorem zPs:OpR X (binaryOp .Mult) (rI CMul fun i j=>.int (i*j)):=opI fun _ _ _ _ _ _ _ hc q=>mul_int q hc.ok
theorem zQu:OpR X (binaryOp .FloorDiv) (rI zMM fun i j=>.int (i / j)):=opI fun i j _ _ _ _ _ hc q=>by
 have h1:(0:Int) < j:=hc.1
 have h2:j < 1073741824:=hc.2
 exact floordiv_int (by omega) (by rw[Int.fdiv_eq_ediv_of_nonneg i (by omega)];exact q) (.inl (PyProof.noPylong_small (by omega)))
theorem zOH:OpR X (binaryOp .Mod) (rI (fun _ j=>0 < j) fun i j=>.int (i % j)):=opI fun i j _ _ _ _ _ hc q=>by
 have h1:(0:Int) < j:=hc
 exact mod_int' (by omega) (by rw[Int.fmod_eq_emod_of_nonneg i (by omega)];exact q)
theorem zOD:OpR X (binaryOp .BitXor) (rI0 fun i j=>.int (Builtin.bitXor i j)):=zPz fun _ _ _ _ _ _ _ q=>xor_int q
theorem unI {f:Value->Sem Value}{g:Int->Int}
   (rule:∀(i:Int) (t:Tok) (s:Shared) (Q:Value->Shared->Prop) (E:Value->Shared->Prop),Q (.int (g i) s.toks) { s with toks:=s.toks+1 }->wpAny (model X.prog X.w) X.A (f (.int i t)) Q E s) :
   UnR X f (rU fun i=>.int (g i)):=by
 intro pins s σ H x v Q I rx h
 obtain⟨i,rfl,q⟩:=h
 obtain⟨t,rfl⟩:=rx
 exact rule i t s _ _ ⟨.int (g i),H,I.tok _,⟨_,rfl⟩,q⟩
theorem zOG:UnR X (unaryOp .USub) (rU fun i=>.int (-i)):=unI fun _ _ _ _ _ q=>neg_int q
def zOq:V->V->Bool
 | .non,.non=>true | .non,.int _=>true | .int _,.non=>true | .non,.bl _=>true | .bl _,.non=>true | .non,.str _=>true | .str _,.non=>true
 | .int _,.int _=>true | .bl _,.bl _=>true | .str _,.str _=>true | .byt _,.byt _=>true
 | .int _,.str _=>true | .str _,.int _=>true | .bl _,.str _=>true | .str _,.bl _=>true
 | _,_=>false
def rEq:R2:=fun x y H Q=>zOq x y=true/\Q (.bl (decide (x=y))) H
def rNe:R2:=fun x y H Q=>zOq x y=true/\Q (.bl (!decide (x=y))) H
theorem zUg {i j:Int}:decide (V.int i=V.int j)=(i==j):=by
 rw[Tj]
 simp
theorem zX0 {i j:Bool}:decide (V.bl i=V.bl j)=(i==j):=by
 rw[Tj]
 simp
theorem zUE {i j:Str}:decide (V.str i=V.str j)=(i==j):=by
 rw[Tj]
 simp
theorem zUn {i j:Array UInt8}:decide (V.byt i=V.byt j)=(i.toList==j.toList):=by
 rw[Tj]
 cases i
 cases j
 simp
variable {c:Expr} {tc:TE}
theorem yF {pins:List (Addr×Obj)}{σ:St}{H:Hp}{s:Shared}{Q:VK}{k k':Bool}(I:Inv X pins σ H s)(q:Q (.bl k) H)(e:k=k'):EP X pins σ Q (.bool k') s:=by
 subst e
 exact⟨.bl k,H,I,rfl,q⟩
theorem zNy:OpR X (compareOp .Eq) rEq:=by
 intro pins s σ H x y v u Q I rx ry h
 obtain⟨hs,q⟩:=h
 cases x with
 | non =>
   cases rx
   cases y with
   | non=>cases ry;exact PySem.EqNone.eq_none_none (yF I q (by simp))
   | bl j=>cases ry;exact PySem.EqNone.eq_none_bool (yF I q (by simp))
   | int j=>obtain⟨t',rfl⟩:=ry;exact PySem.EqNone.eq_none_int (yF I q (by simp))
   | str j=>obtain⟨t',rfl⟩:=ry;exact PySem.EqNone.eq_none_str (yF I q (by simp))
   | _=>exact absurd (show false=true from hs) Qk
 | bl i =>
   cases rx
   cases y with
   | non=>cases ry;exact PySem.EqNone.eq_bool_none (yF I q (by simp))
   | bl j=>cases ry;exact eq_bool (yF I q zX0)
   | str j=>obtain⟨t',rfl⟩:=ry;exact PySem.EqMixed.eq_bool_str (yF I q (by simp))
   | _=>exact absurd (show false=true from hs) Qk
 | int i =>
   obtain⟨t,rfl⟩:=rx
   cases y with
   | non=>cases ry;exact PySem.EqNone.eq_int_none (yF I q (by simp))
   | int j=>obtain⟨t',rfl⟩:=ry;exact eq_int (yF I q zUg)
   | str j=>obtain⟨t',rfl⟩:=ry;exact PySem.EqMixed.eq_int_str (yF I q (by simp))
   | _=>exact absurd (show false=true from hs) Qk
 | str i =>
   obtain⟨t,rfl⟩:=rx
   cases y with
   | non=>cases ry;exact PySem.EqNone.eq_str_none (yF I q (by simp))
   | bl j=>cases ry;exact PySem.EqMixed.eq_str_bool (yF I q (by simp))
   | int j=>obtain⟨t',rfl⟩:=ry;exact PySem.EqMixed.eq_str_int (yF I q (by simp))
   | str j=>obtain⟨t',rfl⟩:=ry;exact eq_str (yF I q zUE)
   | _=>exact absurd (show false=true from hs) Qk
 | byt i =>
   obtain⟨t,rfl⟩:=rx
   cases y with
   | byt j=>obtain⟨t',rfl⟩:=ry;exact PySem.W.eq_bytes (yF I q zUn)
   | _=>exact absurd (show false=true from hs) Qk
 | _=>cases y<;>exact absurd (show false=true from hs) Qk
theorem zNj:OpR X (compareOp .NotEq) rNe:=by
 intro pins s σ H x y v u Q I rx ry h
 obtain⟨hs,q⟩:=h
 cases x with
 | non =>
   cases rx
   cases y with
   | non=>cases ry;exact PySem.EqNone.ne_none_none (yF I q (by simp))
   | bl j=>cases ry;exact PySem.EqNone.ne_none_bool (yF I q (by simp))
   | int j=>obtain⟨t',rfl⟩:=ry;exact PySem.EqNone.ne_none_int (yF I q (by simp))
   | str j=>obtain⟨t',rfl⟩:=ry;exact PySem.EqNone.ne_none_str (yF I q (by simp))
   | _=>exact absurd (show false=true from hs) Qk
 | bl i =>
   cases rx
   cases y with
   | non=>cases ry;exact PySem.EqNone.ne_bool_none (yF I q (by simp))
   | bl j=>cases ry;exact ne_bool (yF I q (Ec not zX0))
   | str j=>obtain⟨t',rfl⟩:=ry;exact PySem.EqMixed.ne_bool_str (yF I q (by simp))
   | _=>exact absurd (show false=true from hs) Qk
 | int i =>
   obtain⟨t,rfl⟩:=rx
   cases y with
   | non=>cases ry;exact PySem.EqNone.ne_int_none (yF I q (by simp))
   | int j=>obtain⟨t',rfl⟩:=ry;exact ne_int (yF I q (Ec not zUg))
   | str j=>obtain⟨t',rfl⟩:=ry;exact PySem.EqMixed.ne_int_str (yF I q (by simp))
   | _=>exact absurd (show false=true from hs) Qk
 | str i =>
   obtain⟨t,rfl⟩:=rx
   cases y with
   | non=>cases ry;exact PySem.EqNone.ne_str_none (yF I q (by simp))
   | bl j=>cases ry;exact PySem.EqMixed.ne_str_bool (yF I q (by simp))
   | int j=>obtain⟨t',rfl⟩:=ry;exact PySem.EqMixed.ne_str_int (yF I q (by simp))
   | str j=>obtain⟨t',rfl⟩:=ry;exact ne_str (yF I q (Ec not zUE))
   | _=>exact absurd (show false=true from hs) Qk
 | byt i =>
   obtain⟨t,rfl⟩:=rx
   cases y with
   | byt j=>obtain⟨t',rfl⟩:=ry;exact PySem.W.ne_bytes (yF I q (Ec not zUn))
   | _=>exact absurd (show false=true from hs) Qk
 | _=>cases y<;>exact absurd (show false=true from hs) Qk
theorem zNv:OpR X (compareOp .Lt) (rI0 fun i j=>.bl (decide (i < j))):=zQI fun _ _ _ _ _ _ _ q=>lt_int q
theorem zNR:OpR X (compareOp .LtE) (rI0 fun i j=>.bl (decide (i<=j))):=zQI fun _ _ _ _ _ _ _ q=>le_int q
theorem zOa:OpR X (compareOp .Gt) (rI0 fun i j=>.bl (decide (j < i))):=zQI fun _ _ _ _ _ _ _ q=>gt_int q
theorem zOd:OpR X (compareOp .GtE) (rI0 fun i j=>.bl (decide (j<=i))):=zQI fun _ _ _ _ _ _ _ q=>ge_int q
theorem zTI:OpR X (compareOp .In) (fun x y H Q=>∃i j,x = .str i/\y = .str j/\Q (.bl (!(Builtin.Str.occurrences j i 0 j.length 1).isEmpty)) H):=by
 intro pins s σ H x y v u Q I rx ry h
 obtain⟨i,j,rfl,rfl,q⟩:=h
 obtain⟨t,rfl⟩:=rx
 obtain⟨t',rfl⟩:=ry
 exact in_str (yF I q rfl)
theorem zOu:OpR X (compareOp .Is) (fun x y H Q=>y = .non/\Q (.bl (decide (x = .non))) H):=by
 intro pins s σ H x y v u Q I rx ry h
 obtain⟨rfl,q⟩:=h
 cases ry
 refine is_none_gen (yF I q ?_)
 cases x<;>first
   | (cases rx;rfl)
   | (obtain⟨t,rfl⟩:=rx;rfl)
theorem zQU:OpR X (compareOp .IsNot) (fun x y H Q=>y = .non/\Q (.bl (!decide (x = .non))) H):=by
 intro pins s σ H x y v u Q I rx ry h
 obtain⟨rfl,q⟩:=h
 cases ry
 refine isnot_none_gen (yF I q ?_)
 cases x<;>first
   | (cases rx;rfl)
   | (obtain⟨t,rfl⟩:=rx;rfl)
theorem OpR.or {f:Value->Value->Sem Value}{r r':R2}(h:OpR X f r)(h':OpR X f r'):OpR X f (fun x y H Q=>r x y H Q∨r' x y H Q):=by
 intro pins s σ H x y v u Q I rx ry q
 rcases q with q | q
 · exact h pins s σ H x y v u Q I rx ry q
 · exact h' pins s σ H x y v u Q I rx ry q
theorem zZ3 (b:Expr){op:CmpOp}(h:op ≠ .In:=by decide)(h2:op ≠ .NotIn:=by decide):behindInMarks op b=false:=by
 have e1:(op==CmpOp.In)=false:=by cases op<;>first | rfl | exact absurd rfl h
 have e2:(op==CmpOp.NotIn)=false:=by cases op<;>first | rfl | exact absurd rfl h2
 cases b<;>simp[behindInMarks,e1,e2]
theorem zRh {op:CmpOp}{r:R2}(ho:OpR X (compareOp op) r)(ha:PE X a ta)(hb:PE X b tb)(hm:behindInMarks op b=false):PE X (.Compare a [op] [b] pos) (tOp r ta tb):=by
 intro pins s σ H Q I h
 exact wpAny_Compare1 (zOs ha hb I h fun v u s2 x y H2 I2 rx ry q=>ho pins s2 σ H2 x y v u Q I2 rx ry q) hm
def zPH (t:TE):TT:=fun σ H Q=>t σ H fun x H'=>∃k,x = .bl k/\Q k H'
theorem cS {op:CmpOp}{r:R2}(ho:OpR X (compareOp op) r)(ha:PE X a ta)(hb:PE X b tb)(hm:behindInMarks op b=false):PT X (.Compare a [op] [b] pos) (zPH (tOp r ta tb)):=by
 intro pins s σ H Q I h
 refine wpAny_isTrue_Compare1 (thn (ha pins s σ H _ I h) fun v s1 ⟨x,H1,I1,r1,q1⟩=>thn (hb pins s1 σ H1 _ I1 q1) fun u s2 ⟨y,H2,I2,r2,q2⟩ =>
   thn (ho pins s2 σ H2 x y v u _ I2 r1 r2 q2) fun c s3 ⟨z,H3,I3,r3,k,e,q3⟩=>?_) hm
 subst e
 cases r3
 exact Tw ⟨H3,I3,q3⟩
def zOt (r r':R2)(ta tb tc:TE):TE:=fun σ H Q=>ta σ H fun x H1=>tb σ H1 fun y H2=>r x y H2 fun z H3=>∃k,z = .bl k /\
 (if k=true then tc σ H3 fun w' H4=>r' y w' H4 Q else Q (.bl false) H3)
theorem zRy {op op':CmpOp}{r r':R2}(ho:OpR X (compareOp op) r)(ho':OpR X (compareOp op') r')(ha:PE X a ta)(hb:PE X b tb)(hc:PE X c tc)
   (hm:lastMarks [op,op'] [b,c]=false:=by with_unfolding_all rfl):PE X (.Compare a [op,op'] [b,c] pos) (zOt r r' ta tb tc):=by
 intro pins s σ H Q I h
 refine Compare_chain (thn (ha pins s σ H _ I h) fun v s1 ⟨x,H1,I1,r1,q1⟩=>chain_link (thn (hb pins s1 σ H1 _ I1 q1) fun u s2 ⟨y,H2,I2,r2,q2⟩ =>
   thn (ho pins s2 σ H2 x y v u _ I2 r1 r2 q2) fun d s3 ⟨z,H3,I3,r3,k,e,q3⟩=>?_)) hm
 subst e
 cases r3
 refine Tw ?_
 cases k with
 | false=>exact ite_ff ⟨.bl false,H3,I3,rfl,q3⟩
 | true=>exact ite_tt (chain_last (thn (hc pins s3 σ H3 _ I3 q3) fun w' s4 ⟨z',H4,I4,r4,q4⟩=>ho' pins s4 σ H4 y z' u w' Q I4 r2 r4 q4))
theorem fV:(sizeLine:Nat) < 2^63:=by rw[Ro];decide
theorem zVl:OpR X (binaryOp .Add) (fun x y H Q=>∃i j,x = .str i/\y = .str j/\i.length+j.length<=sizeLine/\Q (.str (i++j)) H):=by
 intro pins s σ H x y v u Q I rx ry h
 obtain⟨i,j,rfl,rfl,hz,q⟩:=h
 obtain⟨t,rfl⟩:=rx
 obtain⟨t',rfl⟩:=ry
 exact add_str (fun t' tk=>⟨.str (i++j),H,I.tok _,⟨_,rfl⟩,q⟩) hz
theorem nH {x:V}{us:List Value}(r:Vals [x] us):∃u,us=[u]/\RelV x u:=by
 cases r with
 | cons r1 r2=>cases r2;exact⟨_,rfl,r1⟩
theorem zUO {x y:V}{us:List Value}(r:Vals [x,y] us):∃u w',us=[u,w']/\RelV x u/\RelV y w':=by
 cases r with
 | cons r1 r2 =>
   cases r2 with
   | cons r3 r4=>cases r4;exact⟨_,_,rfl,r1,r3⟩
theorem zT7:CallR X (.type "int") (fun xs H Q=>(∃i,xs=[.int i]/\Q (.int i) H)∨∃k,xs=[.bl k]/\Q (.int (if k then 1 else 0)) H):=by
 intro pins s σ H xs us Q I r h
 rcases h with⟨i,rfl,q⟩ | ⟨k,rfl,q⟩
 · obtain⟨u,rfl,t,rfl⟩:=nH r
   exact call_int_int ⟨.int i,H,I,⟨_,rfl⟩,q⟩
 · obtain⟨u,rfl,r1⟩:=nH r
   cases r1
   exact call_int_bool ⟨.int (if k then 1 else 0),H,I.tok _,⟨_,rfl⟩,q⟩
theorem zXP:CallR X (.type "str") (fun xs H Q=>∃i,xs=[.int i]/\i.natAbs.log2 < 1920/\Q (.str (toString i)) H):=by
 intro pins s σ H xs us Q I r h
 obtain⟨i,rfl,hz,q⟩:=h
 obtain⟨u,rfl,t,rfl⟩:=nH r
 exact PySem.P.str_of_int hz ⟨.str _,H,I.tok _,⟨_,rfl⟩,q⟩
end
structure ObjM (h:Heap)(x dx C:Addr)(mA:Str->Option Value):Prop where
 obj:h.get? x=some (PySem.W.instObj C dx)
 ns:h.Ns1 dx mA
 ne:dx≠x
theorem zT5 {h:Heap}{dx:Addr}{mA:Str->Option Value}(n:h.Ns1 dx mA):∃od,h.get? dx=some od/\∀name,PySem.W.lookIn name od=some (mA name):=by
 obtain⟨o,es,ep,ho,hd,hk,_,hm⟩:=n
 refine⟨o,ho,fun name=>?_⟩
 have e:=hm name
 unfold nsFind findBy at e
 rw[←Ux] at e
 unfold PySem.W.lookIn
 rw[hd]
 dsimp only
 split
 · rename_i y q
   rw[q] at e
   exact Ec some e
 · rename_i q
   rw[q] at e
   have a:es.toList.any (·.refKey)=false:=by
     rw[List.any_eq_false]
     intro y hy
     obtain⟨z,t,hkey⟩:=hk y (Array.mem_toList_iff.mp hy)
     simp[DictEntry.refKey,hkey]
   have a':¬es.toList.any (·.refKey)=true:=by rw[a];exact Qk
   rw[Wj a']
   exact Ec some e
theorem ObjM.look {h:Heap}{x dx C:Addr}{mA:Str->Option Value}(I:ObjM h x dx C mA):∃od,PySem.W.InstAt h x (PySem.W.instObj C dx) C (some od)/\∀name,PySem.W.lookIn name od=some (mA name) :=
 let ⟨od,ho,hl⟩:=zT5 I.ns
 ⟨od,⟨I.obj,rfl,rfl,ho⟩,hl⟩
section
variable {prog:Program} {w:World} {A:Around} {E:Value->Shared->Prop} {s:Shared} {K:PySem.W.Frag} {x dx C f:Addr} {mA:Str->Option Value} {name:Str} {v:Value}
theorem zQ2 {expr:Bool}{Q:Value->Shared->Prop}(X:K.In s.heap)(I:ObjM s.heap x dx C mA)(hg:PySem.W.plainGet K C name=true)(hh:PySem.W.hasDictIn K C=true)
   (ha:PySem.W.findIn K (.ref C) name=some none) (hv:mA name=some v) (hv':PySem.W.handedIn v=true) (h:Q v { s with toks:=s.toks+1 }) :
   wpAny (model prog w) A (getAttr (.ref x) name expr) Q E s:=by
 obtain⟨od,J,hl⟩:=I.look
 exact PySem.W.get_value X J (PySem.W.plainGet_of hg).1 (PySem.W.findObj_own hh ha rfl (by rw[hl,hv])) hv' h
theorem zPQ {ns:List Str}{Q:Unit->Shared->Prop}(X:K.In s.heap)(I:ObjM s.heap x dx C mA)
   (hs:PySem.W.findIn K (.ref C) "__setattr__"=some (some (.builtin "object.__setattr__"))) (hp:PySem.W.plainOver K C=true) (ht:PySem.W.takerIn K C name=some none) (hh:PySem.W.hasDictIn K C=true)
   (hw:PySem.Within mA ns) (hsz:ns.length<=sizeLine)
   (h:∀h',ObjM h' x dx C (fun y=>if y=name then some v else mA y)->Heap.SameBut dx s.heap h'->Q () { s with heap:=h',toks:=s.toks+2 }) :
   wpAny (model prog w) A (setAttr (.ref x) name v) Q E s:=by
 obtain⟨od,J,hl⟩:=I.look
 refine PySem.W.set_plain X J hs (PySem.W.osa_open (s:={ s with toks:=s.toks+1 }) (r:=none) X J hp ht fun b=>?_)
 obtain⟨cd,hc,hd'⟩:=PySem.W.any_some hh
 have hx:s.heap.get? x=some ⟨.ref C,some dx,.plain,#[]⟩:=I.obj
 refine Qe (Qa (Qe (Qe (Ow hx (Qe (PySem.W.Looks.here (s:={ s with toks:=s.toks+1 }) (PySem.W.looks_clsIn X hc) ?_))))))
 rw[hd']
 refine Qa (a:=some dx) (Qe (Qa (Qe ?_)))
 refine wpAny_nsSet1 (s:={ s with toks:=s.toks+1 }) I.ns fun h' hn2 hs2=>?_
 obtain⟨oD,esD,epD,hoD,hdD,hcD⟩:=hn2.count (PySem.Within.cons name v hw)
 refine Qe (Ig hoD (by rw[hdD];exact Ih (Wv hcD (by rw[Qo];omega))) ?_)
 exact Qa (h _ ⟨(hs2.2 _ (Ne.symm I.ne)).trans I.obj,hn2,I.ne⟩ hs2)
theorem zSY {R:Result->Shared->Prop}{vs:List Value}{kw:List (Str×Value)}(X:K.In s.heap)(hm:PySem.W.makesIn K C=true)
   (hi:PySem.W.findIn K (.ref C) "__init__"=some (some (.ref f))) (hf:PySem.W.typeIn K (.ref f)=some (.type "function"))
   (h:codeAny (model prog w) (A.under (.builtin "type.__call__" ⟨.ref C::vs,kw⟩)) (.call (.ref f) ⟨.ref (s.heap.objs.size+1)::vs,kw⟩) (PySem.W.InitBack (s.heap.objs.size+1) R)
     { s with heap:=(s.heap.push PySem.W.emptyDict).push (PySem.W.instObj C s.heap.objs.size) }) :
   codeAny (model prog w) A (.call (.ref C) ⟨vs,kw⟩) R s:=by
 obtain⟨hh,g,d,t,os⟩:=s
 exact PySem.W.make_core (PySem.W.makes_of X hm) (PySem.W.looks_findIn X hi) (fun self=>PySem.W.bind_fn X self hf) (.inl rfl) h
end
def nC (f:Str)(v:V):List (Str×V)->List (Str×V)
 | []=>[(f,v)]
 | (g,x)::r=>if g=f then(g,v)::r else(g,x)::nC f v r
theorem kN (f g:Str)(v:V):∀fs:List (Str×V),(nC f v fs).lookup g=if g=f then some v else fs.lookup g
 | []=>by
   show List.lookup g [(f,v)]=_
   by_cases h:g=f
   · have hb:(g==f)=true:=Eh.mpr h
     simp only[List.lookup,hb,Wr h]
   · have hb:(g==f)=false:=Wl.mpr h
     simp only[List.lookup,hb,Wj h]
 | (k,x)::r=>by
   have ih:=kN f g v r
   rw[show nC f v ((k,x)::r)=(if k=f then(k,v)::r else(k,x)::nC f v r) from rfl]
   by_cases hk:k=f
   · rw[Wr hk]
     by_cases h:g=k
     · have hb:(g==k)=true:=Eh.mpr h
       simp only[List.lookup,hb,Wr (h.trans hk)]
     · have hb:(g==k)=false:=Wl.mpr h
       simp only[List.lookup,hb,Wj (fun e:g=f=>h (e.trans hk.symm))]
   · rw[Wj hk]
     by_cases h:g=k
     · have hb:(g==k)=true:=Eh.mpr h
       simp only[List.lookup,hb,Wj (fun e:g=f=>hk (h.symm.trans e))]
     · have hb:(g==k)=false:=Wl.mpr h
       simp only[List.lookup,hb]
       exact ih
theorem eR (f:Str)(v:V):∀fs:List (Str×V),f∈(nC f v fs).map (·.1)/\∀g,g∈fs.map (·.1)->g∈(nC f v fs).map (·.1)
 | []=>⟨by simp[nC],fun g h=>by simp at h⟩
 | (k,x)::r=>by
   obtain⟨i1,i2⟩:=eR f v r
   rw[show nC f v ((k,x)::r)=(if k=f then(k,v)::r else(k,x)::nC f v r) from rfl]
   by_cases hk:k=f
   · rw[Wr hk]
     subst hk
     exact⟨by simp,fun g h=>by simpa using h⟩
   · rw[Wj hk]
     refine⟨?_,fun g h=>?_⟩
     · rw[Qx]
       exact Qi _ i1
     · rw[Qx] at h ⊢
       rcases Qf.mp h with e | e
       · exact Qf.mpr (.inl e)
       · exact Qi _ (i2 g e)
theorem dZ (f:Str)(v:V):∀fs:List (Str×V),(nC f v fs).length<=fs.length+1
 | []=>by simp[nC]
 | (k,x)::r=>by
   have ih:=dZ f v r
   rw[show nC f v ((k,x)::r)=(if k=f then(k,v)::r else(k,x)::nC f v r) from rfl]
   by_cases hk:k=f
   · rw[Wr hk,Qo,Qo];omega
   · rw[Wj hk,Qo,Qo];omega
theorem RelO.some_of {v:V}{o:Option Value}(r:RelO (some v) o):∃u,o=some u/\RelV v u:=by
 cases o with
 | none=>exact(show False from r).elim
 | some u=>exact⟨u,rfl,r⟩
theorem RelO.none_of {o:Option Value}(r:RelO none o):o=none:=by
 cases o with
 | none=>rfl
 | some u=>exact(show False from r).elim
theorem zYK {v:V}{u:Value}(r:RelV v u):PySem.W.handedIn u=true:=by
 cases v with
 | non=>cases (show u=Value.none from r);rfl
 | bl b=>cases (show u=Value.bool b from r);rfl
 | int i=>obtain⟨t,e⟩:=(show ∃t,u=Value.int i t from r);cases e;rfl
 | str x=>obtain⟨t,e⟩:=(show ∃t,u=Value.str x t from r);cases e;rfl
 | byt b=>obtain⟨t,e⟩:=(show ∃t,u=Value.bytes b t from r);cases e;rfl
 | flt b=>obtain⟨t,e⟩:=(show ∃t,u=Value.float b t from r);cases e;rfl
 | ref a=>cases (show u=Value.ref a from r);rfl
 | ty n=>cases (show u=Value.type n from r);rfl
section
variable {P:Program} {w:World} {H:Hp} {h:Heap} {a C dx:Addr} {fs:List (Str×V)}
theorem zUl (hok:HOk P w H h)(e:H a=some (.ins C dx fs)):∃mA,ObjM h a dx C mA/\(∀f,RelO (fs.lookup f) (mA f))/\PySem.Within mA (fs.map (·.1))/\fs.length<=1000/\H dx=some (.own a):=by
 obtain⟨d,z,ne,ob,mA,n,r,q⟩:=(show ObjOk P w H h a (.ins C dx fs) from hok a _ e)
 exact⟨mA,⟨ob,n,ne⟩,r,q,z,d⟩
end
structure Cls (K:PySem.W.Frag)(C:Addr):Prop where
 pg:PySem.W.plainGet K C Str.empty=true
 hd:PySem.W.hasDictIn K C=true
 po:PySem.W.plainOver K C=true
 sa:PySem.W.findIn K (.ref C) "__setattr__"=some (some (.builtin "object.__setattr__"))
theorem Cls.get {K:PySem.W.Frag}{C:Addr}(c:Cls K C)(f:Str):PySem.W.plainGet K C f=true:=c.pg
def NoAttr (K:PySem.W.Frag)(C:Addr)(f:Str):Prop:=PySem.W.findIn K (.ref C) f=some none
theorem NoAttr.taker {K:PySem.W.Frag}{C:Addr}{f:Str}(n:NoAttr K C f):PySem.W.takerIn K C f=some none:=by
 unfold PySem.W.takerIn
 rw[show PySem.W.findIn K (.ref C) f=some none from n]
 rfl
structure Con (K:PySem.W.Frag)(C:Addr)(f:Str)(v:V)(u:Value):Prop where
 at_:PySem.W.findIn K (.ref C) f=some (some u)
 rel:RelV v u
 get:PySem.W.specialIn K u "__get__"=some none
 cp:PySem.W.copiedNames.contains f=false
structure Meth (K:PySem.W.Frag)(C:Addr)(m:Str)(f:Addr):Prop where
 at_:PySem.W.findIn K (.ref C) m=some (some (.ref f))
 fn:PySem.W.isFn K (.ref f)=true
 kp:PySem.W.keepIn K (.ref f)=true
section
variable {X:Cx} {pins:List (Addr×Obj)} {σ:St} {H:Hp} {s:Shared} {a C dx:Addr} {fs:List (Str×V)} {f:Str} {v:V} {A:Around} {E:Value->Shared->Prop}
theorem zWf {b:Bool}{Q:Value->Shared->Prop}(I:Inv X pins σ H s)(e:H a=some (.ins C dx fs))(c:Cls X.K C)(n:NoAttr X.K C f)(l:fs.lookup f=some v)
   (h:∀u s',Inv X pins σ H s'->RelV v u->Q u s'):wpAny (model X.prog X.w) A (getAttr (.ref a) f b) Q E s:=by
 obtain⟨mA,O,r,_,_,_⟩:=zUl I.hok e
 obtain⟨u,hu,ru⟩:=RelO.some_of (v:=v) (o:=mA f) (by rw[←l];exact r f)
 exact zQ2 I.kIn O (c.get f) c.hd n hu (zYK ru) (h u _ (I.tok _) ru)
theorem zV1 {y:V}{u:Value}{Q:Unit->Shared->Prop}(I:Inv X pins σ H s)(e:H a=some (.ins C dx fs))(c:Cls X.K C)(n:NoAttr X.K C f)(hl:fs.length < 1000)(ry:RelV y u)
   (h:∀s',Inv X pins σ (upd H a (.ins C dx (nC f y fs))) s'->Q () s'):wpAny (model X.prog X.w) A (setAttr (.ref a) f u) Q E s:=by
 obtain⟨mA,O,r,wi,_,ho⟩:=zUl I.hok e
 have hz:(fs.map (·.1)).length<=sizeLine:=by rw[Qu,Ro];omega
 refine zPQ I.kIn O c.sa c.po n.taker c.hd wi hz fun h' O' sb=>h _ ?_
 have hd:∃o,h'.get? dx=some o:=let ⟨o,_,_,e',_⟩:=O'.ns;⟨o,e'⟩
 refine I.write (x:=a) (e:=dx) (by rw[e];exact True.intro) (.inr ho) (fun b q hb z=>(sb.2 b hb).trans z) hd ?_
 refine⟨by rw[yS O.ne];exact ho,?_,O.ne,O'.obj,_,O'.ns,fun g=>?_,fun g hg=>?_⟩
 · have:=dZ f y fs;omega
 · show RelO ((nC f y fs).lookup g) (if g=f then some u else mA g)
   rw[kN]
   by_cases q:g=f
   · rw[Wr q,Wr q];exact ry
   · rw[Wj q,Wj q];exact r g
 · by_cases q:g=f
   · rw[q];exact(eR f y fs).1
   · refine(eR f y fs).2 g (wi g fun z=>hg ?_)
     show(if g=f then some u else mA g)=none
     rw[Wj q];exact z
theorem Inv.made (I:Inv X pins σ H s):Inv X pins σ (upd (upd H s.heap.objs.size (.own (s.heap.objs.size+1))) (s.heap.objs.size+1) (.ins C s.heap.objs.size []))
   { s with heap:=(s.heap.push PySem.W.emptyDict).push (PySem.W.instObj C s.heap.objs.size) }:=by
 have e1:(s.heap.push PySem.W.emptyDict).get? s.heap.objs.size=some PySem.W.emptyDict:=Qh s.heap rfl
 have e2:((s.heap.push PySem.W.emptyDict).push (PySem.W.instObj C s.heap.objs.size)).get? (s.heap.objs.size+1)=some (PySem.W.instObj C s.heap.objs.size):=by
   have:=Qh (s.heap.push PySem.W.emptyDict) (o:=PySem.W.instObj C s.heap.objs.size) rfl
   rwa[Tp] at this
 have e3:(s.heap.push PySem.W.emptyDict).Ns s.heap.objs.size (fun _=>none):=⟨PySem.W.emptyDict,#[],_,e1,rfl,(fun e he=>absurd he (by simp)),fun _=>rfl⟩
 have I1:=I.laid (a:=s.heap.objs.size) (o:=.own (s.heap.objs.size+1)) (h':=s.heap.push PySem.W.emptyDict) (t':=s.toks) (fun b u q=>Qr _ q) (Ql _) ⟨_,e1⟩
 refine I1.laid (a:=s.heap.objs.size+1) (o:=.ins C s.heap.objs.size []) (t':=s.toks) (fun b u q=>Qr _ q) (Nat.le_of_eq (Tp _ _)) ?_
 have ne:s.heap.objs.size≠s.heap.objs.size+1:=Wy (Ij _)
 refine⟨by rw[yS ne,zN],Tb _,ne,e2,fun _=>none,(Heap.Ns1.of_empty e3).at fun o q=>Qr _ q,fun _=>True.intro,fun y hy=>absurd rfl hy⟩
theorem zUq {prog:Program}{w:World}{env:Env}{e:Expr}{f:Str}{pos:Pos}{s:Shared}{Q:Value->Shared->Prop}(hb:attributeBase e f env (eval e env)=eval e env)
   (h:wpAny (model prog w) A (eval e env) (fun o s₁=>wpAny (model prog w) A (getAttr o f true) Q E s₁) E s):wpAny (model prog w) A (eval (.Attribute e f pos) env) Q E s :=
 Attribute_any_ h (by rw[arm_eval_Attribute,hb])
end
def zMH (K:PySem.W.Frag)(ta:TE)(f:Str):TE:=fun σ H Q=>ta σ H fun x H1=>∃a C dx fs v,x = .ref a/\H1 a=some (.ins C dx fs)/\Cls K C/\NoAttr K C f/\fs.lookup f=some v/\Q v H1
def zM9 (K:PySem.W.Frag)(ta tv:TE)(f:Str):TS:=fun D σ H=>tv σ H fun y H1=>ta σ H1 fun x H2=>∃a C dx fs,x = .ref a/\H2 a=some (.ins C dx fs)/\Cls K C/\NoAttr K C f/\fs.length < 1000 /\
 D.nx σ (upd H2 a (.ins C dx (nC f y fs)))
section
variable {X:Cx} {o e value:Expr} {f:Str} {pos pos':Pos} {ta tv:TE}
theorem zO3 (he:PE X e ta)(hb:attributeBase e f X.env (eval e X.env)=eval e X.env):PE X (.Attribute e f pos) (zMH X.K ta f):=by
 intro pins s σ H Q I h
 refine zUq hb (thn (he pins s σ H _ I h) fun u s1 ⟨x,H1,I1,rx,a,C,dx,fs,v,ex,ea,c,n,l,q⟩=>?_)
 subst ex
 obtain rfl:u=Value.ref a:=rx
 exact zWf I1 ea c n l fun u' s2 I2 ru=>⟨v,H1,I2,ru,q⟩
theorem zPa (ha:PE X o ta)(hv:PE X value tv)(hs:swapsWith value (some (.Attribute o f pos')) pos.line X.env=pure false):PS X (.Assign [.Attribute o f pos'] value pos) (zM9 X.K ta tv f):=by
 intro pins s σ H D I h
 refine Iq (thn (hv pins s σ H _ I h) fun u s1 ⟨y,H1,I1,ry,q⟩=>thn (ha pins s1 σ H1 _ I1 q) fun ov s2 ⟨x,H2,I2,rx,a,C,dx,fs,ex,ea,c,n,l,q2⟩=>?_) hs
 subst ex
 obtain rfl:ov=Value.ref a:=rx
 exact zV1 I2 ea c n l ry fun s3 I3=>⟨σ,_,I3,q2⟩
variable {H:Hp}
inductive TyOf (K:PySem.W.Frag)(H:Hp):V->Value->Prop where
 | non:TyOf K H .non (.type "NoneType")
 | bl (x:Bool):TyOf K H (.bl x) (.type "bool")
 | int (i:Int):TyOf K H (.int i) (.type "int")
 | str (x:Str):TyOf K H (.str x) (.type "str")
 | flt (x:UInt64):TyOf K H (.flt x) (.type "float")
 | lst {a:Addr} {xs:List V} (e:H a=some (.lst xs)):TyOf K H (.ref a) (.type "list")
 | frz {a:Addr} {o:Obj} {xs:List V} (e:H a=some (.frz o (.lst xs))):TyOf K H (.ref a) (.type "list")
 | tup {a:Addr} {xs:List V} (e:H a=some (.tup xs)):TyOf K H (.ref a) (.type "tuple")
 | dK {a:Addr} {kvs:List (Key×V)} (e:H a=some (.dK kvs)):TyOf K H (.ref a) (.type "dict")
 | dT {a:Addr} {kvs:List (List Key×V)} (e:H a=some (.dT kvs)):TyOf K H (.ref a) (.type "dict")
 | ins {a C dx:Addr} {fs:List (Str×V)} (e:H a=some (.ins C dx fs)) (cl:Cls K C) (ha:PySem.W.findIn K (.ref C) "__class__"=some (some (.builtin "object.__class__")))
     (hn:PySem.W.specialIn K (.builtin "object.__class__") "__get__"=some (some (.builtin "getset_descriptor.__get__"))) (htk:PySem.W.takesIn K (.builtin "object.__class__")=some true)
     (hm:PySem.W.mroIn K C (.type "object")=some true):TyOf K H (.ref a) (.ref C)
end
structure Room (k:Nat)(A:Around):Prop where
 hd:A.handled=none
 dp:A.depth+3*k+5 < recursionLimit
 un:A.units+16*k+200 < cLine
theorem Room.mono {j k:Nat}{A:Around}(r:Room k A)(h:j<=k):Room j A:=⟨r.hd,by have:=r.dp;omega,by have:=r.un;omega⟩
theorem Room.deeper {k:Nat}{A:Around}(r:Room (k+1) A)(env:Env):Room k (A.deeper env) :=
 ⟨r.hd,by have:=r.dp;show A.depth+1+3*k+5 < _;omega,by have:=r.un;show A.units+3+16*k+200 < _;omega⟩
theorem zVx {A:Around}{C:Addr}{us:List Value}{kw:List (Str×Value)}:(A.under (.builtin "type.__call__" ⟨.ref C::us,kw⟩)).depth=A.depth+1:=by
 first | rfl | simp[Around.under,Code.weight,Code.isCreation,Code.isGuard,Code.isCaller,Code.frames,Code.isFrame,guardIds]
theorem zVA {A:Around}{C:Addr}{us:List Value}{kw:List (Str×Value)}:(A.under (.builtin "type.__call__" ⟨.ref C::us,kw⟩)).units=A.units+1:=by
 first | rfl | simp[Around.under,Code.cUnits,Code.frames,Code.isFrame]
theorem Room.make {k:Nat}{A:Around}(r:Room (k+1) A)(C:Addr)(us:List Value)(kw:List (Str×Value)):Room k (A.under (.builtin "type.__call__" ⟨.ref C::us,kw⟩)) :=
 ⟨r.hd,by have:=r.dp;rw[zVx];omega,by have:=r.un;rw[zVA];omega⟩
theorem Room.depth {k:Nat}{A:Around}(r:Room k A):A.depth < recursionLimit:=by have:=r.dp;omega
theorem Room.units {k:Nat}{A:Around}(r:Room k A):A.units+64 < cLine:=by have:=r.un;omega
theorem Room.units0 {k:Nat}{A:Around}(r:Room k A):A.units < cLine:=by have:=r.un;omega
def zWt:TA:=fun _ H Q=>Q [] H
def jH (ta:TE)(tr:TA):TA:=fun σ H Q=>ta σ H fun x H1=>tr σ H1 fun xs H2=>Q (x::xs) H2
section
variable {X:Cx} {e:Expr} {es:List Expr} {te:TE} {t:TA} {pos:Pos}
theorem yJ:PA X [] zWt:=fun _ _ _ _ H Q I h=>Yq ⟨[],H,I,.nil,h⟩
theorem zC (ha:PE X e te)(hr:PA X es t)(hs:starEach (e::es) X.env=(false,eval e X.env)::starEach es X.env:=by rfl):PA X (e::es) (jH te t):=by
 intro pos pins s σ H Q I h
 rw[hs]
 show wpAny _ _ (spliced ((false,eval e X.env)::backTo pos (starEach es X.env))) _ _ s
 refine Ev (thn (ha pins s σ H _ I h) fun u s1 ⟨x,H1,I1,r1,q1⟩=>?_)
 exact thn (hr pos pins s1 σ H1 _ I1 q1) fun us s2 ⟨xs,H2,I2,r2,q2⟩=>⟨x::xs,H2,I2,.cons r1 r2,q2⟩
def zM6 (t:TA):TE:=fun σ H Q=>t σ H fun xs H1=>xs.length<=sizeLine/\∀p,H1 p=none->Q (.ref p) (upd H1 p (.tup xs))
def zNE (t:TA):TE:=fun σ H Q=>t σ H fun xs H1=>xs.length<=sizeLine/\∀p,H1 p=none->Q (.ref p) (upd H1 p (.lst xs))
theorem zRM {x1}(h:PA X es t):PE X (.Tuple es x1 pos) (zM6 t):=by
 intro pins s σ H Q I hq
 refine wpAny_Tuple_spliced (thn (h pos pins s σ H _ I hq) fun us s1 ⟨xs,H1,I1,r,z,q⟩=>⟨by rw[←r.length];exact z,?_⟩)
 have hf:H1 s1.heap.objs.size=none:=I1.hok.fresh (Ql _)
 refine⟨.ref s1.heap.objs.size,upd H1 s1.heap.objs.size (.tup xs),I1.laid (t':=s1.toks) (fun b u e=>Qr _ e) (Ql _) ?_,rfl,q _ hf⟩
 exact⟨z,us,r,⟨_,Qh _ rfl,rfl,_,rfl⟩⟩
theorem zRG (h:PA X es t):PE X (.List es pos) (zNE t):=by
 intro pins s σ H Q I hq
 refine wpAny_List_spliced (thn (h pos pins s σ H _ I hq) fun us s1 ⟨xs,H1,I1,r,z,q⟩=>⟨by rw[←r.length];exact z,?_⟩)
 have hf:H1 s1.heap.objs.size=none:=I1.hok.fresh (Ql _)
 refine⟨.ref s1.heap.objs.size,upd H1 s1.heap.objs.size (.lst xs),I1.laid (t':=s1.toks) (fun b u e=>Qr _ e) (Ql _) ?_,rfl,q _ hf⟩
 exact⟨z,us,0,r,Qh _ rfl⟩
end
abbrev Sp:=List V->Hp->VK->XK->Prop
abbrev CXT:=List Env->Hp->Shared->XK->Value->Shared->Prop
structure Env0 (P:Program)(w:World)(K:PySem.W.Frag)(mg:Str->Option Value)(base:Heap)(A:Around)(outer:List Env)(s:Shared)(H:Hp):Prop where
 frames:A.frames=some outer
 mod:Mod K mg base
 bs:∀b o,base.get? b=some o->s.heap.get? b=some o/\H b=none
 bsz:base.objs.size<=s.heap.objs.size
 funs:s.heap.FunFrames base outer
 frf:∀b∈frs outer,H b=none
 hok:HOk P w H s.heap
 bare:AllBare s.gens
def CE (outer:List Env)(P:Program)(w:World)(H:Hp)(s:Shared)(Q:VK)(u:Value)(s':Shared):Prop :=
 ∃v H',s'.os=s.os/\AllBare s'.gens/\Un (frs outer) [] H H' s.heap s'.heap/\HOk P w H' s'.heap/\RelV v u/\Q v H'
def CR (CX:CXT)(outer:List Env)(P:Program)(w:World)(H:Hp)(s:Shared)(Q:VK)(E:XK)(r:Result)(s':Shared):Prop :=
 match r with
 | .ok (.ret u)=>CE outer P w H s Q u s'
 | .ok _=>False
 | .error e=>CX outer H s E e s'
structure FnOk (P:Program)(w:World)(K:PySem.W.Frag)(mg:Str->Option Value)(base:Heap)(CX:CXT)(k:Nat)(f:Addr)(fd:FuncData)(ps:List Str)(sp:Sp):Prop where
 len:∀vs H Q E,sp vs H Q E->vs.length=ps.length
 run:∀(A:Around) (outer:List Env) (s:Shared) (H:Hp) (args:Args) (us:List Value) (vs:List V) (Q:VK) (E:XK),Room k A->Env0 P w K mg base A outer s H->BindsTo s fd args (ps.zip us)->Vals vs us->sp vs H Q E ->
   codeAny (model P w) A (.call (.ref f) args) (CR CX outer P w H s Q E) s
theorem Env0.make {P:Program}{w:World}{K:PySem.W.Frag}{mg:Str->Option Value}{base:Heap}{A:Around}{outer:List Env}{s:Shared}{H:Hp}(e:Env0 P w K mg base A outer s H)(C:Addr)(us:List Value)(kw:List (Str×Value)) :
   Env0 P w K mg base (A.under (.builtin "type.__call__" ⟨.ref C::us,kw⟩)) outer s H:=⟨by first | exact e.frames | (simpa [Around.under,Code.envs,Code.isFrame,pushEnvs] using e.frames),e.mod,e.bs,e.bsz,e.funs,e.frf,e.hok,e.bare⟩
section
variable {X:Cx} {pins:List (Addr×Obj)} {σ:St} {H:Hp} {s s':Shared}
theorem Inv.env0 (I:Inv X pins σ H s):Env0 X.prog X.w X.K X.mg X.base X.A X.stack s H :=
 ⟨I.ok.frames,I.ok.mod,I.bs,Wv I.ok.bsz I.sz,I.stack,I.stkFree,I.hok,I.bare⟩
theorem Inv.after {Q:VK}{u:Value}(I:Inv X pins σ H s)(h:CE X.stack X.prog X.w H s Q u s'):EP X pins σ Q u s':=by
 obtain⟨v,H',os,bare,un,hok,r,q⟩:=h
 obtain⟨hh,g,d,t,os'⟩:=s'
 obtain rfl:os'=s.os:=os
 exact⟨v,H',I.call (h':=hh) (g':=g) (d':=d) (t':=t) (ch:=[]) un hok bare (fun b z=>absurd z (by simp)),r,q⟩
end
def zNu (sp:Sp)(dvs:List V)(E:XK)(t:TA):TE:=fun σ H Q=>t σ H fun vs H1=>sp (vs++dvs) H1 Q E
def zNm (C:Addr)(sp:Sp)(dvs:List V)(E:XK)(t:TA):TE:=fun σ H Q=>t σ H fun vs H1=>∀x dx,H1 x=none->H1 dx=none->dx≠x ->
 sp (.ref x::(vs++dvs)) (upd (upd H1 dx (.own x)) x (.ins C dx [])) (fun v H2=>v = .non/\Q (.ref x) H2) E
def Binds (K:PySem.W.Frag)(fd:FuncData)(ps:List Str)(ds:List Value):Prop :=
 ∀(s:Shared) (us:List Value),K.In s.heap->(us++ds).length=ps.length->BindsTo s fd ⟨us,[]⟩ (ps.zip (us++ds))
theorem Binds.all {K:PySem.W.Frag}{fd:FuncData}{ps:List Str}(h:∀us:List Value,us.length=ps.length->bindArgs fd ⟨us,[]⟩=pure (ps.zip us)):Binds K fd ps []:=fun s us _ hl=>by
 rw[Qb] at hl ⊢
 exact .of_eq (h us hl)
def qU (CX:CXT)(X:Cx)(E:XK):Prop:=∀(pins:List (Addr×Obj)) (σ:St) (H:Hp) (s:Shared) (e:Value) (s':Shared),Inv X pins σ H s->CX X.stack H s E e s'->X.xe e s'
section
variable {X:Cx} {CX:CXT} {k:Nat} {f C:Addr} {fd:FuncData} {ps:List Str} {sp:Sp} {dvs:List V} {ds:List Value} {E:XK} {x:Str} {p pos:Pos} {e:Expr} {es:List Expr} {t:TA}
theorem zOK {pins:List (Addr×Obj)}{σ:St}{H:Hp}{s:Shared}{Q:VK}{us:List Value}{vs:List V}(F:FnOk X.prog X.w X.K X.mg X.base CX k f fd ps sp)(hr:Room k X.A)(hb:Binds X.K fd ps ds)(hd:Vals dvs ds)(hx:qU CX X E)
   (I:Inv X pins σ H s) (r:Vals vs us) (h:sp (vs++dvs) H Q E):wpAny (model X.prog X.w) X.A (call (.ref f) us) (EP X pins σ Q) X.xe s:=by
 have r2:Vals (vs++dvs) (us++ds):=r.append hd
 have hl:(us++ds).length=ps.length:=by rw[←r2.length];exact F.len _ _ _ _ h
 refine Iw (Yl (F.run X.A X.stack s H ⟨us,[]⟩ (us++ds) (vs++dvs) Q E hr I.env0 (hb s us I.kIn hl) r2 h) fun r s' hq=>?_)
 cases r with
 | error e=>exact hx pins σ H s e s' I hq
 | ok fl =>
   cases fl with
   | ret u=>exact I.after hq
   | next=>exact False.elim hq
   | brk=>exact False.elim hq
   | cont=>exact False.elim hq
theorem gH (F:FnOk X.prog X.w X.K X.mg X.base CX k f fd ps sp)(hr:Room k X.A)(hg:Gl X x)(hm:X.mg x=some (.ref f))(hk:PySem.W.keepIn X.K (.ref f)=true)(hb:Binds X.K fd ps ds)(hd:Vals dvs ds)(hx:qU CX X E)
   (ha:PA X (e::es) t) (hdb:(x==("__debug__":Str))=false:=by decide) (he:starEach (e::es) X.env=(false,eval e X.env)::starEach es X.env:=by rfl) (hpl:(backTo pos (starEach es X.env)).any (·.1)=false:=by rfl) :
   PE X (.Call (.Name x p) (e::es) [] pos) (zNu sp dvs E t):=by
 intro pins s σ H Q I h
 refine Rl (kH I hg hm ?_ hdb)
 refine Yz (h₀:=X.base) I.ok.mod.kin hk (thn (ha pos pins s σ H _ I h) fun us s1 ⟨vs,H1,I1,r,q⟩=>⟨I1.kIn,?_⟩) he hpl
 exact zOK F hr hb hd hx I1 r q
structure Mk (K:PySem.W.Frag)(C f:Addr):Prop where
 makes:PySem.W.makesIn K C=true
 init:PySem.W.findIn K (.ref C) "__init__"=some (some (.ref f))
 fn:PySem.W.isFn K (.ref f)=true
 kp:PySem.W.keepIn K (.ref C)=true
theorem zRB {pins:List (Addr×Obj)}{σ:St}{H:Hp}{s:Shared}{Q:VK}{us:List Value}{vs:List V}(M:Mk X.K C f)(F:FnOk X.prog X.w X.K X.mg X.base CX k f fd ps sp)(hr:Room (k+1) X.A)(hb:Binds X.K fd ps ds)(hd:Vals dvs ds)
   (hx:qU CX X E) (I:Inv X pins σ H s) (r:Vals vs us)
   (h:∀x dx,H x=none->H dx=none->dx≠x->sp (.ref x::(vs++dvs)) (upd (upd H dx (.own x)) x (.ins C dx [])) (fun v H2=>v = .non/\Q (.ref x) H2) E) :
   wpAny (model X.prog X.w) X.A (call (.ref C) us) (EP X pins σ Q) X.xe s:=by
 have hq:=h (s.heap.objs.size+1) s.heap.objs.size (I.hok.fresh (Yw _)) (I.hok.fresh (Ql _)) (Wy (Ij _))
 have I2:=Inv.made (C:=C) I
 have r2:Vals (V.ref (s.heap.objs.size+1)::(vs++dvs)) (Value.ref (s.heap.objs.size+1)::(us++ds)):=.cons rfl (r.append hd)
 have hl:(Value.ref (s.heap.objs.size+1)::us++ds).length=ps.length:=by
   have e:=r2.length
   rw[F.len _ _ _ _ hq] at e
   exact e.symm
 refine Iw (zSY (f:=f) I.kIn M.makes M.init (Eh.mp M.fn) (Yl (F.run _ X.stack _ _ ⟨Value.ref (s.heap.objs.size+1)::us,[]⟩ (Value.ref (s.heap.objs.size+1)::(us++ds)) _ _ E (hr.make C us [])
   (I2.env0.make C us []) (hb _ (Value.ref (s.heap.objs.size+1)::us) I2.kIn hl) r2 hq) fun r s' hq'=>?_))
 cases r with
 | error e=>exact hx pins σ _ _ e s' I2 hq'
 | ok fl =>
   cases fl with
   | ret u =>
     obtain⟨v,H',I3,rv,ev,q3⟩:=I2.after hq'
     subst ev
     exact⟨rv,⟨V.ref (s.heap.objs.size+1),H',I3,rfl,q3⟩⟩
   | next=>exact False.elim hq'
   | brk=>exact False.elim hq'
   | cont=>exact False.elim hq'
theorem zQd (M:Mk X.K C f)(F:FnOk X.prog X.w X.K X.mg X.base CX k f fd ps sp)(hr:Room (k+1) X.A)(hg:Gl X x)(hm:X.mg x=some (.ref C))(hb:Binds X.K fd ps ds)(hd:Vals dvs ds)(hx:qU CX X E)
   (ha:PA X (e::es) t) (hdb:(x==("__debug__":Str))=false:=by decide) (he:starEach (e::es) X.env=(false,eval e X.env)::starEach es X.env:=by rfl) (hpl:(backTo pos (starEach es X.env)).any (·.1)=false:=by rfl) :
   PE X (.Call (.Name x p) (e::es) [] pos) (zNm C sp dvs E t):=by
 intro pins s σ H Q I h
 refine Rl (kH I hg hm ?_ hdb)
 refine Yz (h₀:=X.base) I.ok.mod.kin M.kp (thn (ha pos pins s σ H _ I h) fun us s1 ⟨vs,H1,I1,r,q⟩=>⟨I1.kIn,?_⟩) he hpl
 exact zRB M F hr hb hd hx I1 r q
variable {ks:List Str}
structure KBinds (K:PySem.W.Frag)(fd:FuncData)(ps ks:List Str)(g:List Value->List Value->List Value)(gV:List V->List V->List V):Prop where
 to:∀(s:Shared) (us ws:List Value),K.In s.heap->(g us ws).length=ps.length->BindsTo s fd ⟨us,ks.zip ws⟩ (ps.zip (g us ws))
 rel:∀ {vs:List V} {us:List Value} {zs:List V} {ws:List Value},Vals vs us->Vals zs ws->Vals (gV vs zs) (g us ws)
variable {g:List Value->List Value->List Value} {gV:List V->List V->List V}
end
structure FnScope (N P:List Str)(sc:Scope):Prop where
 kind:sc.kind = .function
 co:sc.isCoroutine=false
 gen:sc.isGenerator=false
 nd:N.Nodup
 pre:N.take P.length=P
 par:∀x∈P,sc.names.lookup x=some .local∨sc.names.lookup x=some .cell
 nofree:∀y∈sc.names,y.2 ≠ .free
theorem zYN {kindOf:Str->Option NameKind}{x:Str}:∀ {binds:List (Str×Value)} {m:Str->Option Value},(∀v,(x,v)∉binds)->bindL kindOf binds m x=m x
 | [],_,_=>rfl
 | (n,v)::r,m,h=>by
   unfold bindL
   rw[zYN fun w hw=>h w (Qi _ hw)]
   split
   · have:x≠n:=by rintro rfl;exact h v Qc
     simp[this]
   · rfl
theorem zYt {kindOf:Str->Option NameKind}{x:Str}:∀ {binds:List (Str×Value)} {m:Str->Option Value},(∀v,(x,v)∉binds)->bindC kindOf binds m x=m x
 | [],_,_=>rfl
 | (n,v)::r,m,h=>by
   unfold bindC
   rw[zYt fun w hw=>h w (Qi _ hw)]
   split
   · rfl
   · have:x≠n:=by rintro rfl;exact h v Qc
     simp[this]
theorem zYF {kindOf:Str->Option NameKind}{x:Str}{v:Value}:∀ {P:List Str} {vs:List Value} {i:Nat} {m:Str->Option Value},P.Nodup->P[i]?=some x->vs[i]?=some v->kindOf x=some .local ->
   bindL kindOf (P.zip vs) m x=some v
 | [],_,_,_,_,h,_,_=>by simp at h
 | _::_,[],_,_,_,_,h,_=>by simp at h
 | p::P,w::vs,0,m,nd,h1,h2,hk=>by
   simp at h1 h2;subst h1;subst h2
   show bindL kindOf ((p,w)::P.zip vs) m p=_
   unfold bindL
   rw[zYN fun v hv=>(Uu.mp nd).1 (Ix hv).1,Wr hk]
   simp
 | p::P,w::vs,i+1,m,nd,h1,h2,hk=>by
   show bindL kindOf ((p,w)::P.zip vs) m x=_
   unfold bindL
   exact zYF (i:=i) (Uu.mp nd).2 (by simpa using h1) (by simpa using h2) hk
theorem zYS {kindOf:Str->Option NameKind}{x:Str}{v:Value}:∀ {P:List Str} {vs:List Value} {i:Nat} {m:Str->Option Value},P.Nodup->P[i]?=some x->vs[i]?=some v->kindOf x≠some .local ->
   bindC kindOf (P.zip vs) m x=some v
 | [],_,_,_,_,h,_,_=>by simp at h
 | _::_,[],_,_,_,_,h,_=>by simp at h
 | p::P,w::vs,0,m,nd,h1,h2,hk=>by
   simp at h1 h2;subst h1;subst h2
   show bindC kindOf ((p,w)::P.zip vs) m p=_
   unfold bindC
   rw[zYt fun v hv=>(Uu.mp nd).1 (Ix hv).1,Wj hk]
   simp
 | p::P,w::vs,i+1,m,nd,h1,h2,hk=>by
   show bindC kindOf ((p,w)::P.zip vs) m x=_
   unfold bindC
   exact zYS (i:=i) (Uu.mp nd).2 (by simpa using h1) (by simpa using h2) hk
def wW (N:List Str)(vs:List V):St:=vs.map some++List.replicate (N.length - vs.length) none
def oZ (CX:CXT)(P:Program)(w:World)(K:PySem.W.Frag)(mg:Str->Option Value)(base:Heap)(N:List Str)(qual:Str)(scope:Scope)(f:Addr)(cd:Value)(A:Around)(outer:List Env)(s:Shared)(H:Hp)(E:XK):Cx where
 prog:=P
 w:=w
 K:=K
 mg:=mg
 base:=base
 A:=A.deeper (envOfC qual scope s.heap.objs.size f cd)
 N:=N
 s₀:=s
 H₀:=H
 env:=envOfC qual scope s.heap.objs.size f cd
 outer:=outer
 stack:=envOfC qual scope s.heap.objs.size f cd::outer
 ex:=[]
 calm:=true
 fn:=fun _=>true
 pn:=[]
 xe:=fun e s'=>wpAny (model P w) (A.deeper (envOfC qual scope s.heap.objs.size f cd)) (leaving (envOfC qual scope s.heap.objs.size f cd) e) (fun _ s''=>CX outer H s E e s'') (fun e' s''=>CX outer H s E e' s'') s'
theorem zWz {sc:Scope}{n:Nat}{x:Str}(h:sc.names.lookup x=some .cell):∃c,(cellsFrom n sc.names []).lookup x=some c:=by
 have q:=PySem.W.cellsFrom_some sc.names n [] (.inl h)
 exact Rs.mp q
theorem zUa {CX:CXT}{P:Program}{w:World}{K:PySem.W.Frag}{mg:Str->Option Value}{base:Heap}{N ps:List Str}{qual:Str}{scope:Scope}{f:Addr}{cd:Value}{A:Around}{outer:List Env}{s s1:Shared}{H:Hp}{E:XK}{us:List Value}{vs:List V}
   (S:FnScope N ps scope) (hd:A.handled=none) (e0:Env0 P w K mg base A outer s H) (hl:vs.length=ps.length) (r:Vals vs us)
   (x:InCallC s s.heap.objs.size (bindL (envOfC qual scope s.heap.objs.size f cd).kindOf (ps.zip us) fun _=>none) (cellsFrom (s.heap.objs.size+1) scope.names []) (bindC (envOfC qual scope s.heap.objs.size f cd).kindOf (ps.zip us) fun _=>none) s1) :
   Inv (oZ CX P w K mg base N qual scope f cd A outer s H E) [] (wW N vs) H s1:=by
 have hpl:ps.length<=N.length:=by have:=Ec List.length S.pre;rw[Wm] at this;omega
 obtain⟨h1,tk,rfl,hk⟩:=x.done
 have noA:∀b:Addr,b∉(oZ CX P w K mg base N qual scope f cd A outer s H E).ex:=fun b z=>absurd (show b∈([]:List Addr) from z) (by simp)
 refine⟨⟨e0.mod,S.kind,rfl,rfl,Ql _,fun y z c h1 h2=>?_,fun y hy=>?_,fun y c _ h=>?_,fun _=>hd,Around.frames_deeper e0.frames,.inr ⟨rfl,rfl⟩,fun b z=>absurd z (noA b),e0.bs,e0.bsz,fun b _ _=>noA b,fun b z=>absurd z (noA b),e0.funs,e0.frf⟩,
   rfl,e0.bare,Un.kept hk,⟨_,x.toInCall.ns,fun i y v h1 h2 h3=>?_⟩,fun y c h=>⟨_,x.cell y c h⟩,e0.hok.fresh (Ql _),fun y c h=>?_,fun p hp=>absurd (show p∈([]:List (Addr×Obj)) from hp) (by simp),e0.hok.kept hk,?_⟩
 · exact name_of_addr x.apart (Ex h1) (Ex h2)
 · have hy:scope.names.lookup y=some .cell∨scope.names.lookup y=some .free:=hy
   rcases hy with hy | hy
   · exact zWz hy
   · exact absurd rfl (S.nofree _ (Ex hy))
 · exact Ws (x.above y c (Ex h))
 · have hi:i < vs.length:=by
     unfold wW at h2
     by_cases hi:i < vs.length
     · exact hi
     · rw[Ee (by simpa using hi)] at h2
       rw[En] at h2
       split at h2<;>cases h2
   have ha:vs[i]?=some v:=by
     unfold wW at h2
     rw[Wn (by simpa using hi),Wx] at h2
     cases e:vs[i]? with
     | none=>rw[e] at h2;cases h2
     | some a=>rw[e] at h2;cases h2;rfl
   obtain⟨u,hu,rv⟩:=r.get ha
   have hp:ps[i]?=some y:=by
     rw[←S.pre,List.getElem?_take_of_lt (by omega)];exact h1
   have ndP:ps.Nodup:=by rw[←S.pre];exact S.nd.sublist (List.take_sublist _ _)
   refine⟨u,rv,?_⟩
   rcases S.par y (Rp hp) with k | k
   · exact .inl ⟨k,zYF ndP hp hu k⟩
   · obtain⟨c,e⟩:=zWz (n:=s.heap.objs.size+1) k
     refine .inr ⟨.inl k,c,e,?_⟩
     have q:=x.cell y c e
     rw[zYS ndP hp hu (by show scope.names.lookup y≠_;rw[k];decide)] at q
     exact q
 · exact e0.hok.fresh (Ws (x.above y c (Ex h)))
 · unfold wW
   show _=N.length
   rw[Qd,Qu,Ui]
   omega
theorem zPM {CX:CXT}{P:Program}{w:World}{K:PySem.W.Frag}{mg:Str->Option Value}{base:Heap}{k:Nat}{f:Addr}{name qual:Str}{params:Arguments}{body:List Stmt}{scope:Scope}{dV kV doc pm cdv ct oc:Value}{an od:Option Addr}
   {osl:Array (Option Value)} {N ps:List Str} {sp:Sp} (lk:K.lookup f=some ⟨oc,od,.func (PySem.W.fnOf name qual params body scope dV kV doc pm an cdv ct),osl⟩) (hcd:PySem.W.codeIn K cdv qual=true) (S:FnScope N ps scope)
   (len:∀vs H Q E,sp vs H Q E->vs.length=ps.length)
   (hbody:∀(A:Around) (outer:List Env) (s:Shared) (H:Hp) (vs:List V) (Q:VK) (E:XK),Room k (A.deeper (envOfC qual scope s.heap.objs.size f cdv))->sp vs H Q E ->
     ∃t,PSs (oZ CX P w K mg base N qual scope f cdv A outer s H E) body t/\t { nx:=fun _ H'=>Q .non H',rt:=Q } (wW N vs) H) :
   FnOk P w K mg base CX (k+1) f (PySem.W.fnOf name qual params body scope dV kV doc pm an cdv ct) ps sp:=by
 refine⟨len,fun A outer s H args us vs Q E hr e0 hb r hsp=>?_⟩
 have hl:=len _ _ _ _ hsp
 have KX:K.In s.heap:=e0.mod.kin.keeps fun b o e=>(e0.bs b o e).1
 have lim:s.heap.NoLimit:=e0.mod.nolimit.keeps fun b o e=>(e0.bs b o e).1
 have hkind:∀y∈ps.zip us,scope.names.lookup y.1=some .local∨(scope.names.lookup y.1=some .cell/\((cellsFrom (s.heap.objs.size+1) scope.names []).lookup y.1).isSome=true):=fun⟨n,v⟩ hy=>by
   rcases S.par n (Ix hy).1 with q | q
   · exact .inl q
   · exact .inr ⟨q,PySem.W.cellsFrom_some _ _ _ (.inl q)⟩
 refine codeAny_call_function hr.depth (KX _ _ lk) rfl S.co S.gen rfl (PySem.W.codeRec_of KX hcd) (hb _ _ _ _ ?_)
 refine wpAny_newFunctionEnv_cells S.kind hkind fun env he s1 x=>?_
 subst he
 refine⟨lim.keeps x.toInCall.keep,codeAny_func ?_⟩
 obtain⟨t,ht,hq⟩:=hbody A outer s H vs Q E (hr.deeper _) hsp
 have I:Inv (oZ CX P w K mg base N qual scope f cdv A outer s H E) [] (wW N vs) H s1:=zUa S hr.hd e0 hl r x
 refine Eu (ht [] s1 (wW N vs) H _ I hq) (fun fl s' hs=>?_) fun e s' hs=>hs
 have fin:∀ {σ':St} {H':Hp} {v:V} {u:Value},Inv (oZ CX P w K mg base N qual scope f cdv A outer s H E) [] σ' H' s'->RelV v u->Q v H'->CE outer P w H s Q u s' :=
   fun {σ' H' v u} J rv q=>⟨v,H',J.os,J.bare,J.base,J.hok,rv,q⟩
 cases fl with
 | ret u =>
   obtain⟨v,σ',H',J,rv,q⟩:=hs
   exact fin J rv q
 | next =>
   obtain⟨σ',H',J,q⟩:=hs
   exact fin (v:=V.non) (u:=Value.none) J rfl q
 | brk =>
   obtain⟨_,_,_,q⟩:=hs
   exact False.elim q
 | cont =>
   obtain⟨_,_,_,q⟩:=hs
   exact False.elim q
section
variable {X:Cx} {x:Str} {p pos:Pos} {e:Expr} {es:List Expr} {t:TA} {id T:String} {r:List V->Hp->VK->Prop}
def tCB (r:List V->Hp->VK->Prop)(t:TA):TE:=fun σ H Q=>t σ H fun vs H1=>r vs H1 Q
theorem rD (hc:CallR X (.builtin id) r)(hg:Gl X x)(hm:X.mg x=none)(hv:bootBuiltins x=some (.builtin id))(ha:PA X (e::es) t)(hn:x≠"__name__":=by decide)(hdb:(x==("__debug__":Str))=false:=by decide)
   (he:starEach (e::es) X.env=(false,eval e X.env)::starEach es X.env:=by rfl) (hpl:(backTo pos (starEach es X.env)).any (·.1)=false:=by rfl):PE X (.Call (.Name x p) (e::es) [] pos) (tCB r t):=by
 intro pins s σ H Q I h
 refine Rl (mD I hg hm hv ?_ hn hdb)
 exact PyProof.Rows.callWith_builtin1 (thn (ha pos pins s σ H _ I h) fun us s1 ⟨vs,H1,I1,r1,q1⟩=>hc pins s1 σ H1 vs us Q I1 r1 q1) he hpl
theorem qG (hc:CallR X (.type T) r)(hg:Gl X x)(hm:X.mg x=none)(hv:bootBuiltins x=some (.type T))(ha:PA X (e::es) t)(hn:x≠"__name__":=by decide)(hdb:(x==("__debug__":Str))=false:=by decide)
   (he:starEach (e::es) X.env=(false,eval e X.env)::starEach es X.env:=by rfl) (hpl:(backTo pos (starEach es X.env)).any (·.1)=false:=by rfl):PE X (.Call (.Name x p) (e::es) [] pos) (tCB r t):=by
 intro pins s σ H Q I h
 refine Rl (mD I hg hm hv ?_ hn hdb)
 exact Ei (thn (ha pos pins s σ H _ I h) fun us s1 ⟨vs,H1,I1,r1,q1⟩=>hc pins s1 σ H1 vs us Q I1 r1 q1) he hpl
end
end L2
namespace HT
open PySem PyProof.Rows
section
def sIx (n d:Nat):Option Int->Nat
 | none=>d
 | some v=>if v < 0 then(v+(n:Int)).toNat else min v.toNat n
theorem sIx_none (n d:Nat):sIx n d none=d:=rfl
theorem sIx_nat (n d k:Nat):sIx n d (some (k:Int))=min k n:=by
 show(if (k:Int) < 0 then((k:Int)+(n:Int)).toNat else min (k:Int).toNat n)=min k n
 rw[Wj (by omega),Ie]
end
end HT
namespace L2
open PySem PySem.Spec PyProof.Rows
abbrev TO:=St->Hp->(Option Int->Hp->Prop)->Prop
def PO (X:Cx)(e:Option Expr)(t:TO):Prop :=
 ∀(pins:List (Addr×Obj)) (s:Shared) (σ:St) (H:Hp) (Q:Option Int->Hp->Prop),Inv X pins σ H s->t σ H Q ->
   wpAny (model X.prog X.w) X.A (evalPart e X.env) (fun u s'=>∃o H',Inv X pins σ H' s'/\IsPart u o/\Q o H') X.xe s
def zQk:TO:=fun _ H Q=>Q none H
def zNG (t:TE):TO:=fun σ H Q=>t σ H fun x H1=>∃i,x = .int i/\Q (some i) H1
theorem zWe {ns:List Int}:∀ {us:List Value},Vals (ns.map V.int) us->IntsAre us ns:=by
 induction ns with
 | nil=>intro us r;rw[Ea] at r;cases r;exact .nil
 | cons n ns ih =>
   intro us r
   rw[Qx] at r
   cases r with
   | cons r1 r2 =>
     obtain⟨t,e⟩:=r1
     subst e
     exact .cons n t (ih r2)
section
variable {X:Cx} {e:Expr} {te:TE} {lo hi:Option Expr} {tl th:TO} {pos p2:Pos}
theorem zQQ:PO X none zQk:=by
 intro pins s σ H Q I h
 rw[evalPart_none]
 exact Qa ⟨none,H,I,.none,h⟩
theorem zQV (h:PE X e te):PO X (some e) (zNG te):=by
 intro pins s σ H Q I hw
 rw[evalPart_some]
 refine thn (h pins s σ H _ I hw) fun u s1 ⟨x,H1,I1,r1,q1⟩=>?_
 obtain⟨i,rfl,q⟩:=q1
 obtain⟨t,rfl⟩:=r1
 exact⟨some i,H1,I1,.int i t,q⟩
def SlR (X:Cx)(r:V->Option Int->Option Int->Hp->VK->Prop):Prop :=
 ∀(pins:List (Addr×Obj)) (s:Shared) (σ:St) (H:Hp) (x:V) (v vl vu:Value) (lo hi:Option Int) (sl:Addr) (Q:VK),Inv X pins σ H s->RelV x v->s.heap.IsSliceOf sl vl vu .none->IsPart vl lo->IsPart vu hi->r x lo hi H Q ->
   ∃T id,typeLookup (.type T) "__getitem__"=pure (some (.builtin id))/\s.TypeIs v T/\wpAny (model X.prog X.w) X.A (getItem v (.ref sl)) (EP X pins σ Q) X.xe s
def tSl (r:V->Option Int->Option Int->Hp->VK->Prop)(te:TE)(tl th:TO):TE:=fun σ H Q=>te σ H fun x H1=>tl σ H1 fun l H2=>th σ H2 fun u H3=>r x l u H3 Q
theorem zW3 {r:V->Option Int->Option Int->Hp->VK->Prop}(hr:SlR X r)(he:PE X e te)(hl:PO X lo tl)(hu:PO X hi th):PE X (.Subscript e (.Slice lo hi none p2) pos) (tSl r te tl th):=by
 intro pins s σ H Q I h
 refine Subscript_ (thn (he pins s σ H _ I h) fun v s1 ⟨x,H1,I1,r1,q1⟩=>?_)
 refine wpAny_Slice (thn (hl pins s1 σ H1 _ I1 q1) fun vl s2 ⟨l,H2,I2,pl,q2⟩=>thn (hu pins s2 σ H2 _ I2 q2) fun vu s3 ⟨u,H3,I3,pu,q3⟩=>?_)
 rw[evalPart_none]
 refine Qa ?_
 have I4:Inv X pins σ H3 { s3 with heap:=s3.heap.push { cls:=.type "slice",data:=.fields #[vl,vu,.none] } }:=I3.kept (t':=s3.toks) fun b ob q=>Qr _ q
 obtain⟨T,id,hT,ht,hg⟩:=hr pins { s3 with heap:=s3.heap.push { cls:=.type "slice",data:=.fields #[vl,vu,.none] } } σ H3 x v vl vu l u s3.heap.objs.size Q I4 r1 (Heap.IsSliceOf.new ..) pl pu q3
 show wpAny (model X.prog X.w) X.A (subscriptTail e (.Slice lo hi none p2) v (.ref s3.heap.objs.size)) (EP X pins σ Q) X.xe { s3 with heap:=s3.heap.push { cls:=.type "slice",data:=.fields #[vl,vu,.none] } }
 exact tail_any (ops:=[.ref s3.heap.objs.size,v]) ht hT hg (by with_unfolding_all rfl)
def zTw (xs:List V)(lo hi:Option Int):List V:=(xs.drop (HT.sIx xs.length 0 lo)).take (HT.sIx xs.length xs.length hi - HT.sIx xs.length 0 lo)
theorem zXp (xs:List V)(lo hi:Option Int):(zTw xs lo hi).length<=xs.length:=by
 unfold zTw
 rw[Wm,Ts]
 omega
end
def ixN (n:Nat)(i:Int):Option Nat:=if 0<=i then(if i < n then some i.toNat else none) else if -(n:Int)<=i then some (i+n).toNat else none
def atI {α:Type}(xs:List α)(i:Int):Option α:=(ixN xs.length i).bind fun j=>xs[j]?
theorem zX4 {n:Nat}{i:Int}{j:Nat}(h:ixN n i=some j):seqIndex? i n=some j/\j < n /\ -(n:Int)<=i/\i < n:=by
 unfold ixN at h
 by_cases h0:0<=i
 · rw[Wr h0] at h
   by_cases h1:i < n
   · rw[Wr h1] at h
     have e:i.toNat=j:=Wo h
     exact⟨by rw[seqIndex_of h0 h1,e],by omega,by omega,h1⟩
   · rw[Wj h1] at h;cases h
 · rw[Wj h0] at h
   by_cases h1 : -(n:Int)<=i
   · rw[Wr h1] at h
     have e:(i+n).toNat=j:=Wo h
     exact⟨by rw[seqIndex_neg (by omega) h1,e],by omega,h1,by omega⟩
   · rw[Wj h1] at h;cases h
theorem zXV {α:Type}{xs:List α}{i:Int}{v:α}(h:atI xs i=some v):∃j,seqIndex? i xs.length=some j/\xs[j]?=some v/\j < xs.length /\ -(xs.length:Int)<=i/\i < xs.length:=by
 unfold atI at h
 cases e:ixN xs.length i with
 | none=>rw[e] at h;cases h
 | some j =>
   rw[e] at h
   obtain⟨h1,h2,h3,h4⟩:=zX4 e
   exact⟨j,h1,h,h2,h3,h4⟩
def zXz (b:Expr):Prop:=∀o i,subscripted b false o i=operate [o,i] (getItem o i)
def IxR (X:Cx)(r:R2):Prop :=
 ∀(value slice:Expr) (pins:List (Addr×Obj)) (s:Shared) (σ:St) (H:Hp) (x y:V) (v u:Value) (Q:VK),Inv X pins σ H s->RelV x v->RelV y u->r x y H Q ->
   subscripted slice false v u=operate [v,u] (getItem v u)->wpAny (model X.prog X.w) X.A (subscriptTail value slice v u) (EP X pins σ Q) X.xe s
def MtR (X:Cx)(id:String)(r:V->List V->Hp->VK->Prop):Prop :=
 ∀(pins:List (Addr×Obj)) (s:Shared) (σ:St) (H:Hp) (x:V) (xs:List V) (v:Value) (us:List Value) (Q:VK),Inv X pins σ H s->RelV x v->Vals xs us->r x xs H Q ->
   wpAny (model X.prog X.w) X.A (call (.builtin id) (v::us)) (EP X pins σ Q) X.xe s
section
variable {X:Cx} {a b:Expr} {ta tb:TE} {pos:Pos}
theorem IxR.or {r r':R2}(h:IxR X r)(h':IxR X r'):IxR X (fun x y H Q=>r x y H Q∨r' x y H Q):=by
 intro value slice pins s σ H x y v u Q I rx ry q hs
 rcases q with q | q
 · exact h value slice pins s σ H x y v u Q I rx ry q hs
 · exact h' value slice pins s σ H x y v u Q I rx ry q hs
theorem zPF {r:R2}(hr:IxR X r)(ha:PE X a ta)(hb:PE X b tb)(hs:zXz b):PE X (.Subscript a b pos) (tOp r ta tb):=by
 intro pins s σ H Q I h
 exact Subscript_ (zOs ha hb I h fun v u s2 x y H2 I2 rx ry q=>hr a b pins s2 σ H2 x y v u Q I2 rx ry q (hs _ _))
def zNA (K:PySem.W.Frag):R2:=fun x y H Q=>∃p xs i v,x = .ref p/\y = .int i/\SqL K H p xs/\atI xs i=some v/\Q v H
def zN2 (K:PySem.W.Frag):R2:=fun x y H Q=>∃p xs i v,x = .ref p/\y = .int i/\SqT K H p xs/\atI xs i=some v/\Q v H
def zNM:R2:=fun x y H Q=>∃z i c,x = .str z/\y = .int i/\z.length<=sizeLine/\atI z.cps.toList i=some c/\Q (.str ⟨#[c]⟩) H
theorem zQW:IxR X (zNA X.K):=by
 intro value slice pins s σ H x y v u Q I rx ry h hs
 obtain⟨p,xs,i,z,rfl,rfl,hq,he,q⟩:=h
 cases rx
 obtain⟨t,rfl⟩:=ry
 obtain⟨its,r,pl,hz⟩:=I.list hq
 obtain⟨j,h1,h2,h3,h4,h5⟩:=zXV he
 obtain⟨w,ew,rw'⟩:=r.get h2
 have hl:=r.length
 have hn:=fV
 have fin:EP X pins σ Q w s:=⟨z,H,I,rw',q⟩
 by_cases h0:0<=i
 · have hj:i.toNat=j:=by
     rw[seqIndex_of h0 h5] at h1
     exact Wo h1
   exact item_listR pl.isList h0 (by omega) (by rw[hj];simpa using ew) fin hs
 · have hj:(i+(its.toArray.size:Int)).toNat=j:=by
     rw[seqIndex_neg (by omega) h4] at h1
     rw[Qp,←hl]
     exact Wo h1
   exact subscriptTail_builtinR (x:=w) pl.isList.typeIs slot_list_getitem.lookup
     (wpAny_getItem_list_neg (Q:=fun r s'=>r=w/\EP X pins σ Q r s') pl.isList (by omega) (by rw[Qp]<;>omega) (by omega) (by rw[hj];simpa using ew) ⟨rfl,fin⟩) hs
theorem zO2:IxR X (zN2 X.K):=by
 intro value slice pins s σ H x y v u Q I rx ry h hs
 obtain⟨p,xs,i,z,rfl,rfl,hq,he,q⟩:=h
 cases rx
 obtain⟨t,rfl⟩:=ry
 obtain⟨its,r,pl,hz⟩:=I.tuple hq
 obtain⟨j,h1,h2,h3,h4,h5⟩:=zXV he
 obtain⟨w,ew,rw'⟩:=r.get h2
 have hl:=r.length
 have hn:=fV
 have fin:EP X pins σ Q w s:=⟨z,H,I,rw',q⟩
 exact subscriptTail_builtinR (x:=w) pl.typeIs slot_tuple_getitem.lookup
   (getItem_tuple (j:=j) (Q:=fun r s'=>r=w/\EP X pins σ Q r s') pl (by omega) (by omega) (by rw[Qp,←hl];exact h1) (by simpa using ew) ⟨rfl,fin⟩) hs
theorem zPe:IxR X zNM:=by
 intro value slice pins s σ H x y v u Q I rx ry h hs
 obtain⟨z,i,c,rfl,rfl,hz,he,q⟩:=h
 obtain⟨t,rfl⟩:=rx
 obtain⟨t',rfl⟩:=ry
 obtain⟨j,h1,h2,h3,h4,h5⟩:=zXV he
 have hl:z.cps.toList.length=z.length:=by simp[Str.length]
 rw[hl] at h1 h4 h5
 have hn:=fV
 exact tail_any (Ye s z t) slot_str_getitem.lookup (getItem_str (c:=c) (by
   have e1:decide (i < -(2^63:Int))=false:=Qz (by omega)
   have e2:decide (i≥2^63)=false:=Qz (by omega)
   rw[e1,e2,Bool.or_false]) (by rw[h1];simpa using h2) ⟨.str ⟨#[c]⟩,H,I.tok _,⟨_,rfl⟩,q⟩) hs
def rIx (K:PySem.W.Frag):R2:=fun x y H Q=>zNA K x y H Q∨zN2 K x y H Q∨zNM x y H Q
theorem zOz:IxR X (rIx X.K):=zQW.or (zO2.or zPe)
theorem zVC (its:List Value)(n j:Nat)(u:Value):Obj.mapSeq (·.setIfInBounds j u) { cls:=.type "list",data:=.seq its.toArray n }={ cls:=.type "list",data:=.seq (its.set j u).toArray n }:=by
 simp[Obj.mapSeq]
theorem Inv.lst {pins:List (Addr×Obj)}{σ:St}{H:Hp}{s:Shared}{p:Addr}{xs:List V}(I:Inv X pins σ H s)(h:H p=some (.lst xs)) :
   ∃(its:List Value) (n:Nat),Vals xs its/\s.heap.get? p=some { cls:=.type "list",data:=.seq its.toArray n }/\xs.length<=sizeLine:=by
 obtain⟨z,its,n,r,e⟩:=I.hok p _ h
 exact⟨its,n,r,e,z⟩
theorem Inv.lstUpd {pins:List (Addr×Obj)}{σ:St}{H:Hp}{s:Shared}{p:Addr}{xs ys:List V}{its its':List Value}{n n':Nat}{f:Obj->Obj}(I:Inv X pins σ H s)(h:H p=some (.lst xs))
   (ho:s.heap.get? p=some { cls:=.type "list",data:=.seq its.toArray n }) (hf:f { cls:=.type "list",data:=.seq its.toArray n }={ cls:=.type "list",data:=.seq its'.toArray n' }) (r:Vals ys its') (hz:ys.length<=sizeLine) (t:Nat) :
   Inv X pins σ (upd H p (.lst ys)) { s with heap:=s.heap.update p f,toks:=t }:=by
 have e:(s.heap.update p f).get? p=some { cls:=.type "list",data:=.seq its'.toArray n' }:=by
   rw[Eo f ho (by rw[hf]<;>rfl),hf]
 refine I.write (x:=p) (e:=p) (by rw[h];trivial) (.inl rfl) (fun b u hb q=>(Re _ _ (Ne.symm hb)).trans q) ⟨_,e⟩ ?_
 exact⟨hz,its',n',r,e⟩
def zOc:V->V->V->Hp->(Hp->Prop)->Prop:=fun o i v H Q=>∃p xs k j,o = .ref p/\i = .int k/\H p=some (.lst xs)/\ixN xs.length k=some j/\Q (upd H p (.lst (xs.set j v)))
theorem zSB:zOB X zOc:=by
 intro pins s σ H o i v ov iv u Q I ro ri rv h
 obtain⟨p,xs,k,j,rfl,rfl,hp,hj,q⟩:=h
 cases ro
 obtain⟨t,rfl⟩:=ri
 obtain⟨its,n,r,ho,hz⟩:=I.lst hp
 obtain⟨h1,h2,h3,h4⟩:=zX4 hj
 have hl:=r.length
 have hn:=fV
 have I':Inv X pins σ (upd H p (.lst (xs.set j v))) { s with heap:=s.heap.update p (Obj.mapSeq (·.setIfInBounds j u)) } :=
   I.lstUpd hp ho (zVC its n j u) (r.set rv j) (by rw[Rc];exact hz) s.toks
 by_cases h0:0<=k
 · have hk:k.toNat=j:=by
     rw[seqIndex_of h0 h4] at h1
     exact Wo h1
   exact PySem.W.ki_setAt ho h0 (by omega) (by rw[Qp,←hl];exact h4) (by rw[hk];exact⟨_,I',q⟩)
 · have hk:(k+(its.toArray.size:Int)).toNat=j:=by
     rw[seqIndex_neg (by omega) h3] at h1
     rw[Qp,←hl]
     exact Wo h1
   exact PySem.W.ki_setBack ho (by omega) (by rw[Qp,←hl];exact h3) (by omega) (by rw[hk];exact⟨_,I',q⟩)
theorem zYd (lo hi:Option Int)(n:Nat):(sliceBounds lo hi none n).1=((HT.sIx n 0 lo:Nat):Int)/\(sliceBounds lo hi none n).2.1=((HT.sIx n n hi:Nat):Int)/\(sliceBounds lo hi none n).2.2=1:=by
 refine⟨?_,?_,rfl⟩
 · cases lo with
   | none=>simp[sliceBounds,HT.sIx]
   | some i =>
     simp only[sliceBounds,HT.sIx,Option.getD_none,show(1:Int) > 0 by decide,Ys]
     by_cases h:i < 0
     · simp only[h,Ys]<;>omega
     · simp only[h,Te]<;>omega
 · cases hi with
   | none=>simp[sliceBounds,HT.sIx]
   | some i =>
     simp only[sliceBounds,HT.sIx,Option.getD_none,show(1:Int) > 0 by decide,Ys]
     by_cases h:i < 0
     · simp only[h,Ys]<;>omega
     · simp only[h,Te]<;>omega
theorem zZv (its:List Value)(lo hi:Option Int):slicePick its.toArray lo hi none=((its.drop (HT.sIx its.length 0 lo)).take (HT.sIx its.length its.length hi - HT.sIx its.length 0 lo)).toArray:=by
 obtain⟨h1,h2,h3⟩:=zYd lo hi its.toArray.size
 unfold slicePick
 rw[h1,h2,h3]
 simp only[sliceRange_one,pick_run,Qp]<;>rfl
def zMB (K:PySem.W.Frag):V->Option Int->Option Int->Hp->VK->Prop:=fun x lo hi H Q=>∃a xs,x = .ref a/\SqL K H a xs/\∀p,H p=none->Q (.ref p) (upd H p (.lst (zTw xs lo hi)))
theorem zPV:SlR X (zMB X.K):=by
 intro pins s σ H x v vl vu lo hi sl Q I rx hs pl pu h
 obtain⟨a,xs,rfl,hx,q⟩:=h
 cases rx
 obtain⟨its,r,ht,hz⟩:=I.list hx
 have hlen:=r.length
 refine⟨"list",_,slot_list_getitem.lookup,ht.isList.typeIs,?_⟩
 refine wpAny_getItem_list_slice ht.isList hs pl pu .none (by simp) ?_ (by rw[Qp]<;>omega)
 rw[zZv,←hlen]
 refine⟨.ref s.heap.objs.size,_,I.laid (t':=s.toks) (o:=.lst (zTw xs lo hi)) (fun b ob q=>Qr _ q) (Ql _) ?_,rfl,q _ (I.hok.fresh (Ql _))⟩
 exact⟨Wv (zXp xs lo hi) hz,_,0,(r.drop (HT.sIx xs.length 0 lo)).take (HT.sIx xs.length xs.length hi - HT.sIx xs.length 0 lo),Qh _ rfl⟩
def lP:V->Bool
 | .non=>true
 | .bl _=>true
 | .int _=>true
 | .str _=>true
 | _=>false
def eqV:V->V->Bool
 | .non,.non=>true
 | .bl a,.bl b=>a==b
 | .bl a,.int b=>(if a then 1 else 0)==b
 | .int a,.bl b=>a==(if b then 1 else 0)
 | .int a,.int b=>a==b
 | .str a,.str b=>a==b
 | _,_=>false
theorem zOk {A:Around}{s:Shared}{y x:V}{u v:Value}(ry:RelV y u)(rx:RelV x v)(fy:lP y=true)(fx:lP x=true):SeqAt.EqAt A s u v (eqV y x):=by
 cases y with
 | non =>
   cases ry
   cases x with
   | non=>cases rx;exact Yd _
   | bl b=>cases rx;exact SeqAt.EqAt.none_bool b
   | int b=>obtain⟨t,rfl⟩:=rx;exact SeqAt.EqAt.none_int b t
   | str b=>obtain⟨t,rfl⟩:=rx;exact SeqAt.EqAt.none_str b t
   | _=>exact absurd (show false=true from fx) Qk
 | bl a =>
   cases ry
   cases x with
   | non=>cases rx;exact SeqAt.EqAt.bool_none a
   | bl b=>cases rx;exact Ud a b
   | int b=>obtain⟨t,rfl⟩:=rx;exact SeqAt.EqAt.bool_int a b t
   | str b=>obtain⟨t,rfl⟩:=rx;exact SeqAt.EqAt.bool_str a b t
   | _=>exact absurd (show false=true from fx) Qk
 | int a =>
   obtain⟨t',rfl⟩:=ry
   cases x with
   | non=>cases rx;exact SeqAt.EqAt.int_none a t'
   | bl b=>cases rx;exact SeqAt.EqAt.int_bool a t' b
   | int b=>obtain⟨t,rfl⟩:=rx;exact Uc a t' b t
   | str b=>obtain⟨t,rfl⟩:=rx;exact SeqAt.EqAt.int_str a t' b t
   | _=>exact absurd (show false=true from fx) Qk
 | str a =>
   obtain⟨t',rfl⟩:=ry
   cases x with
   | non=>cases rx;exact SeqAt.EqAt.str_none a t'
   | bl b=>cases rx;exact SeqAt.EqAt.str_bool a t' b
   | int b=>obtain⟨t,rfl⟩:=rx;exact SeqAt.EqAt.str_int a t' b t
   | str b=>obtain⟨t,rfl⟩:=rx;exact SeqAt.EqAt.str_str a t' b t
   | _=>exact absurd (show false=true from fx) Qk
 | _=>exact absurd (show false=true from fy) Qk
def eqU (x:V)(u:Value):Bool:=match u with
 | .none=>eqV .non x
 | .bool b=>eqV (.bl b) x
 | .int i _=>eqV (.int i) x
 | .str z _=>eqV (.str z) x
 | _=>false
theorem zR1 {x y:V}{u:Value}(r:RelV y u)(f:lP y=true):eqU x u=eqV y x:=by
 cases y with
 | non=>cases r;rfl
 | bl b=>cases r;rfl
 | int i=>obtain⟨t,rfl⟩:=r;rfl
 | str z=>obtain⟨t,rfl⟩:=r;rfl
 | _=>exact absurd (show false=true from f) Qk
theorem zXF {x:V}:∀ {xs:List V} {us:List Value},Vals xs us->xs.all lP=true->us.any (eqU x)=xs.any fun y=>eqV y x
 | _,_,.nil,_=>rfl
 | y::xs,u::us,.cons r t,f=>by
   rw[Yp,Qg] at f
   rw[List.any_cons,List.any_cons,zR1 r f.1,zXF t f.2]
theorem aQ {A:Around}{s:Shared}{x:V}{v:Value}(rx:RelV x v)(fx:lP x=true):∀ {xs:List V} {us:List Value},Vals xs us->xs.all lP=true->∀u∈us,SeqAt.EqAt A s u v (eqU x u)
 | _,_,.nil,_=>fun u hu=>by cases hu
 | y::xs,u::us,.cons r t,f=>fun u' hu=>by
   rw[Yp,Qg] at f
   rcases Qf.mp hu with rfl | hu
   · rw[zR1 r f.1];exact zOk r rx f.1 fx
   · exact aQ rx fx t f.2 u' hu
def inV (x:V)(xs:List V):Bool:=xs.any fun y=>eqV y x
def rIn (K:PySem.W.Frag)(neg:Bool):R2:=fun x y H Q=>∃p xs,y = .ref p/\(SqL K H p xs∨SqT K H p xs)/\lP x=true/\xs.all lP=true/\Q (.bl (if neg then !inV x xs else inV x xs)) H
theorem zT8:OpR X (compareOp .In) (rIn X.K false):=by
 intro pins s σ H x y v u Q I rx ry h
 obtain⟨p,xs,rfl,hq,fx,fs,q⟩:=h
 cases ry
 rcases hq with hq | hq
 · obtain⟨its,r,pl,hz⟩:=I.list hq
   refine SeqAt.in_listAt (eqU x) pl.isList (fun w hw=>aQ rx fx r fs w (by simpa using hw)) ⟨.bl _,H,I,rfl,?_⟩
   rw[show its.toArray.any (eqU x)=its.any (eqU x) by simp,zXF r fs]
   exact q
 · obtain⟨its,r,pl,hz⟩:=I.tuple hq
   refine SeqAt.in_tupleAt (eqU x) pl (fun w hw=>aQ rx fx r fs w (by simpa using hw)) ⟨.bl _,H,I,rfl,?_⟩
   rw[show its.toArray.any (eqU x)=its.any (eqU x) by simp,zXF r fs]
   exact q
theorem gL:CallR X (.builtin "len") (fun xs H Q=>∃p ys,xs=[.ref p]/\(SqL X.K H p ys∨SqT X.K H p ys)/\Q (.int ys.length) H):=by
 intro pins s σ H xs us Q I r h
 obtain⟨p,ys,rfl,hq,q⟩:=h
 obtain⟨u,rfl,rx⟩:=nH r
 cases rx
 have hn:=fV
 rcases hq with hq | hq
 · obtain⟨its,r',pl,hz⟩:=I.list hq
   have hlen:=r'.length
   exact Calls.call_len_list pl.isList (by simp only[Qp]<;>omega) ⟨.int ys.length,H,I.tok _,⟨s.toks+1,by rw[Qp,hlen]⟩,q⟩
 · obtain⟨its,r',pl,hz⟩:=I.tuple hq
   have hlen:=r'.length
   exact len_tuple pl (by simp only[Qp]<;>omega) ⟨.int ys.length,H,I.tok _,⟨s.toks+1,by rw[Qp,hlen]⟩,q⟩
theorem zYa:CallR X (.builtin "len") (fun xs H Q=>∃z,xs=[.str z]/\z.length<=sizeLine/\Q (.int z.length) H):=by
 intro pins s σ H xs us Q I r h
 obtain⟨z,rfl,hz,q⟩:=h
 obtain⟨u,rfl,t,rfl⟩:=nH r
 have hn:=fV
 exact len_str (by omega) ⟨.int z.length,H,I.tok _,⟨_,rfl⟩,q⟩
theorem CallR.or {f:Value}{r r':List V->Hp->VK->Prop}(h:CallR X f r)(h':CallR X f r'):CallR X f (fun xs H Q=>r xs H Q∨r' xs H Q):=by
 intro pins s σ H xs us Q I rs q
 rcases q with q | q
 · exact h pins s σ H xs us Q I rs q
 · exact h' pins s σ H xs us Q I rs q
theorem zYk:CallR X (.type "list") (fun xs H Q=>∃p ys,xs=[.ref p]/\(SqL X.K H p ys∨SqT X.K H p ys)/\∀l,H l=none->Q (.ref l) (upd H l (.lst ys))):=by
 intro pins s σ H xs us Q I r h
 obtain⟨p,ys,rfl,hq,q⟩:=h
 obtain⟨u,rfl,rx⟩:=nH r
 cases rx
 have fin:∀(its:List Value),Vals ys its->ys.length<=sizeLine->∀(h':Heap) (c':Nat),(∀b o',s.heap.get? b=some o'->h'.get? b=some o') ->
     h'.get? s.heap.objs.size=some { cls:=.type "list",dict:=none,data:=.seq its.toArray c',slots:=#[] }->EP X pins σ Q (.ref s.heap.objs.size) { s with heap:=h' }:=fun its r' hz h' c' kp e =>
   ⟨.ref s.heap.objs.size,_,I.laid (t':=s.toks) kp (Ql _) (show ObjOk X.prog X.w _ h' _ (.lst ys) from⟨hz,its,c',r',e⟩),rfl,q _ (I.hok.fresh (Ql _))⟩
 rcases hq with hq | hq
 · obtain⟨its,r',pl,hz⟩:=I.list hq
   have hlen:=r'.length
   obtain⟨o,ho,hc,n,hd⟩:=pl.isList
   exact call_list_seq p (.inl rfl) ho hc hd (fun h' c' kp e=>fin its r' hz h' c' kp e) (by simp only[Qp]<;>omega)
 · obtain⟨its,r',pl,hz⟩:=I.tuple hq
   have hlen:=r'.length
   obtain⟨o,ho,hc,n,hd⟩:=pl
   exact call_list_seq p (.inr rfl) ho hc hd (fun h' c' kp e=>fin its r' hz h' c' kp e) (by simp only[Qp]<;>omega)
theorem zZl:CallR X (.type "tuple") (fun xs H Q=>∃p ys,xs=[.ref p]/\((SqL X.K H p ys/\∀l,H l=none->Q (.ref l) (upd H l (.tup ys)))∨(SqT X.K H p ys/\Q (.ref p) H))):=by
 intro pins s σ H xs us Q I r h
 obtain⟨p,ys,rfl,h⟩:=h
 obtain⟨u,rfl,rx⟩:=nH r
 cases rx
 rcases h with⟨hq,q⟩ | ⟨hq,q⟩
 · obtain⟨its,r',pl,hz⟩:=I.list hq
   have hlen:=r'.length
   refine call_tuple_list pl.isList (fun h' kp=>?_) (by simp only[Qp]<;>omega)
   have I1:Inv X pins σ H { s with heap:=h' }:=I.kept (t':=s.toks) kp
   have I2:Inv X pins σ (upd H h'.objs.size (.tup ys)) { s with heap:=h'.push { cls:=.type "tuple",data:=.seq its.toArray } } :=
     I1.laid (t':=s.toks) (fun b o e=>Qr _ e) (Ql _) (show ObjOk X.prog X.w _ _ _ (.tup ys) from⟨hz,its,r',IsTup.new _ _⟩)
   exact⟨.ref h'.objs.size,_,I2,rfl,q _ (I1.hok.fresh (Ql _))⟩
 · obtain⟨its,r',pl,hz⟩:=I.tuple hq
   exact call_tuple_same pl ⟨.ref p,H,I,rfl,q⟩
def tyV (K:PySem.W.Frag)(T:String)(x:V)(H:Hp):Prop:=match x with
 | .str _=>T="str"
 | .int _=>T="int"
 | .ref p=>(T="list"/\∃xs,SqL K H p xs)∨(T="tuple"/\∃o,K.lookup p=some o/\o.cls = .type "tuple"/\o.dict=none) ∨
     (T="dict"/\((∃kvs,H p=some (.dK kvs))∨∃kvs,H p=some (.dT kvs)))∨(T="set"/\∃S n,H p=some (.set S n))
 | _=>False
theorem zX1 {pins:List (Addr×Obj)}{σ:St}{H:Hp}{s:Shared}{T:String}{x:V}{v:Value}(I:Inv X pins σ H s)(r:RelV x v)(ty:tyV X.K T x H) :
   s.TypeIs v T/\∀a,v = .ref a->∃ob,s.heap.get? a=some ob/\ob.dict=none:=by
 cases x with
 | str z =>
   obtain⟨t,rfl⟩:=r
   cases (show T="str" from ty)
   exact⟨Ye s z t,fun _ e=>nomatch e⟩
 | int i =>
   obtain⟨t,rfl⟩:=r
   cases (show T="int" from ty)
   exact⟨typeIs_int s i t,fun _ e=>nomatch e⟩
 | ref p =>
   cases r
   rcases ty with⟨rfl,xs,hq⟩ | ⟨rfl,o,hk,hc,hd⟩ | ⟨rfl,hk⟩ | ⟨rfl,S,n,hk⟩
   · obtain⟨its,_,pl,_⟩:=I.list hq
     refine⟨pl.isList.typeIs,fun a e=>?_⟩
     cases e
     obtain⟨o,n,e,c,hd,_⟩:=pl
     exact⟨o,e,hd⟩
   · refine⟨⟨o,I.kIn p o hk,hc⟩,fun a e=>?_⟩
     cases e
     exact⟨o,I.kIn _ o hk,hd⟩
   · have z:∃o,s.heap.get? p=some o/\o.ExactDict:=by
       rcases hk with⟨kvs,hk⟩ | ⟨kvs,hk⟩
       · obtain⟨_,_,_,_,o,_,_,e,ex,_⟩:=I.hok p _ hk
         exact⟨o,e,ex⟩
       · obtain⟨_,_,_,_,o,_,_,e,ex,_⟩:=I.hok p _ hk
         exact⟨o,e,ex⟩
     obtain⟨o,e,ex⟩:=z
     refine⟨⟨o,e,ex.1⟩,fun a e2=>?_⟩
     cases e2
     exact⟨o,e,ex.2.1⟩
   · obtain⟨o,_,_,_,e,ex,_⟩:=I.hok p _ hk
     refine⟨⟨o,e,ex.1⟩,fun a e2=>?_⟩
     cases e2
     exact⟨o,e,ex.2.1⟩
 | _=>exact False.elim ty
def zNa (K:PySem.W.Frag)(T:String)(r:V->List V->Hp->VK->Prop)(to:TE):TE:=fun σ H Q=>to σ H fun x H1=>tyV K T x H1/\r x [] H1 Q
def tBM (K:PySem.W.Frag)(T:String)(r:V->List V->Hp->VK->Prop)(to:TE)(t:TA):TE:=fun σ H Q=>to σ H fun x H1=>tyV K T x H1/\t σ H1 fun xs H2=>r x xs H2 Q
variable {o e:Expr} {es:List Expr} {to:TE} {t:TA} {name:Str} {apos cpos:Pos} {T id:String} {r:V->List V->Hp->VK->Prop}
theorem zPj (pa:PlainAttrs T)(slot:Slot T name id)(hty:typeOf (.builtin id)=pure (.type "method_descriptor"))(hm:MtR X id r)(ho:PE X o to)
   (hbase:attributeBase o name X.env (eval o X.env)=eval o X.env:=by rfl) (hline:(apos.endLine==cpos.line)=true:=by rfl):PE X (.Call (.Attribute o name apos) [] [] cpos) (zNa X.K T r to):=by
 intro pins s σ H Q I h
 refine wpAny_Call_method0_late hbase hline (thn (ho pins s σ H _ I h) fun v s1 ⟨x,H1,I1,r1,ty,q1⟩=>?_)
 obtain⟨h1,h2⟩:=zX1 I1 r1 ty
 exact⟨T,id,pa,slot,hty,h1,h2,Tv rfl (PySem.evalArgs_none (hm pins s1 σ H1 x [] v [] Q I1 r1 .nil q1))⟩
theorem uT (pa:PlainAttrs T)(slot:Slot T name id)(hty:typeOf (.builtin id)=pure (.type "method_descriptor"))(hm:MtR X id r)(ho:PE X o to)(ha:PA X (e::es) t)
   (hbase:attributeBase o name X.env (eval o X.env)=eval o X.env:=by rfl)
   (hfew:((backTo cpos (starEach (e::es) X.env)).all (fun x => !x.1)&&(backToKw cpos (keywordEach [] X.env)).all (fun x=>x.1.isSome)
     && decide ((e::es).length+([]:List Keyword).length+(if ([]:List Keyword).isEmpty then 0 else 1) < 30))=true:=by rfl)
   (hline:(apos.endLine==cpos.line)=true:=by rfl) (hs:starEach (e::es) X.env=(false,eval e X.env)::starEach es X.env:=by rfl) (hplain:(backTo cpos (starEach es X.env)).any (·.1)=false:=by rfl) :
   PE X (.Call (.Attribute o name apos) (e::es) [] cpos) (tBM X.K T r to t):=by
 intro pins s σ H Q I h
 refine Ur hbase hfew hline rfl (thn (ho pins s σ H _ I h) fun v s1 ⟨x,H1,I1,r1,ty,q1⟩=>?_)
 obtain⟨h1,h2⟩:=zX1 I1 r1 ty
 refine⟨T,id,pa,slot,hty,h1,h2,?_⟩
 have hA:=ha cpos pins s1 σ H1 _ I1 q1
 rw[hs] at hA ⊢
 refine Tv (by show(false||(backTo cpos (starEach es X.env)).any (·.1))=false;rw[hplain]<;>rfl) (Uf ?_)
 exact thn hA fun us s2 ⟨vs,H2,I2,r2,q2⟩=>hm pins s2 σ H2 x vs v us Q I2 r1 r2 q2
end
def MtM (X:Cx)(id:String)(r:V->List V->Hp->VK->Prop):Prop :=
 ∀(pins:List (Addr×Obj)) (s:Shared) (σ:St) (H:Hp) (x:V) (xs:List V) (v:Value) (us:List Value) (Q:VK),Inv X pins σ H s->RelV x v->Vals xs us->r x xs H Q ->
   wpAny (model X.prog X.w) X.A (call (.builtin id) (v::us)) (EP X pins σ Q) X.xe s
theorem Vals.one:∀ {x:V} {us:List Value},Vals [x] us->∃u,us=[u]/\RelV x u
 | _,_,.cons r .nil=>⟨_,rfl,r⟩
theorem Vals.eraseIdx:∀ {xs:List V} {us:List Value} (i:Nat),Vals xs us->Vals (xs.eraseIdx i) (us.eraseIdx i)
 | _,_,_,.nil=>.nil
 | _,_,0,.cons _ t=>t
 | _,_,i+1,.cons r t=>.cons r (Vals.eraseIdx i t)
theorem Vals.reverse {xs:List V}{us:List Value}(h:Vals xs us):Vals xs.reverse us.reverse:=by
 induction h with
 | nil=>exact .nil
 | cons r t ih=>rw[Ym,Ym];exact Vals.append ih (.cons r .nil)
theorem Vals.rep {xs:List V}{us:List Value}(h:Vals xs us):∀k:Nat,Vals (List.replicate k xs).flatten (List.replicate k us).flatten
 | 0=>.nil
 | k+1=>by
   rw[Wz,Wz,Tt,Tt]
   exact Vals.append h (Vals.rep h k)
theorem zYE {α:Type}:∀(l:List α) (i:Nat),(l.eraseIdx i).length<=l.length
 | [],_=>Ql _
 | _::_,0=>Yw _
 | _::r,i+1=>Nat.succ_le_succ (zYE r i)
theorem zYq (its:List Value):∀(k:Nat) (acc:List Value),
   List.foldl (fun x1 x2=>x1++x2) acc.toArray (List.replicate k its.toArray)=(acc++(List.replicate k its).flatten).toArray
 | 0,acc=>by simp
 | k+1,acc=>by
   have e:acc.toArray++its.toArray=(acc++its).toArray:=by simp
   have e2:(acc++its)++(List.replicate k its).flatten=acc++(List.replicate (k+1) its).flatten:=by
     rw[Wz,Tt,Qv]
   rw[←e2,←zYq its k (acc++its),←e,Wz,List.foldl_cons]
section
variable {X:Cx} {pins:List (Addr×Obj)} {σ:St} {H:Hp} {s:Shared} {l:Addr} {xs ys:List V}
theorem Inv.lset {its its':List Value}{n:Nat}{f:Array Value->Array Value}{t':Nat}(I:Inv X pins σ H s)(hH:H l=some (.lst xs))
   (e:s.heap.get? l=some { cls:=.type "list",data:=.seq its.toArray n }) (hf:f its.toArray=its'.toArray) (hv:Vals ys its') (hz:ys.length<=sizeLine) :
   Inv X pins σ (upd H l (.lst ys)) { s with heap:=s.heap.update l (Obj.mapSeq f),toks:=t' }:=by
 have q:=PySem.IsL.update e f
 rw[hf] at q
 refine I.write (x:=l) (e:=l) (by rw[hH];exact trivial) (.inl rfl) (fun b' u hb hu=>(Re s.heap (Obj.mapSeq f) (Ne.symm hb)).trans hu) ⟨_,q⟩ ?_
 exact⟨hz,its',_,hv,q⟩
theorem Inv.lnew {its:List Value}{t':Nat}(I:Inv X pins σ H s)(hv:Vals ys its)(hz:ys.length<=sizeLine) :
   Inv X pins σ (upd H s.heap.objs.size (.lst ys)) { s with heap:=s.heap.push { cls:=.type "list",data:=.seq its.toArray },toks:=t' } :=
 I.laid (fun _ _ q=>Qr _ q) (Ql _) ⟨hz,its,0,hv,Qh _ rfl⟩
theorem Inv.fresh (I:Inv X pins σ H s):H s.heap.objs.size=none:=I.hok.fresh (Ql _)
theorem Inv.lstM (I:Inv X pins σ H s)(hH:H l=some (.lst xs)):xs.length<=sizeLine/\∃(its:List Value) (n:Nat),Vals xs its/\xs.length=its.length/\s.heap.get? l=some { cls:=.type "list",data:=.seq its.toArray n }:=by
 obtain⟨z,its,n,r,e⟩:=I.hok l _ hH
 exact⟨z,its,n,r,r.length,e⟩
theorem zRr {n:Nat}(h:n<=sizeLine):Builtin.List.listTooLong n=false:=by
 unfold Builtin.List.listTooLong
 exact Qz (by omega)
def zUs:V->List V->Hp->VK->Prop:=fun x vs H Q=>∃l xs y,x = .ref l/\vs=[y]/\H l=some (.lst xs)/\xs.length < sizeLine/\Q .non (upd H l (.lst (xs++[y])))
theorem qF:MtM X "list.append" zUs:=by
 intro pins s σ H x vs v us Q I rx rv h
 obtain⟨l,xs,y,rfl,rfl,hH,hz,q⟩:=h
 cases rx
 obtain⟨u,rfl,ru⟩:=rv.one
 obtain⟨z,its,n,r,hl,e⟩:=I.lstM hH
 refine Yr F.slot_list_append ⟨_,e,rfl⟩ F.entry_list_append (F.args_list_append_2 _ _) (PySem.list_append l its.toArray n u (by rw[Qp];omega)) ⟨e,?_⟩
 refine⟨.non,_,I.lset (its':=its++[u]) hH e (by simp) (r.append (.cons ru .nil)) ?_,rfl,q⟩
 rw[Qd,Ew]
 omega
def zTc:V->List V->Hp->VK->Prop:=fun x vs H Q=>∃l xs i k y,x = .ref l/\vs=[.int i]/\H l=some (.lst xs) /\ -(2^63)<=i/\i < 2^63/\seqIndex? i xs.length=some k/\xs[k]?=some y/\Q y (upd H l (.lst (xs.eraseIdx k)))
theorem zSH:MtM X "list.pop" zTc:=by
 intro pins s σ H x vs v us Q I rx rv h
 obtain⟨l,xs,i,k,y,rfl,rfl,hH,h1,h2,hk,hy,q⟩:=h
 cases rx
 obtain⟨u,rfl,ru⟩:=rv.one
 obtain⟨t,rfl⟩:=ru
 obtain⟨z,its,n,r,hl,e⟩:=I.lstM hH
 obtain⟨w,hw,rw'⟩:=r.get hy
 refine Yr F.slot_list_pop ⟨_,e,rfl⟩ F.entry_list_pop (F.args_list_pop_2 _ _)
   (MeetsSeq.list_pop_at l its.toArray n i t k w (fitsIndex_both h1 h2) (by rw[Qp,←hl];exact hk) (by rw[←Array.getElem?_toList];exact hw) (by rw[Qp];omega)) ⟨e,?_⟩
 refine⟨y,_,I.lset (its':=its.eraseIdx k) hH e ?_ (r.eraseIdx k) ?_,rw',q⟩
 · show its.toArray.eraseIdxIfInBounds k=(its.eraseIdx k).toArray
   rw[List.eraseIdxIfInBounds_toArray]
 · have:=zYE xs k
   omega
def zMT:R2:=fun x y H Q=>∃l b xs zs,x = .ref l/\y = .ref b/\H l=some (.lst xs)/\H b=some (.lst zs)/\xs.length+zs.length<=sizeLine/\∀p,H p=none->Q (.ref p) (upd H p (.lst (xs++zs)))
theorem zPv:OpR X (binaryOp .Add) zMT:=by
 intro pins s σ H x y v u Q I rx ry h
 obtain⟨l,b,xs,zs,rfl,rfl,hH,hB,hz,q⟩:=h
 cases rx
 cases ry
 obtain⟨z,its,n,r,hl,e⟩:=I.lstM hH
 obtain⟨z2,its2,n2,r2,hl2,e2⟩:=I.lstM hB
 refine PySem.P.add_list e e2 ?_ (by rw[Qp,Qp];omega)
 have ea:its.toArray++its2.toArray=(its++its2).toArray:=by simp
 rw[ea]
 exact⟨.ref _,_,I.lnew (t':=s.toks) (r.append r2) (by rw[Qd];omega),rfl,q _ I.fresh⟩
def zM1:R2:=fun x y H Q=>∃l k xs,x = .ref l/\y = .int k/\H l=some (.lst xs) /\ -(2^63)<=k/\k < 2^63/\xs.length*k.toNat<=sizeLine /\
 ∀p,H p=none->Q (.ref p) (upd H p (.lst (List.replicate k.toNat xs).flatten))
theorem zQM {α:Type}(xs:List α)(k:Nat):(List.replicate k xs).flatten.length=k*xs.length:=by
 induction k with
 | zero=>simp
 | succ k ih=>rw[Wz,Tt,Qd,ih,Nat.succ_mul,Nat.add_comm]
theorem zP3:OpR X (binaryOp .Mult) zM1:=by
 intro pins s σ H x y v u Q I rx ry h
 obtain⟨l,k,xs,rfl,rfl,hH,h1,h2,hz,q⟩:=h
 cases rx
 obtain⟨t,rfl⟩:=ry
 obtain⟨z,its,n,r,hl,e⟩:=I.lstM hH
 have hlen:its.toArray.size*k.toNat<=sizeLine:=by rw[Qp,←hl];exact hz
 have hcap:¬its.toArray.size*k.toNat > (2^63 - 1) / 8:=by
   have:(sizeLine:Nat)<=(2^63 - 1) / 8:=by decide
   omega
 have hfit:¬(!Builtin.List.listFitsIndex k)=true:=by
   rw[fitsIndex_both h1 h2]
   exact Qk
 have hlong:¬Builtin.List.listTooLong (its.toArray.size*k.toNat)=true:=by
   rw[zRr hlen]
   exact Qk
 have hnew:List.foldl (fun x1 x2=>x1++x2) #[] (List.replicate (if its.toArray.isEmpty=true then 0 else k.toNat) its.toArray)=(List.replicate k.toNat its).flatten.toArray:=by
   have f0:∀m:Nat,List.foldl (fun x1 x2=>x1++x2) #[] (List.replicate m its.toArray)=(List.replicate m its).flatten.toArray:=fun m=>by
     have:=zYq its m []
     rw[We] at this
     exact this
   rw[f0]
   cases its with
   | nil=>simp
   | cons a r'=>rw[Wj (by simp)]
 refine wpAny_binaryOp_repeat_ref (T:="list") (U:="int") (by decide) ⟨_,e,rfl⟩ (fun s'=>typeIs_int s' k t) noFill_list_mul F.fills_int_mul F.slot_int_rmul repeat_list F.slot_int_index.lookup
   (Yr F.slot_int_rmul (typeIs_int s k t) F.entry_int_rmul (F.args_int_rmul_2 _ _) (int___rmul___int_list k t l its.toArray n)
     ⟨e,rfl,⟨_,e,rfl⟩,Yr F.slot_list_mul ⟨_,e,rfl⟩ F.entry_list_mul (F.args_list_mul_2 _ _) (AutoListH.list___mul___list_int_3 l its.toArray n k t hfit hcap hlong) ⟨e,?_⟩⟩)
 rw[hnew]
 exact⟨.ref _,_,I.lnew (t':=s.toks) (r.rep k.toNat) (by rw[zQM,Nat.mul_comm];exact hz),rfl,q _ I.fresh⟩
end
end L2
namespace Att
open PySem PySem.W PySem.Calls PyProof.Rows
theorem dF {P:Params}{h:Heap}:∀(ns:List Int) (vs:List Value),WellAll P h vs (ns.map WData.int)->IntsAre vs ns:=by
 intro ns
 induction ns with
 | nil =>
   intro vs w
   rw[Ea] at w
   cases w
   exact .nil
 | cons n ns ih =>
   intro vs w
   rw[Qx] at w
   cases w with
   | cons a b =>
     cases a
     exact .cons _ _ (ih _ b)
theorem zTx {l:OpenLaw}{n:Nat}(hn:l.most=some n){P:Params}{h:Heap}{args:List WData}{vals:List Value}
   (hpre:l.row.toRowW.claim.pre args=true) (hwl:WellAll P h vals args) :
   ∃a vs ns,vals=[Value.ref a]/\args=[WData.list (ns.map WData.int)]/\h.get? a=some { cls:=.type "list",data:=.seq vs.toArray }/\IntsAre vs ns/\ns.length<=n:=by
 have hsh:WShape.hasAll [] args [.list .int]=true:=(pre_splitW hpre).1
 have hc:l.pre.holds [] { args:=args }=true:=(pre_splitW hpre).2
 obtain⟨d,r,rfl,h1,h2⟩:=hasAllW_cons hsh
 obtain rfl:=hasAllW_nil h2
 obtain⟨xs,rfl,h3⟩:=hasW_list h1
 obtain⟨ns,rfl⟩:=items_int h3
 have hlen:ns.length<=n:=by
   unfold OpenLaw.pre at hc
   have h4:(WTm.not (.lt (.lit (.int (n:Int))) (.len (.arg 0)))).holds [] { args:=[.list (ns.map .int)] }=true:=by
     have h4:=(holds_andW hc).1
     rw[hn] at h4
     exact h4
   have h5:=condW_of h4 (w_not (w_lt w_lit (w_len_list (w_arg rfl))))
   rw[Qu] at h5
   refine Nat.le_of_not_lt fun q=>?_
   have q':(n:Int) < ((ns.length:Nat):Int):=by omega
   first
     | (rw[Qm q'] at h5;exact absurd h5 (by decide))
     | (simp at h5;omega)
 cases hwl with
 | cons w1 w2 =>
   cases w2
   cases w1 with
   | list ho hall=>exact⟨_,_,ns,rfl,rfl,ho,dF ns _ hall,hlen⟩
theorem zTo (l:OpenLaw)(args:List WData):l.row.toRowW.claim.post args (.bool true) args=true :=
 postW_of (r:=l.row.toRowW) (X:=(true==true))
   (show WShape.has [] (.bool true) .bool=true by first | rfl | decide | simp[WShape.has,WShape.arms,WShape.armsAll])
   (show(WTm.eq .res (.lit (.bool true))).value [] { args:=args,res:=some (.bool true),after:=args }=some (.bool (true==true)) from w_eq_bool (w_res rfl) w_lit) rfl
theorem attach_call {l:OpenLaw}{n:Nat}{q:Program}{loose:List Str}{XP:(Str->Option Value)->Heap->Prop}{YP:World->Heap->Prop}{d:DefRec}
   (hn:l.most=some n) (hdf:d.params.defaults=[])
   (call:∀(w:World) (s₀ s₁:Shared) (mg mb:Str->Option Value) (fa:Addr) (o:Obj) (pm cd doc:Value) (a:Addr) (vs:List Value) (ns:List Int),
     Ground q loose [] XP w s₀ mg mb s₁.heap->YP w s₁.heap ->
     s₁.heap.get? fa=some o->o.data = .func (docDef d.name d.params d.body d.scope pm cd doc)->s₁.heap.CodeRec cd d.name->mg d.name=some (.ref fa) ->
     s₁.heap.get? a=some { cls:=.type "list",data:=.seq vs.toArray }->IntsAre vs ns->ns.length<=n->s₁.gens=#[] ->
     codeAny (model l.prog w) callerA (.call (.ref fa) ⟨[.ref a],[]⟩) (fun r s'=>r = .ok (.ret (.bool true))/\OldK s₁.heap s'.heap/\s'.os=s₁.os/\AllBare s'.gens) s₁) :
   WalkO q loose XP YP l.row.toRowW d [] (fun f vs=>PySem.call f vs):=by
 intro w s₀ s₁ mg mb G Y fa o pm cd doc dV kV ho hd hcd hD hmg hg args vals as hpre hlay hrd hwl hlo
 obtain rfl:dV = .none:=Dflts.none hD hdf
 obtain rfl:kV = .none:=Dflts.noKw hD
 obtain⟨a,vs,ns,rfl,rfl,hobj,hints,hlen⟩:=zTx hn hpre hwl
 refine enter_call (Yl (call w s₀ s₁ mg mb fa o pm cd doc a vs ns G Y ho (fd_plain hd) hcd hmg hobj hints hlen hg) fun r s' hq=>?_)
 obtain⟨rfl,h2,h3,h4⟩:=hq
 exact⟨.inl ⟨.bool true,.bool true,[],rfl,fun _=>rfl,.bool true,zTo l _,fun _=>⟨List.Pairwise.nil,fun _ hm=>(nomatch hm)⟩⟩,h2,h3,h4⟩
end Att
namespace L2
open PySem PySem.Spec PyProof.Rows
theorem eU:∀ {vs:List Value} {ns:List Int},IntsAre vs ns->Vals (ns.map V.int) vs
 | _,_,.nil=>.nil
 | _,_,.cons n t h=>.cons ⟨t,rfl⟩ (eU h)
def zOy (H:Hp):Prop:=∀b,H b=none∨∃o xs,H b=some (.frz o (.lst xs))
theorem zSh {P:Program}{w:World}{K:PySem.W.Frag}{mg mb:Str->Option Value}{CX:CXT}{k:Nat}{fa a:Addr}{fd:FuncData}{x:Str}{sp:Sp}{s₁:Shared}{vs:List Value}{ns:List Int}
   (KX:K.In s₁.heap) (hns:s₁.heap.Ns mainGlobals mg) (hb:s₁.heap.Ns builtinsNs mb) (hbb:∀x:Str,x≠"__name__"->mb x=bootBuiltins x) (hlim:s₁.heap.NoLimit) (hg:s₁.gens=#[])
   (ha:s₁.heap.get? a=some { cls:=.type "list",data:=.seq vs.toArray }) (hi:IntsAre vs ns) (hl:ns.length<=sizeLine) (hr:Room k callerA)
   (F:∀base:Heap,K.In base->base.Ns mainGlobals mg->FnOk P w K mg base CX k fa fd [x] sp) (hbind:∀(s:Shared) (u:Value),BindsTo s fd ⟨[u],[]⟩ [(x,u)])
   (hsp:∀H:Hp,zOy H->SqL K H a (ns.map V.int)->sp [.ref a] H (fun v _=>v = .bl true) fun _ _ _=>False)
   (hCX:∀H e s',CX [] H s₁ (fun _ _ _=>False) e s'->False) :
   codeAny (model P w) callerA (.call (.ref fa) ⟨[.ref a],[]⟩) (fun r s'=>r = .ok (.ret (.bool true))/\OldK s₁.heap s'.heap/\s'.os=s₁.os/\AllBare s'.gens) s₁:=by
 have rv:=eU hi
 have lenV:=hi.length
 -- from an abstract heap in which nothing but the script may be tracked
 have core:∀H:Hp,zOy H->SqL K H a (ns.map V.int)->HOk P w H s₁.heap->(∀b,H b≠none->b=a)->(H a≠none->K.lookup a=none) ->
     codeAny (model P w) callerA (.call (.ref fa) ⟨[.ref a],[]⟩) (fun r s'=>r = .ok (.ret (.bool true))/\OldK s₁.heap s'.heap/\s'.os=s₁.os/\AllBare s'.gens) s₁:=by
   intro H hO hS hok hA hK
   have base_of:∀ {b:Addr} {o:Obj},s₁.heap.get? b=some o->H b=none->(zXE s₁.heap H).get? b=some o:=fun e n=>zR5 e n
   have noA:∀ {b:Addr} {o:Obj} {es:Array DictEntry} {ep:Nat},s₁.heap.get? b=some o->o.data = .dict es ep->H b=none:=fun {b o es ep} e d=>by
     cases q:H b with
     | none=>rfl
     | some u =>
       have e':b=a:=hA b (by rw[q];simp)
       subst e'
       rw[ha] at e;cases e
       have d':Data.seq vs.toArray _=Data.dict es ep:=d
       cases d'
   have nsK:∀ {b:Addr} {m:Str->Option Value},s₁.heap.Ns b m->(zXE s₁.heap H).Ns b m:=fun {b m} ⟨o,es,ep,e,d,r⟩=>⟨o,es,ep,base_of e (noA e d),d,r⟩
   have hKb:K.In (zXE s₁.heap H):=fun b o e=>base_of (KX b o e) (by
     cases q:H b with
     | none=>rfl
     | some u =>
       have e':b=a:=hA b (by rw[q];simp)
       subst e'
       rw[hK (by rw[q];simp)] at e;cases e)
   have hM:Mod K mg (zXE s₁.heap H):=⟨hKb,nsK hns,⟨mb,nsK hb,hbb⟩,let ⟨mc,h1,h2⟩:=hlim;⟨mc,nsK h1,h2⟩⟩
   have e0:Env0 P w K mg (zXE s₁.heap H) callerA [] s₁ H:=⟨rfl,hM,fun b o e=>zQD e,Nat.le_of_eq (zTj _ _),trivial,fun b hb=>absurd (show b∈([]:List Addr) from hb) (by simp),hok,.of_eq hg⟩
   refine Yl ((F _ hKb (nsK hns)).run callerA [] s₁ H ⟨[.ref a],[]⟩ [.ref a] [.ref a] _ _ hr e0 (hbind s₁ (.ref a)) (.cons rfl .nil) (hsp H hO hS)) fun r s' h=>?_
   cases r with
   | error e=>exact(hCX H e s' h).elim
   | ok fl =>
     cases fl with
     | next=>exact False.elim h
     | brk=>exact False.elim h
     | cont=>exact False.elim h
     | ret u =>
       obtain⟨v,H',os,bare,un,hok',r',q⟩:=h
       have q':v = .bl true:=q
       subst q'
       obtain rfl:u=Value.bool true:=r'
       refine⟨rfl,OldK.of_keep fun b o e=>?_,os,bare⟩
       cases q:H b with
       | none=>exact un.keep b o e q (by intro z;exact absurd (show b∈([]:List Addr) from z) (by simp)) (by simp)
       | some u =>
         rcases hO b with z | ⟨ob,xs,z⟩
         · rw[q] at z;cases z
         · have z2:=un.frzs b ob _ z
           obtain⟨e1,_⟩:=hok b _ z
           obtain⟨e2,_⟩:=hok' b _ z2
           rw[e] at e1;cases e1
           exact e2
 cases hk:K.lookup a with
 | some o =>
   -- the script is one of the module's own objects
   have e:=KX a o hk
   rw[ha] at e
   cases e
   refine core (fun _=>none) (fun _=>.inl rfl) (.inr ⟨_,vs.toArray,_,hk,rfl,rfl,rfl,by rw[Qp,lenV];exact hl,by simpa using rv⟩) (fun b u z=>by have z':(none:Option HO)=some u:=z;cases z') (fun b z=>absurd rfl z) fun z=>absurd rfl z
 | none =>
   refine core (fun b=>if b=a then some (.frz { cls:=.type "list",data:=.seq vs.toArray } (.lst (ns.map V.int))) else none) (fun b=>?_) (.inl (.inr ⟨{ cls:=.type "list",data:=.seq vs.toArray },Wr rfl⟩)) (fun b u z=>?_) (fun b z=>?_) fun _=>hk
   · by_cases hb:b=a
     · exact .inr ⟨_,_,Wr hb⟩
     · exact .inl (Wj hb)
   · by_cases hb:b=a
     · have z':=(Wr hb).symm.trans z
       cases z'
       subst hb
       exact⟨ha,by rw[Qu];exact hl,vs,_,rv,ha⟩
     · have z':=(Wj hb).symm.trans z
       cases z'
   · by_cases hb:b=a
     · exact hb
     · exact absurd (Wj hb) z
theorem zQP {l:PySem.W.OpenLaw}{n k:Nat}{q:Program}{loose:List Str}{XP:(Str->Option Value)->Heap->Prop}{YP:World->Heap->Prop}{d:DefRec}{K:Params->PySem.W.Frag}{CX:World->CXT}{sp:World->Sp}{x:Str}
   (hn:l.most=some n) (hn2:n<=sizeLine) (hdf:d.params.defaults=[]) (hr:Room k callerA)
   (hY:∀(w:World) (h:Heap),YP w h->(K w.params).In h)
   (F:∀(w:World) (mg:Str->Option Value) (fa:Addr) (h:Heap),(K w.params).In h->h.Ns mainGlobals mg->mg d.name=some (.ref fa) ->
     ∃fd:FuncData,(∀(s:Shared) (u:Value),BindsTo s fd ⟨[u],[]⟩ [(x,u)]) /\
       ∀base:Heap,(K w.params).In base->base.Ns mainGlobals mg->FnOk l.prog w (K w.params) mg base (CX w) k fa fd [x] (sp w))
   (hsp:∀(w:World) (H:Hp) (a:Addr) (ns:List Int),ns.length<=n->zOy H->SqL (K w.params) H a (ns.map V.int)->sp w [.ref a] H (fun v _=>v = .bl true) fun _ _ _=>False)
   (hCX:∀(w:World) (H:Hp) (s:Shared) (e:Value) (s':Shared),CX w [] H s (fun _ _ _=>False) e s'->False) :
   PySem.W.WalkO q loose XP YP l.row.toRowW d [] (fun f vs=>PySem.call f vs):=by
 refine Att.attach_call hn hdf fun w s₀ s₁ mg mb fa o pm cd doc a vs ns G Y ho hd hcd hmg hobj hints hlen hg=>?_
 have KX:=hY w _ Y
 obtain⟨fd,hb,hF⟩:=F w mg fa _ KX G.T.g hmg
 exact zSh KX G.T.g G.T.b G.T.builtins G.T.nolimit hg hobj hints (Wv hlen hn2) hr hF hb (fun H hO hS=>hsp w H a ns hlen hO hS) fun H e s'=>hCX w H s₁ e s'
abbrev CX0:CXT:=fun _ _ _ _ _ _=>False
abbrev E0:XK:=fun _ _ _=>False
theorem zU7 {X:Cx}:qU CX0 X E0:=fun _ _ _ _ _ _ _ h=>h.elim
structure Fun (K:PySem.W.Frag)(x qual:Str)(st:Stmt)(f:Addr)(fd:FuncData):Prop where
 ex:∃(oc:Value) (od:Option Addr) (kV doc pm:Value) (an:Option Addr) (cdv ct:Value) (osl:Array (Option Value)),
   fd=PySem.W.fnOf x qual (zE st) (zJ st) (zU st) .none kV doc pm an cdv ct/\K.lookup f=some ⟨oc,od,.func fd,osl⟩/\PySem.W.codeIn K cdv qual=true
 kp:PySem.W.keepIn K (.ref f)=true
section
variable {P:Program} {w:World} {K:PySem.W.Frag} {mg:Str->Option Value} {base:Heap}
theorem Fun.ok {x qual:Str}{st:Stmt}{f:Addr}{fd:FuncData}{N ps:List Str}{k:Nat}{sp:Sp}(F:Fun K x qual st f fd)(S:FnScope N ps (zU st))(len:∀vs H Q E,sp vs H Q E->vs.length=ps.length)
   (hbody:∀(cdv:Value) (A:Around) (outer:List Env) (s:Shared) (H:Hp) (vs:List V) (Q:VK) (E:XK),Room k (A.deeper (envOfC qual (zU st) s.heap.objs.size f cdv))->sp vs H Q E ->
     ∃t,PSs (oZ CX0 P w K mg base N qual (zU st) f cdv A outer s H E).nox (zJ st) t/\t { nx:=fun _ H'=>Q .non H',rt:=Q } (wW N vs) H):FnOk P w K mg base CX0 (k+1) f fd ps sp:=by
 obtain⟨oc,od,kV,doc,pm,an,cdv,ct,osl,rfl,lk,hcd⟩:=F.ex
 refine zPM lk hcd S len fun A outer s H vs Q E hr hsp=>?_
 obtain⟨t,h,q⟩:=hbody cdv A outer s H vs Q E hr hsp
 exact⟨t,h.nox,q⟩
theorem Fun.binds {x qual:Str}{st:Stmt}{f:Addr}{fd:FuncData}{ps:List Str}(F:Fun K x qual st f fd)
   (h:∀(kV doc pm:Value) (an:Option Addr) (cdv ct:Value) (us:List Value),us.length=ps.length->bindArgs (PySem.W.fnOf x qual (zE st) (zJ st) (zU st) .none kV doc pm an cdv ct) ⟨us,[]⟩=pure (ps.zip us)):Binds K fd ps []:=by
 obtain⟨oc,od,kV,doc,pm,an,cdv,ct,osl,rfl,lk,hcd⟩:=F.ex
 exact .all (h kV doc pm an cdv ct)
theorem eT {x qual:Str}{st:Stmt}{f:Addr}{oc:Value}{od an:Option Addr}{osl:Array (Option Value)}{kV doc pm cdv ct:Value}(l:K.lookup f=some ⟨oc,od,.func (PySem.W.fnOf x qual (zE st) (zJ st) (zU st) .none kV doc pm an cdv ct),osl⟩)
   (c:PySem.W.codeIn K cdv qual=true) (k:PySem.W.keepIn K (.ref f)=true):Fun K x qual st f (PySem.W.fnOf x qual (zE st) (zJ st) (zU st) .none kV doc pm an cdv ct):=⟨⟨oc,od,kV,doc,pm,an,cdv,ct,osl,rfl,l,c⟩,k⟩
variable {X:Cx}
theorem pv (i:Nat){x:Str}{pos:Pos}(hN:X.N[i]?=some x:=by rfl)(hv:Vis X.env.scope x:=by first | exact Or.inl rfl | exact Or.inr (Or.inl rfl) | exact Or.inr (Or.inr rfl))(hd:(x==("__debug__":Str))=false:=by decide)
   (hcd:(x==("__classdict__":Str))=false:=by decide):PE X (.Name x pos) (zPR i):=nX hN hv hd hcd
end
def Same (H H':Hp):Prop:=∀b o,H b=some o->H' b=some o
theorem Same.refl (H:Hp):Same H H:=fun _ _ h=>h
theorem Same.trans {H H1 H2:Hp}(a:Same H H1)(b:Same H1 H2):Same H H2:=fun c o h=>b c o (a c o h)
theorem Same.free {H H':Hp}(e:Same H H'){l:Addr}(h:H' l=Option.none):H l=Option.none:=by
 cases q:H l with
 | none=>rfl
 | some o =>
   rw[e l o q] at h
   cases h
theorem Same.seq {K:PySem.W.Frag}{H H':Hp}{a:Addr}{xs:List V}(e:Same H H')(h:SqL K H a xs):SqL K H' a xs:=by
 rcases h with(h | ⟨o,h⟩) | h
 · exact .inl (.inl (e _ _ h))
 · exact .inl (.inr ⟨o,e _ _ h⟩)
 · exact .inr h
section
variable {prog:Program} {w:World} {A:Around} {R:Result->Shared->Prop} {s:Shared}
abbrev F0:Value->Shared->Prop:=fun _ _=>False
theorem zYu {α:Type}{t:Sem α}{Q Q':α->Shared->Prop}{M:Model}{A:Around}{E:Value->Shared->Prop}{s:Shared}(h:wpAny M A t Q F0 s)(hq:∀a s,Q a s->Q' a s):wpAny M A t Q' E s:=Eu h hq fun _ _ z=>z.elim
theorem zZ5 {elt target iter:Expr}{ifs:List Expr}{scope:Scope}{pos:Pos}{it acc:Value}{env:Env}(I:Nat->Shared->Prop)
   (turn:∀n s,I n s->wpAny (model prog w) A (pyNext it) (fun r s₁=>match r with
     | none=>R (.ok .next) s₁
     | some v=>wpAny (model prog w) A (letOwnedTupleGo target it v) (fun _ s₁=>wpAny (model prog w) A (assign target env v) (fun _ s₂ =>
         wpAny (model prog w) A (forIn ifs true fun c r=>if r=true then do let ok ←isTrue c env (eval c env);pure (ForInStep.yield ok) else pure (ForInStep.yield r)) (fun ok s₃ =>
           if ok=true then wpAny (model prog w) A (eval elt env) (fun x s₄ =>
             wpAny (model prog w) A (call (.builtin "list.append") [acc,x]) (fun _ s₅ => ∃m,m < n/\I m s₅) F0 s₄) F0 s₃
           else ∃m,m < n/\I m s₃) F0 s₂) F0 s₁) F0 s₁) F0 s)
   (n:Nat) (h:I n s) :
   codeAny (model prog w) A (.compLoop (.ListComp elt [⟨target,iter,ifs,0⟩] scope pos) 0 it acc env) R s:=by
 refine codeAny_loop rfl I (fun n s hI=>?_) n h
 show wpAny _ A ((compTurn (.ListComp elt [⟨target,iter,ifs,0⟩] scope pos) 0 it acc env).onRaise (fun x=>do noteFrame x env;theTreesLotGoes x)) _ _ s
 refine wpAny_noted ?_
 rw[compTurn_list]
 refine Qe (Uq (Qe (zYu (turn n s hI) (fun r s₁ h₁=>?_))))
 cases r with
 | none=>exact Qa h₁
 | some v =>
   refine Qe (zYu h₁ fun _ s₁' h₁'=>?_)
   refine Qe (zYu h₁' fun _ s₂ h₂=>Qe (zYu h₂ fun ok s₃ h₃ => ?_))
   cases ok with
   | false=>exact Qa ⟨rfl,h₃⟩
   | true =>
     exact Qe (Qe (zYu h₃ fun x s₄ h₄ => Qe (zYu h₄ fun _ s₅ h₅ => Qa (Qa ⟨rfl,h₅⟩))))
end
theorem kS {env:Env}(x:Str):∀(names:List (Str×NameKind)),
   (names.map fun(n,k)=>if (k==NameKind.free&&env.scope.kind == .function&&env.kindOf n==some .cell) then(n,NameKind.cell) else(n,k)).lookup x
     = (names.lookup x).map fun k=>if (k==NameKind.free&&env.scope.kind == .function&&env.kindOf x==some .cell)=true then NameKind.cell else k
 | []=>rfl
 | (n,k)::r=>by
   have ih:=kS (env:=env) x r
   rw[Qx]
   cases hx:x==n with
   | true =>
     have e:x=n:=eq_of_beq hx
     subst e
     by_cases hc:(k==NameKind.free&&env.scope.kind == .function&&env.kindOf x==some .cell)=true
     · simp only[hc,Ys,Wc,Td,Ed]
     · simp only[hc,Te,Wc,Td,Ed,Wb]
   | false =>
     by_cases hc:(k==NameKind.free&&env.scope.kind == .function&&env.kindOf n==some .cell)=true
     · simp only[hc,Ys,Wc,hx];exact ih
     · simp only[hc,Te,Wc,hx,Wb];exact ih
def jV (env:Env):List (Str×NameKind)->List (Str×Addr)->List (Str×Addr)
 | [],acc=>acc
 | (n,k)::r,acc=>jV env r (if k = .free then(match env.cells.lookup n with | some c=>(n,c)::acc | none=>acc) else acc)
theorem zV2 {env:Env}{scope:Scope}(h:∀p∈scope.names,p.2 = .free->∃c,env.cells.lookup p.1=some c):closureFor scope env=pure (jV env scope.names []):=by
 have gen:∀(l:List (Str×NameKind)) (acc:List (Str×Addr)),(∀p∈l,p.2 = .free->∃c,env.cells.lookup p.1=some c) ->
     (forIn l acc fun x r=>if (x.2==NameKind.free)=true then(do let a ←cellOf env x.1;pure (ForInStep.yield ((x.1,a)::r))) else pure (ForInStep.yield r):Sem (List (Str×Addr)))=pure (jV env l acc):=by
   intro l
   induction l with
   | nil=>intro acc _;rfl
   | cons p r ih =>
     intro acc hp
     obtain⟨n,k⟩:=p
     rw[Ic]
     have hr:∀p∈r,p.2 = .free->∃c,env.cells.lookup p.1=some c:=fun p hm=>hp p (Qi _ hm)
     by_cases hk:k = .free
     · subst hk
       obtain⟨c,hc⟩:=hp (n,.free) Qc rfl
       have e:cellOf env n=pure c:=by unfold cellOf;rw[hc]
       simp only[Td,Ys,e]
       show(forIn r ((n,c)::acc) _:Sem _)=_
       rw[ih _ hr]
       show _=(pure (jV env r (if NameKind.free=NameKind.free then(match env.cells.lookup n with | some c=>(n,c)::acc | none=>acc) else acc)):Sem _)
       rw[Wr rfl,hc]
     · have hb:(k==NameKind.free)=false:=by simpa using hk
       simp only[hb,Wb,Te]
       show(forIn r acc _:Sem _)=_
       rw[ih _ hr]
       show _=(pure (jV env r (if k=NameKind.free then(match env.cells.lookup n with | some c=>(n,c)::acc | none=>acc) else acc)):Sem _)
       rw[Wj hk]
 have q:=gen scope.names [] h
 simp only[closureFor]
 rw[q]
 rfl
theorem aZ {env:Env}:∀(l:List (Str×NameKind)) (acc:List (Str×Addr)),(∀x c,acc.lookup x=some c->env.cells.lookup x=some c)->∀x c,(jV env l acc).lookup x=some c->env.cells.lookup x=some c
 | [],_,h=>h
 | (n,k)::r,acc,h=>by
   refine aZ r _ ?_
   by_cases hk:k = .free
   · rw[Wr hk]
     cases e:env.cells.lookup n with
     | none=>exact h
     | some c =>
       intro x c' hx
       rw[Wc] at hx
       cases q:x==n with
       | true=>rw[q] at hx;cases hx;rw[eq_of_beq q];exact e
       | false=>rw[q] at hx;exact h x c' hx
   · rw[Wj hk];exact h
theorem zWH {env:Env}:∀(l:List (Str×NameKind)) (acc:List (Str×Addr)) (x:Str),(acc.lookup x).isSome=true->((jV env l acc).lookup x).isSome=true
 | [],_,_,h=>h
 | (n,k)::r,acc,x,h=>by
   refine zWH r _ x ?_
   by_cases hk:k = .free
   · rw[Wr hk]
     cases e:env.cells.lookup n with
     | none=>exact h
     | some c =>
       show(List.lookup x ((n,c)::acc)).isSome=true
       rw[Wc]
       cases q:x==n with
       | true=>rfl
       | false=>exact h
   · rw[Wj hk];exact h
theorem zZz {env:Env}:∀(l:List (Str×NameKind)) (acc:List (Str×Addr)),(∀p∈l,p.2 = .free->∃c,env.cells.lookup p.1=some c)->∀x,(x,NameKind.free)∈l->((jV env l acc).lookup x).isSome=true
 | [],_,_,_,h=>nomatch h
 | (n,k)::r,acc,hp,x,h=>by
   rcases Qf.mp h with e | h
   · cases e
     obtain⟨c,hc⟩:=hp (n,.free) Qc rfl
     show((jV env r (if NameKind.free=NameKind.free then(match env.cells.lookup n with | some c=>(n,c)::acc | none=>acc) else acc)).lookup n).isSome=true
     rw[Wr rfl,hc]
     exact zWH r _ n (by simp[Wc])
   · exact zZz r _ (fun p hm=>hp p (Qi _ hm)) x h
def lX (sc scope:Scope)(N tgs frees:List Str)(js:List Nat):Bool :=
 scope.kind == .function&&scope.names.all (fun p=>p.2 != .cell&&(p.2 != .free||sc.names.lookup p.1==some .cell||sc.names.lookup p.1==some .free)&&(p.2 != .local||scope.names.lookup p.1==some .local))
   && tgs.all (fun x=>scope.names.lookup x==some .local)&&frees.all (fun x=>scope.names.lookup x==some .free)&&(js.map fun j=>N[j]?)==frees.map some
def upC (m:Nat)(js:List Nat)(σ:St):St:=List.replicate m none++js.map fun j=>(σ[j]?).join
def vN (X:Cx)(Nc:List Str)(scope:Scope)(C:Addr)(s₀:Shared)(H₀:Hp)(fp:List Addr):Cx where
 prog:=X.prog
 w:=X.w
 K:=X.K
 mg:=X.mg
 base:=X.base
 A:=X.A
 N:=Nc
 s₀:=s₀
 H₀:=H₀
 env:=compEnvC scope (jV X.env scope.names []) C X.env
 outer:=X.stack
 stack:=X.stack
 ex:=fp
 fn:=fun _=>false
 calm:=X.calm
 pn:=[]
 xe:=F0
def zTp (X:Cx)(ifs:List Expr)(t:TT):Prop :=
 ∀(pins:List (Addr×Obj)) (s:Shared) (σ:St) (H:Hp) (Q:Bool->Hp->Prop),Inv X pins σ H s->t σ H Q ->
   wpAny (model X.prog X.w) X.A (forIn ifs true fun c r=>if r=true then do let ok ←isTrue c X.env (eval c X.env);pure (ForInStep.yield ok) else pure (ForInStep.yield r)) (TP X pins σ Q) X.xe s
def zM7:TT:=fun _ H Q=>Q true H
theorem zRP {X:Cx}:zTp X [] zM7:=fun _ _ _ H _ I h=>wpAny_tests_nil ⟨H,I,h⟩
def zNI (J:It)(m:Nat)(js:List Nat)(g:TG)(tc:TT)(te:TE)(σ:St)(H1:Hp)(Q:VK):Prop:=∀D,H1 D=none ->
 ∃W:Nat->Nat->St->Hp->Prop,(∃k,W 0 k (upC m js σ) (upd H1 D (.lst [])))/\∀i k σ' H',W i k σ' H' ->
   (J.stop i H'/\Q (.ref D) H')∨(J.go i H'/\∀x H2,J.yld i H' x H2->g x σ' H2 fun σ2 H3=>tc σ2 H3 fun b H4=>if b=true then te σ2 H4 fun y H5=>∃ys k',H5 D=some (.lst ys)/\ys.length < sizeLine/\k' < k/\W (i+1) k' σ2 (upd H5 D (.lst (ys++[y])))
     else ∃k',k' < k/\W (i+1) k' σ2 H4)
section
variable {X:Cx} {pins:List (Addr×Obj)} {σ:St} {H2:Hp} {s2:Shared} {tg elt iter:Expr} {ifs:List Expr} {scope sc:Scope} {pos:Pos} {tgs frees:List Str} {js:List Nat} {g:TG} {te:TE} {tc:TT}
theorem sS {N:List Str}(h:lX sc scope N tgs frees js=true):scope.kind = .function/\(∀p∈scope.names,p.2 ≠ .cell)/\(∀p∈scope.names,p.2 = .free->sc.names.lookup p.1=some .cell∨sc.names.lookup p.1=some .free) /\
   (∀p∈scope.names,p.2 = .local->scope.names.lookup p.1=some .local)/\(∀x∈tgs,scope.names.lookup x=some .local)/\(∀x∈frees,scope.names.lookup x=some .free)/\(js.map fun j=>N[j]?)=frees.map some:=by
 unfold lX at h
 simp only[Qg,Wq,bne_iff_ne,ne_eq,Rv,Eh] at h
 obtain⟨⟨⟨⟨h1,h2⟩,h3⟩,h4⟩,h5⟩:=h
 refine⟨h1,fun p hp=>(h2 p hp).1.1,fun p hp e=>?_,fun p hp e=>?_,h3,h4,h5⟩
 · rcases(h2 p hp).1.2 with(q | q) | q
   · exact absurd e q
   · exact .inl q
   · exact .inr q
 · rcases(h2 p hp).2 with q | q
   · exact absurd e q
   · exact q
theorem zVh {C:Addr}{s3:Shared}{H3:Hp}{h4:Heap}{tk:Nat}{fp:List Addr}{m0:Str->Option Value}(I:Inv X pins σ H3 s3)(f3:∀b∈fp,nN X pins H3 b)(ofp:∀b∈fp,b < s3.heap.objs.size)
   (hsc:X.env.scope=sc) (hok:lX sc scope X.N tgs frees js=true) (hC:C=s3.heap.objs.size) (hk:∀b o,s3.heap.get? b=some o->h4.get? b=some o) (hn:h4.Ns C m0) :
   Inv (vN X (tgs++frees) scope C s3 H3 fp) [] (upC tgs.length js σ) H3 { s3 with heap:=h4,toks:=tk }:=by
 obtain⟨k1,k2,k3,k4,k5,k6,k7⟩:=sS hok
 have hcl:∀x c,(jV X.env scope.names []).lookup x=some c->X.env.cells.lookup x=some c:=aZ scope.names [] (fun _ _ z=>nomatch z)
 have hfr:∀p∈scope.names,p.2 = .free->∃c,X.env.cells.lookup p.1=some c:=fun p hp e=>I.ok.has p.1 (by
   show X.env.scope.names.lookup p.1=_∨X.env.scope.names.lookup p.1=_
   rw[hsc];exact k3 p hp e)
 have rl:∀x,(relabel scope X.env).names.lookup x=(scope.names.lookup x).map fun k=>if (k==NameKind.free&&X.env.scope.kind == .function&&X.env.kindOf x==some .cell)=true then NameKind.cell else k:=fun x=>kS x scope.names
 have hasc:∀x,((relabel scope X.env).names.lookup x=some .cell∨(relabel scope X.env).names.lookup x=some .free)->∃c,(jV X.env scope.names []).lookup x=some c:=fun x hx=>by
   rw[rl x] at hx
   cases e:scope.names.lookup x with
   | none=>rw[e] at hx;simp at hx
   | some k =>
     have hm:=Ex e
     have hkf:k = .free:=by
       rw[e] at hx
       simp only[Ed,Option.some.injEq] at hx
       by_cases q:k = .free
       · exact q
       · have hb:(k==NameKind.free)=false:=by simpa using q
         rw[hb] at hx
         simp only[Bool.false_and,Wb,Te] at hx
         rcases hx with z | z
         · exact absurd z (k2 _ hm)
         · exact z
     subst hkf
     exact Rs.mp (zZz scope.names [] hfr x hm)
 have cfr:∀x c,X.env.cells.lookup x=some c->c≠C:=fun x c e z=>by
   obtain⟨v,q⟩:=I.cell x c e
   exact absurd (z ▸ q.lt) (by rw[hC];exact Wa _)
 have base0:∀b o,X.base.get? b=some o->b∉fp:=fun b o e hb=>by
   obtain⟨_,_,_,q,_⟩:=f3 b hb
   rcases q with q | q
   · exact I.ok.noex b o e q
   · exact absurd (Wu (Qy (I.ok.bs b o e).1) q) (Wa _)
 have stk:∀b∈fp,b∉frs X.stack:=fun b hb z=>by
   obtain⟨_,q1,q2,_⟩:=f3 b hb
   rcases Qf.mp (I.stkSub b z) with e | e
   · exact q1 e
   · exact q2 e
 refine⟨⟨I.ok.mod,k1,I.ok.glob,I.ok.blt,by rw[hC];exact Ql _,fun x y c e1 e2=>I.ok.inj x y c (hcl x c e1) (hcl y c e2),hasc,(fun x c z _=>nomatch z),I.ok.hd,I.ok.frames,.inl rfl,
     fun b hb=>⟨fun z=>absurd (ofp b hb) (by rw[show b=C from z,hC];exact Wa _),fun x c e=>(f3 b hb).2.2.2.2.1 x c (hcl x c e)⟩,
     fun b o e=>I.bs b o e,Wv I.ok.bsz I.sz,base0,stk,I.stack,I.stkFree⟩,
   rfl,I.bare,Un.kept hk,⟨m0,hn,fun i x v e1 e2 e3=>?_⟩,fun x c e=>?_,I.hok.fresh (by rw[show(vN X (tgs++frees) scope C s3 H3 fp).env.locals=C from rfl,hC];exact Ql _),fun x c e=>I.freeC x c (hcl x c e),
   fun p hp=>absurd (show p∈([]:List (Addr×Obj)) from hp) (by simp),I.hok.kept hk,?_⟩
 · -- a name's value
   have hi:tgs.length<=i:=by
     refine Nat.le_of_not_lt fun hlt=>?_
     have e2:(upC tgs.length js σ)[i]?=some (some v):=e2
     unfold upC at e2
     rw[Wn (by simpa using hlt),En] at e2
     split at e2<;>cases e2
   have e2:(upC tgs.length js σ)[i]?=some (some v):=e2
   unfold upC at e2
   rw[Ee (by simpa using hi),Ui,Wx] at e2
   have e1:(tgs++frees)[i]?=some x:=e1
   rw[Ee hi] at e1
   obtain⟨j,ej,e2⟩:=Qt.mp e2
   have hj:X.N[j]?=some x:=by
     have q:=Ec (fun l=>l[i - tgs.length]?) k7
     simp only[Wx,ej,e1,Ed] at q
     exact Wo q
   have hσ:σ[j]?=some (some v):=by
     cases q:σ[j]? with
     | none=>rw[q] at e2;cases e2
     | some o=>rw[q] at e2;exact Ec some e2
   have hf:scope.names.lookup x=some .free:=k6 x (Rp e1)
   have hX:X.env.kindOf x=some .cell∨X.env.kindOf x=some .free:=by
     show X.env.scope.names.lookup x=_∨X.env.scope.names.lookup x=_
     rw[hsc];exact k3 _ (Ex hf) rfl
   obtain⟨m,_,hl⟩:=I.loc
   obtain⟨u,r,l⟩:=hl j x v hj hσ (by
     rcases hX with q | q
     · exact .inr (.inl q)
     · exact .inr (.inr q))
   refine⟨u,r,.inr ⟨?_,?_⟩⟩
   · show(relabel scope X.env).names.lookup x=_∨(relabel scope X.env).names.lookup x=_
     rw[rl x,hf]
     by_cases q:(NameKind.free==NameKind.free&&X.env.scope.kind == .function&&X.env.kindOf x==some .cell)=true
     · exact .inl (by rw[Ed,Wr q])
     · exact .inr (by rw[Ed,Wj q])
   · rcases l with⟨q,_⟩ | ⟨_,c,ec,hcell⟩
     · rcases hX with z | z<;>(rw[z] at q;cases q)
     · obtain⟨c',ec'⟩:=Rs.mp (zZz scope.names [] hfr x (Ex hf))
       have e:c'=c:=Wo ((hcl x c' ec').symm.trans ec)
       subst e
       obtain⟨o,ho,hd⟩:=hcell
       exact⟨c',ec',o,hk _ _ ho,hd⟩
 · obtain⟨v,o,ho,hd⟩:=I.cell x c (hcl x c e)
   exact⟨v,o,hk _ _ ho,hd⟩
 · show(upC tgs.length js σ).length=(tgs++frees).length
   have q:=Ec List.length k7
   rw[Qu,Qu] at q
   unfold upC
   rw[Qd,Ui,Qu,Qd,q]
theorem bQ {J:It}{fp:List Addr}{it:Addr}{tn:Nat->Heap->Prop}{RR:Value->Addr->Result->Shared->Prop}{E:Value->Shared->Prop}{Q:VK}
   (I2:Inv X pins σ H2 s2) (T:Turn X.prog X.w X.K tg J fp it tn) (st2:tn 0 s2.heap) (f2:∀b∈fp,nN X pins H2 b) (hc:X.calm=true)
   (hsc:X.env.scope=sc) (hok:lX sc scope X.N tgs frees js=true)
   (hg:∀C s₀ H₀ fp,PG (vN X (tgs++frees) scope C s₀ H₀ fp) tg g) (hi:∀C s₀ H₀ fp,zTp (vN X (tgs++frees) scope C s₀ H₀ fp) ifs tc) (he:∀C s₀ H₀ fp,PE (vN X (tgs++frees) scope C s₀ H₀ fp) elt te)
   (hw:zNI J tgs.length js g tc te σ H2 Q)
   (hRR:∀D C s' H' m,Inv X pins σ H' s'->Q (.ref D) H'->nN X pins H' C->s'.heap.Ns C m->RR (.ref D) C (.ok .next) s') :
   wpAny (model X.prog X.w) X.A (newList []) (fun acc s₃ => wpAny (model X.prog X.w) X.A (newFunctionEnv scope X.env.globals (jV X.env scope.names []) [] X.env.qual none .none (some X.env)) (fun cenv s₄ =>
     codeAny (model X.prog X.w) X.A (.compStart (.ListComp elt [⟨tg,iter,ifs,0⟩] scope pos) 0 (.ref it) acc { cenv with scope:=relabel scope X.env }) (RR acc cenv.locals) s₄) E s₃) E s2:=by
 obtain⟨k1,k2,k3,k4,k5,k6,k7⟩:=sS hok
 refine Yt (wpAny_newFunctionEnv k2 (by intro y hy;simp at hy) (fun h4 hn4 hs4=>?_) k1)
 dsimp only at hn4 hs4 ⊢
 generalize hh3:s2.heap.push { cls:=.type "list",dict:=none,data:=.seq ([]:List Value).toArray }=h3 at hn4 hs4 ⊢
 generalize hD:s2.heap.objs.size=D
 have hDn:H2 D=none:=by rw[←hD];exact I2.fresh
 have hsz3:h3.objs.size=D+1:=by rw[←hh3,Tp,hD]
 have keep23:∀b o,s2.heap.get? b=some o->h3.get? b=some o:=fun b o e=>by rw[←hh3];exact Qr _ e
 have keep34:∀b o,h3.get? b=some o->h4.get? b=some o:=fun b o e=>hs4.extBut b o (Wy (Qy e)) (Qr _ e)
 have I3:Inv X pins σ (upd H2 D (.lst [])) { s2 with heap:=h3 }:=by
   have q:=I2.lnew (its:=[]) (ys:=[]) (t':=s2.toks) .nil (Tb _)
   rw[hD] at q
   rw[←hh3]
   exact q
 have nfp:∀b∈fp,b≠D:=fun b hb z=>by
   obtain⟨o,e,_⟩:=T.obj 0 _ st2 b hb
   exact absurd (Qy e) (by rw[z,hD];exact Wa _)
 have f3:∀b∈fp,nN X pins (upd H2 D (.lst [])) b:=fun b hb=>by
   obtain⟨q0,q⟩:=f2 b hb
   exact⟨by rw[yS (nfp b hb)];exact q0,q⟩
 have ofp:∀b∈fp,b < h3.objs.size:=fun b hb=>by
   obtain⟨o,e,_⟩:=T.obj 0 _ st2 b hb
   exact Qy (keep23 b o e)
 obtain⟨W,⟨n0,w0⟩,turn⟩:=hw D hDn
 have loop:∀s4:Shared,s4={ s2 with heap:=h4,toks:=s2.toks+([]:List (Str×Value)).length } ->
     codeAny (model X.prog X.w) X.A (.compLoop (.ListComp elt [⟨tg,iter,ifs,0⟩] scope pos) 0 (.ref it) (.ref D) (compEnvC scope (jV X.env scope.names []) h3.objs.size X.env)) (RR (.ref D) h3.objs.size) s4:=by
   rintro s4 rfl
   generalize hX':vN X (tgs++frees) scope h3.objs.size { s2 with heap:=h3 } (upd H2 D (.lst [])) fp=X'
   have I4:Inv X' [] (upC tgs.length js σ) (upd H2 D (.lst [])) { s2 with heap:=h4,toks:=s2.toks+([]:List (Str×Value)).length }:=by
     rw[←hX']
     exact zVh (s3:={ s2 with heap:=h3 }) I3 f3 ofp hsc hok rfl keep34 hn4
   have eP:X'.prog=X.prog:=by rw[←hX'];rfl
   have eW:X'.w=X.w:=by rw[←hX'];rfl
   have eK:X'.K=X.K:=by rw[←hX'];rfl
   have eA:X'.A=X.A:=by rw[←hX'];rfl
   have eC:X'.calm=true:=by rw[←hX'];exact hc
   have T':Turn X'.prog X'.w X'.K tg J fp it tn:=by rw[eP,eW,eK];exact T
   have eE:X'.env=compEnvC scope (jV X.env scope.names []) h3.objs.size X.env:=by rw[←hX'];rfl
   have eX:X'.xe=F0:=by rw[←hX'];rfl
   have stat:∀ {H':Hp},(∀b∈fp,H' b=none)->∀b∈fp,nN X' [] H' b:=fun {H'} hn b hb=>by
     obtain⟨_,q1,q2,q3,q4,q5⟩:=f3 b hb
     rw[←hX']
     refine⟨hn b hb,?_,?_,.inl hb,fun x c e=>?_,fun p hp=>absurd (show p∈([]:List (Addr×Obj)) from hp) (by simp)⟩
     · exact fun z=>absurd (ofp b hb) (by rw[show b=h3.objs.size from z];exact Wa _)
     · intro z
       rcases Qf.mp (I3.stkSub b z) with e | e
       · exact q1 e
       · exact q2 e
     · exact q4 x c (aZ scope.names [] (fun _ _ z=>nomatch z) x c e)
   have hgX:PG X' tg g:=by rw[←hX'];exact hg _ _ _ _
   have hiX:zTp X' ifs tc:=by rw[←hX'];exact hi _ _ _ _
   have heX:PE X' elt te:=by rw[←hX'];exact he _ _ _ _
   refine zZ5 (fun n s'=>∃i σ' H',Inv X' [] σ' H' s'/\tn i s'.heap/\(∀b∈fp,H' b=none)/\W i n σ' H') ?_ n0 ⟨0,_,_,I4,T.keep 0 _ _ st2 (fun b _ o e=>keep34 b o (keep23 b o e)),fun b hb=>(f3 b hb).1,w0⟩
   rintro n s5 ⟨i,σ5,H5,I5,st5,fr5,w5⟩
   rw[←eP,←eW,←eE,←eA]
   rcases turn i n σ5 H5 w5 with⟨stop,qn⟩ | ⟨go,step⟩
   · refine thn (T'.done X' rfl rfl rfl eC i [] s5 σ5 H5 F0 I5 (stat fr5) st5 stop) fun r s6 ⟨hr,I6⟩=>?_
     subst hr
     have un:Un (frs X.stack) fp H2 H5 s2.heap s6.heap:=by
       have u1:Un (frs X.stack) fp H2 (upd H2 D (.lst [])) s2.heap h3:=Un.laid keep23 (Nat.le_of_eq hD) hDn
       have u2:=I6.base
       rw[←hX'] at u2
       exact u1.trans u2
     have hpx:HOk X.prog X.w H5 s6.heap:=by have q:=I6.hok;rw[eP,eW] at q;exact q
     have hos:s6.os=s2.os:=by have q:=I6.os;rw[←hX'] at q;exact q
     have IX:Inv X pins σ H5 s6:=I2.call' (ch:=fp) hos un hpx I6.bare fun b hb=>⟨(f2 b hb).2.2.2.1,(f2 b hb).2.1,(f2 b hb).2.2.2.2.1,(f2 b hb).2.2.2.2.2⟩
     obtain⟨m,hm,_⟩:=I6.loc
     have hloc:X'.env.locals=h3.objs.size:=by rw[eE];rfl
     rw[hloc] at hm
     have hle:s2.heap.objs.size<=h3.objs.size:=by rw[hD,hsz3];exact Yw _
     refine hRR D h3.objs.size s6 H5 m IX qn (I2.fpOk hle ?_) hm
     have q:=I6.free
     rw[hloc] at q
     exact q
   · refine thn (T'.item X' rfl rfl rfl eC i [] s5 σ5 H5 F0 I5 (stat fr5) st5 go) fun r s6 ⟨u,hr,h6⟩=>?_
     subst hr
     refine thn h6 fun _ s7 ⟨x,H7,I7,r7,y7,st7,fr7⟩=>?_
     have I7':=I7.pinned (stat fr7) (T.obj _ _ st7)
     have xe0:X'.xe=F0:=eX
     have conv:∀ {α:Type} {t:Sem α} {Q:α->Shared->Prop} {s:Shared},wpAny (model X'.prog X'.w) X'.A t Q X'.xe s->wpAny (model X'.prog X'.w) X'.A t Q F0 s:=fun h=>by rw[xe0] at h;exact h
     refine thn (conv (hgX _ s7 σ5 H7 x u _ I7' r7 (step x H7 y7))) fun _ s8 ⟨σ8,H8,I8,q8⟩=>?_
     refine thn (conv (hiX _ s8 σ8 H8 _ I8 q8)) fun ok s9 ⟨H9,I9,q9⟩=>?_
     have again:∀ {σz:St} {Hz:Hp} {sz:Shared} {k':Nat},Inv X' ([]++eY fp s7.heap) σz Hz sz->k' < n->W (i+1) k' σz Hz->∃m,m < n/\∃i σ' H',Inv X' [] σ' H' sz/\tn i sz.heap/\(∀b∈fp,H' b=none)/\W i m σ' H':=fun {σz Hz sz k'} Iz hk wz=>by
       refine⟨k',hk,i+1,σz,Hz,Iz.unpinned,T.keep _ _ _ st7 fun b hb o e=>(Iz.pin (b,o) (Wp _ (Wp _ (sD hb e)))).1,fun b hb=>?_,wz⟩
       obtain⟨o,e,d⟩:=T.obj _ _ st7 b hb
       exact(Iz.pin (b,o) (Wp _ (Wp _ (sD hb e)))).2.1
     cases ok with
     | false =>
       rw[Wj (by decide)] at q9
       rw[Wj (by decide)]
       obtain⟨k',hk,wz⟩:=q9
       exact again I9 hk wz
     | true =>
       rw[Wr rfl] at q9
       rw[Wr rfl]
       refine thn (conv (heX _ s9 σ8 H9 _ I9 q9)) fun v s10 ⟨y,H10,I10,r10,ys,k',hys,hl,hk,wz⟩=>?_
       refine thn (conv (qF (X:=X') _ s10 σ8 H10 (.ref D) [y] (.ref D) [v] (fun z Hz=>W (i+1) k' σ8 Hz) I10 rfl (.cons r10 .nil) ⟨D,ys,y,rfl,rfl,hys,hl,wz⟩)) fun _ s11 ⟨_,H11,I11,_,q11⟩=>?_
       exact again I11 hk q11
 rw[show s2.heap.objs.size=D from hD] at *
 exact codeAny_compStart_list (loop _ rfl) (T.self _ 0 _ _ _ (T.keep 0 _ _ st2 fun b _ o e=>keep34 b o (keep23 b o e)) (loop _ rfl))
def zRF (wi:TI)(m:Nat)(js:List Nat)(g:TG)(tc:TT)(te:TE):TE:=fun σ H Q=>wi σ H fun J H1=>zNI J m js g tc te σ H1 Q
theorem zZ6 (ok:X.Ok)(hsc:X.env.scope=sc)(hok:lX sc scope X.N tgs frees js=true):closureFor scope X.env=pure (jV X.env scope.names []) :=
 zV2 fun p hp e=>ok.has p.1 (by
   show X.env.scope.names.lookup p.1=_∨X.env.scope.names.lookup p.1=_
   rw[hsc];exact(sS hok).2.2.1 p hp e)
theorem zPU (sc:Scope)(tgs frees:List Str)(js:List Nat){wi:TI}(hp:PI X tg iter wi)(hc:X.calm=true)(hsc:X.env.scope=sc)(hok:lX sc scope X.N tgs frees js=true)
   (hg:∀C s₀ H₀ fp,PG (vN X (tgs++frees) scope C s₀ H₀ fp) tg g) (hi:∀C s₀ H₀ fp,zTp (vN X (tgs++frees) scope C s₀ H₀ fp) ifs tc) (he:∀C s₀ H₀ fp,PE (vN X (tgs++frees) scope C s₀ H₀ fp) elt te)
   (hs:∀x,foldedSetIterable iter X.env x=pure x:=by intro _;rfl) :
   PE X (.ListComp elt [⟨tg,iter,ifs,0⟩] scope pos) (zRF wi tgs.length js g tc te):=by
 intro pins s σ H Q I h
 obtain⟨k1,k2,k3,k4,k5,k6,k7⟩:=sS hok
 rw[eval_ListComp]
 refine wpAny_comprehension_free (use:=none) rfl hs (zZ6 I.ok hsc hok) k1 k4 (thn (hp pins s σ H _ I h) fun v s1 h1=>thn h1 fun itv s2 h2=>?_)
 obtain⟨it,fp,tn,J,H2,e,I2,T,st2,f2,hw⟩:=h2
 subst e
 refine bQ (RR:=fun acc C=>compPost (model X.prog X.w) X.A X.xe none (EP X pins σ Q) acc C) I2 T st2 f2 hc hsc hok hg hi he hw ?_
 intro D C s' H' m I' q fC hn
 refine⟨m,hn,fun h' hs'=>⟨.ref D,H',?_,rfl,q⟩⟩
 obtain⟨c0,c1,c2,c3,c4,c5⟩:=fC
 exact I'.turned (t':=s'.toks) (fun b o hb e=>hs'.extBut b o hb e) c0 c1 c3 c4 c5
theorem zVS (sc:Scope)(tgs frees:List Str)(js:List Nat){wi:TI}{i:Nat}{x:Str}{pos' spos:Pos}(hN:X.N.Nodup)(hx:X.N[i]?=some x)(hl:X.env.scope.names.lookup x=some .local)
   (hp:PI X tg iter wi) (hc:X.calm=true) (hsc:X.env.scope=sc) (hok:lX sc scope X.N tgs frees js=true)
   (hg:∀C s₀ H₀ fp,PG (vN X (tgs++frees) scope C s₀ H₀ fp) tg g) (hi:∀C s₀ H₀ fp,zTp (vN X (tgs++frees) scope C s₀ H₀ fp) ifs tc) (he:∀C s₀ H₀ fp,PE (vN X (tgs++frees) scope C s₀ H₀ fp) elt te)
   (hsw:swapsWith (.ListComp elt [⟨tg,iter,ifs,0⟩] scope pos) (some (.Name x pos')) spos.line X.env=pure true:=by with_unfolding_all rfl) (hs:∀x,foldedSetIterable iter X.env x=pure x:=by intro _;rfl) :
   PS X (.Assign [.Name x pos'] (.ListComp elt [⟨tg,iter,ifs,0⟩] scope pos) spos) (zWP (zRF wi tgs.length js g tc te) (aP i)):=by
 intro pins s σ H D I h
 obtain⟨k1,k2,k3,k4,k5,k6,k7⟩:=sS hok
 rw[exec_Assign_Name_used _ _ _ _ hsw]
 refine Qe (Uq (Qe ?_))
 show wpAny _ X.A (do let _ ←comprehension (.ListComp elt [⟨tg,iter,ifs,0⟩] scope pos) scope X.env _ (newList []) false (eval iter X.env) (some (assign (.Name x pos') X.env))) _ _ s
 refine Qe (Eu (wpAny_comprehension_free (use:=some (assign (.Name x pos') X.env)) (Q:=fun _ s'=>SP X pins D .next s') rfl hs (zZ6 I.ok hsc hok) k1 k4
   (thn (hp pins s σ H _ I h) fun v s1 h1=>thn h1 fun itv s2 h2=>?_)) (fun _ s' hq=>Qa (Qa hq)) fun _ _ e=>e)
 obtain⟨it,fp,tn,J,H2,e,I2,T,st2,f2,hw⟩:=h2
 subst e
 refine bQ (RR:=fun acc C=>compPost (model X.prog X.w) X.A X.xe (some (assign (.Name x pos') X.env)) (fun _ s'=>SP X pins D .next s') acc C) I2 T st2 f2 hc hsc hok hg hi he hw ?_
 intro D' C s' H' m I' q fC hn
 obtain⟨c0,c1,c2,c3,c4,c5⟩:=fC
 show wpAny _ X.A (assign (.Name x pos') X.env (.ref D')) _ _ _
 refine wpAny_assign_Name (eZ (v:=V.ref D') I' hN hx (.inl hl) rfl (fun s3 I3 hb=>?_) (.inr hl))
 obtain⟨a,sb,ha⟩:=hb
 have hCa:C≠a:=by
   rcases ha with z | z
   · rw[z];exact c1
   · exact(c4 x a z).symm
 refine⟨m,hn.sameBut sb hCa,fun h' hs'=>⟨_,H',I3.turned (t':=s3.toks) (fun b o hb e=>hs'.extBut b o hb e) c0 c1 c3 c4 c5,q⟩⟩
end
inductive KT where
 | int (i:Int) | tup (l:List KT)
instance:DecidableEq KT:=fun _ _=>Classical.propDecidable _
def zPE:KT->Int
 | .int i=>hashInt i
 | .tup _=>0
def hK:Nat->KT->Int
 | n+1,.tup ks=>reduceHash (Builtin.Tuple.tupleHashOf (ks.map (hK n)))
 | _,k=>zPE k
def eF:List KT->List Addr->List Value->List DictEntry
 | k::ks,a::as,u::us=>⟨hK 8 k,.ref a,u⟩::eF ks as us
 | _,_,_=>[]
def nR (a:Addr)(ks:List KT)(as:List Addr)(vs:List V):Heap->Prop:=fun h =>
 ∃us,Vals vs us/\∃o es ep,h.get? a=some o/\o.ExactDict/\o.data = .dict es ep/\es.toList=eF ks as us
inductive D where
 | non | bl (b:Bool) | int (i:Int) | str (x:Str) | tup (ds:List D) | lst (ds:List D) | obj (c:Str) (ns:List Str) (ds:List D)
 /-- an exception of an own class -/
 | exc (c:Str) (ns:List Str) (ds:List D)
 deriving Inhabited
theorem Same.tup {K:PySem.W.Frag}{H H':Hp}{a:Addr}{xs:List V}(e:Same H H')(h:SqT K H a xs):SqT K H' a xs:=by
 rcases h with(h | ⟨o,h⟩) | h
 · exact .inl (.inl (e _ _ h))
 · exact .inl (.inr ⟨o,e _ _ h⟩)
 · exact .inr h
def ClsAt (K:PySem.W.Frag)(c:Str)(C:Addr):Prop:=PySem.W.nsIn K mainGlobals c=some (some (.ref C))
theorem ClsAt.one {K:PySem.W.Frag}{c:Str}{C C':Addr}(h:ClsAt K c C)(h':ClsAt K c C'):C'=C:=by
 have:=h.symm.trans h'
 cases this;rfl
def Xe (C a:Addr)(od:Option Addr):Heap->Prop:=fun h=>∃fs,h.get? a=some { cls:=.ref C,dict:=od,data:=.fields fs }
def Xd (dx:Addr)(fs:List (Str×V)):Heap->Prop:=fun h=>∃mA,h.Ns1 dx mA/\∀f,RelO (fs.lookup f) (mA f)
def XD (G:Hp):Option Addr->List (Str×V)->Prop
 | none,fs=>fs=[]
 | some dx,fs=>G dx=some (.ext (Xd dx fs))
theorem XD.mono {G G':Hp}(e:Same G G'):∀ {od:Option Addr} {fs:List (Str×V)},XD G od fs->XD G' od fs
 | none,_,h=>h
 | some _,_,h=>e _ _ h
mutual
def Rep (K:PySem.W.Frag)(G:Hp):D->V->Prop
 | .non,v=>v = .non
 | .bl b,v=>v = .bl b
 | .int i,v=>v = .int i
 | .str x,v=>v = .str x
 | .tup ds,v=>∃a vs,v = .ref a/\SqT K G a vs/\Reps K G ds vs
 | .lst ds,v=>∃a vs,v = .ref a/\SqL K G a vs/\Reps K G ds vs
 | .obj c ns ds,v=>∃C a dx vs,ClsAt K c C/\v = .ref a/\G a=some (.ins C dx (ns.zip vs))/\ns.length=ds.length/\Reps K G ds vs
 | .exc c ns ds,v=>∃C a od vs,ClsAt K c C/\v = .ref a/\G a=some (.ext (Xe C a od))/\XD G od (ns.zip vs)/\ns.length=ds.length/\Reps K G ds vs
def Reps (K:PySem.W.Frag)(G:Hp):List D->List V->Prop
 | [],vs=>vs=[]
 | d::r,vs=>∃v vr,vs=v::vr/\Rep K G d v/\Reps K G r vr
end
section
variable {K:PySem.W.Frag} {G G':Hp}
mutual
theorem Rep.mono (e:Same G G'):∀(d:D) (v:V),Rep K G d v->Rep K G' d v
 | .non,_,h=>by unfold Rep at h ⊢;exact h
 | .bl _,_,h=>by unfold Rep at h ⊢;exact h
 | .int _,_,h=>by unfold Rep at h ⊢;exact h
 | .str _,_,h=>by unfold Rep at h ⊢;exact h
 | .tup ds,_,h=>by
   unfold Rep at h ⊢
   obtain⟨a,vs,h1,h2,h3⟩:=h
   exact⟨a,vs,h1,e.tup h2,Reps.mono e ds vs h3⟩
 | .lst ds,_,h=>by
   unfold Rep at h ⊢
   obtain⟨a,vs,h1,h2,h3⟩:=h
   exact⟨a,vs,h1,e.seq h2,Reps.mono e ds vs h3⟩
 | .obj C ns ds,_,h=>by
   unfold Rep at h ⊢
   obtain⟨C,a,dx,vs,h0,h1,h2,h4,h3⟩:=h
   exact⟨C,a,dx,vs,h0,h1,e _ _ h2,h4,Reps.mono e ds vs h3⟩
 | .exc C ns ds,_,h=>by
   unfold Rep at h ⊢
   obtain⟨C,a,od,vs,h0,h1,h2,h5,h4,h3⟩:=h
   exact⟨C,a,od,vs,h0,h1,e _ _ h2,h5.mono e,h4,Reps.mono e ds vs h3⟩
theorem Reps.mono (e:Same G G'):∀(ds:List D) (vs:List V),Reps K G ds vs->Reps K G' ds vs
 | [],_,h=>by unfold Reps at h ⊢;exact h
 | d::r,_,h=>by
   unfold Reps at h ⊢
   obtain⟨v,vr,h1,h2,h3⟩:=h
   exact⟨v,vr,h1,Rep.mono e d v h2,Reps.mono e r vr h3⟩
end
theorem sP {v:V}:Rep K G .non v↔v = .non:=by unfold Rep;exact Iv
theorem xF {b:Bool}{v:V}:Rep K G (.bl b) v↔v = .bl b:=by unfold Rep;exact Iv
theorem zD {i:Int}{v:V}:Rep K G (.int i) v↔v = .int i:=by unfold Rep;exact Iv
theorem yU {x:Str}{v:V}:Rep K G (.str x) v↔v = .str x:=by unfold Rep;exact Iv
theorem xE {ds:List D}{v:V}:Rep K G (.tup ds) v↔∃a vs,v = .ref a/\SqT K G a vs/\Reps K G ds vs:=by
 constructor<;>(intro h;unfold Rep at *;exact h)
theorem xY {ds:List D}{v:V}:Rep K G (.lst ds) v↔∃a vs,v = .ref a/\SqL K G a vs/\Reps K G ds vs:=by
 constructor<;>(intro h;unfold Rep at *;exact h)
theorem cR {c:Str}{ns:List Str}{ds:List D}{v:V}:Rep K G (.obj c ns ds) v↔∃C a dx vs,ClsAt K c C/\v = .ref a/\G a=some (.ins C dx (ns.zip vs))/\ns.length=ds.length/\Reps K G ds vs:=by
 constructor<;>(intro h;unfold Rep at *;exact h)
theorem oU {c:Str}{ns:List Str}{ds:List D}{v:V}:Rep K G (.exc c ns ds) v↔∃C a od vs,ClsAt K c C/\v = .ref a/\G a=some (.ext (Xe C a od))/\XD G od (ns.zip vs)/\ns.length=ds.length/\Reps K G ds vs:=by
 constructor<;>(intro h;unfold Rep at *;exact h)
theorem yR {vs:List V}:Reps K G [] vs↔vs=[]:=by unfold Reps;exact Iv
theorem zG {d:D}{r:List D}{vs:List V}:Reps K G (d::r) vs↔∃v vr,vs=v::vr/\Rep K G d v/\Reps K G r vr:=by
 rw[Reps]
theorem Reps.length:∀ {ds:List D} {vs:List V},Reps K G ds vs->ds.length=vs.length
 | [],_,h=>by rw[yR] at h;rw[h];rfl
 | d::r,_,h=>by
   rw[zG] at h
   obtain⟨v,vr,rfl,_,h3⟩:=h
   rw[Qo,Qo,Reps.length h3]
theorem Reps.get:∀ {ds:List D} {vs:List V} {i:Nat} {d:D},Reps K G ds vs->ds[i]?=some d->∃v,vs[i]?=some v/\Rep K G d v
 | [],_,_,_,_,e=>by simp at e
 | d::r,_,0,_,h,e=>by
   rw[zG] at h
   obtain⟨v,vr,rfl,h2,h3⟩:=h
   simp at e;subst e
   exact⟨v,rfl,h2⟩
 | d::r,_,i+1,_,h,e=>by
   rw[zG] at h
   obtain⟨v,vr,rfl,h2,h3⟩:=h
   obtain⟨u,e1,e2⟩:=Reps.get h3 (by simpa using e)
   exact⟨u,by simpa using e1,e2⟩
theorem Reps.snoc:∀ {ds:List D} {vs:List V} {d:D} {v:V},Reps K G ds vs->Rep K G d v->Reps K G (ds++[d]) (vs++[v])
 | [],_,d,v,h,r=>by
   rw[yR] at h;subst h
   exact zG.mpr ⟨v,[],rfl,r,yR.mpr rfl⟩
 | e::t,_,d,v,h,r=>by
   rw[zG] at h
   obtain⟨u,vr,rfl,h2,h3⟩:=h
   exact zG.mpr ⟨u,vr++[v],rfl,h2,h3.snoc r⟩
theorem Reps.append:∀ {ds es:List D} {vs us:List V},Reps K G ds vs->Reps K G es us->Reps K G (ds++es) (vs++us)
 | [],_,_,_,h,r=>by rw[yR] at h;subst h;exact r
 | e::t,_,_,us,h,r=>by
   rw[zG] at h
   obtain⟨u,vr,rfl,h2,h3⟩:=h
   exact zG.mpr ⟨u,vr++us,rfl,h2,h3.append r⟩
theorem Reps.take:∀ {ds:List D} {vs:List V} (n:Nat),Reps K G ds vs->Reps K G (ds.take n) (vs.take n)
 | _,_,0,_=>by rw[List.take_zero,List.take_zero];exact yR.mpr rfl
 | [],_,_+1,h=>by rw[yR] at h;subst h;exact yR.mpr rfl
 | e::t,_,n+1,h=>by
   rw[zG] at h
   obtain⟨u,vr,rfl,h2,h3⟩:=h
   exact zG.mpr ⟨u,vr.take n,rfl,h2,h3.take n⟩
theorem Reps.drop:∀ {ds:List D} {vs:List V} (n:Nat),Reps K G ds vs->Reps K G (ds.drop n) (vs.drop n)
 | _,_,0,h=>h
 | [],_,_+1,h=>by rw[yR] at h;subst h;exact yR.mpr rfl
 | e::t,_,n+1,h=>by
   rw[zG] at h
   obtain⟨u,vr,rfl,h2,h3⟩:=h
   exact h3.drop n
theorem Reps.set:∀ {ds:List D} {vs:List V} {d:D} {v:V} (i:Nat),Reps K G ds vs->Rep K G d v->Reps K G (ds.set i d) (vs.set i v)
 | [],_,_,_,_,h,_=>by rw[yR] at h;subst h;exact yR.mpr rfl
 | e::t,_,d,v,0,h,r=>by
   rw[zG] at h
   obtain⟨u,vr,rfl,h2,h3⟩:=h
   exact zG.mpr ⟨v,vr,rfl,r,h3⟩
 | e::t,_,d,v,i+1,h,r=>by
   rw[zG] at h
   obtain⟨u,vr,rfl,h2,h3⟩:=h
   exact zG.mpr ⟨u,vr.set i v,rfl,h2,h3.set i r⟩
theorem Reps.erase:∀ {ds:List D} {vs:List V} (i:Nat),Reps K G ds vs->Reps K G (ds.eraseIdx i) (vs.eraseIdx i)
 | [],_,_,h=>by rw[yR] at h;subst h;exact yR.mpr rfl
 | e::t,_,0,h=>by
   rw[zG] at h
   obtain⟨u,vr,rfl,h2,h3⟩:=h
   exact h3
 | e::t,_,i+1,h=>by
   rw[zG] at h
   obtain⟨u,vr,rfl,h2,h3⟩:=h
   exact zG.mpr ⟨u,vr.eraseIdx i,rfl,h2,h3.erase i⟩
end
structure Step (G H G' H':Hp):Prop where
 hh:Same H H'
 gg:Same G G'
 sub:Same G' H'
 new:∀a,H a≠none->G' a=G a
theorem Step.refl {G H:Hp}(h:Same G H):Step G H G H:=⟨Same.refl _,Same.refl _,h,fun _ _=>rfl⟩
theorem Step.trans {G H G1 H1 G2 H2:Hp}(a:Step G H G1 H1)(b:Step G1 H1 G2 H2):Step G H G2 H2 :=
 ⟨a.hh.trans b.hh,a.gg.trans b.gg,b.sub,fun c hc=>(b.new c (fun z=>hc (a.hh.free z))).trans (a.new c hc)⟩
theorem Same.new {H:Hp}{p:Addr}{o:HO}(hp:H p=none):Same H (upd H p o):=fun b u e=>by rw[yS (yK e hp)];exact e
theorem Step.laid {G H:Hp}{p:Addr}{o:HO}(s:Same G H)(hp:H p=none):Step G H (upd G p o) (upd H p o):=by
 refine⟨Same.new hp,Same.new (s.free hp),fun b u e=>?_,fun a ha=>?_⟩
 · by_cases hb:b=p
   · subst hb;rw[zN] at e ⊢;exact e
   · rw[yS hb] at e ⊢;exact s b u e
 · exact yS (fun z:a=p=>ha (by rw[z];exact hp))
theorem Step.own {G H:Hp}{p:Addr}{o:HO}(s:Same G H)(hp:H p=none):Step G H G (upd H p o) :=
 ⟨Same.new hp,Same.refl _,s.trans (Same.new hp),fun _ _=>rfl⟩
theorem Step.frz {G H G' H':Hp}{p:Addr}{o:HO}(s:Step G H G' H')(hp:H p=none)(h':H' p=some o)(g':G' p=none):Step G H (upd G' p o) H':=by
 refine⟨s.hh,s.gg.trans (Same.new g'),fun b u e=>?_,fun a ha=>?_⟩
 · by_cases hb:b=p
   · subst hb;rw[zN] at e;rw[h'];exact e
   · rw[yS hb] at e;exact s.sub b u e
 · rw[yS (fun z:a=p=>ha (by rw[z];exact hp))];exact s.new a ha
inductive B where
 | no | fz (d:D) | ow (ds:List D)
 /-- a dict of its own: keys and values -/
 | od (kvs:List (D×D))
 deriving Inhabited
def zVQ (f:D->Option KT):List D->Option (List KT)
 | []=>some []
 | d::r=>(f d).bind fun k=>(zVQ f r).map fun ks=>k::ks
def ktD:Nat->D->Option KT
 | _,.int i=>some (.int i)
 | _,.bl b=>some (.int (if b then 1 else 0))
 | n+1,.tup ds=>(zVQ (ktD n) ds).map .tup
 | _,_=>none
inductive ODs (K:PySem.W.Frag)(G:Hp):List (D×D)->List KT->List Addr->List V->Prop
 | nil:ODs K G [] [] [] []
 | cons {d e:D} {k:KT} {a:Addr} {v:V} {kvs:List (D×D)} {ks:List KT} {as:List Addr} {vs:List V}:ktD 8 d=some k->Rep K G d (.ref a)->Rep K G e v->ODs K G kvs ks as vs->ODs K G ((d,e)::kvs) (k::ks) (a::as) (v::vs)
theorem ODs.mono {K:PySem.W.Frag}{G G':Hp}(h:Same G G'):∀ {kvs ks as vs},ODs K G kvs ks as vs->ODs K G' kvs ks as vs
 | _,_,_,_,.nil=>.nil
 | _,_,_,_,.cons h1 h2 h3 h4=>.cons h1 (h2.mono h) (h3.mono h) (ODs.mono h h4)
inductive RB (K:PySem.W.Frag)(H0 G H:Hp):Option V->B->Prop where
 | no {o:Option V}:RB K H0 G H o .no
 | fz {v:V} {d:D}:Rep K G d v->RB K H0 G H (some v) (.fz d)
 | ow {a:Addr} {vs:List V} {ds:List D}:H a=some (.lst vs)->G a=none->H0 a=none->Reps K G ds vs->RB K H0 G H (some (.ref a)) (.ow ds)
 | od {a:Addr} {kvs:List (D×D)} {ks:List KT} {as:List Addr} {vs:List V}:H a=some (.ext (nR a ks as vs))->G a=none->H0 a=none->ODs K G kvs ks as vs->ks.Nodup->(a==sysModules)=false->RB K H0 G H (some (.ref a)) (.od kvs)
structure Good (K:PySem.W.Frag)(G0 H0 G H:Hp)(σ:St)(ρ:List B):Prop where
 st:Step G0 H0 G H
 vals:Paired (RB K H0 G H) σ ρ
 apart:∀(i j:Nat) (a:Addr) (ds es:List D),ρ[i]?=some (.ow ds)->ρ[j]?=some (.ow es)->σ[i]?=some (some (.ref a))->σ[j]?=some (some (.ref a))->i=j
theorem Paired.get {α β:Type}{F:α->β->Prop}:∀ {l:List α} {r:List β} {i:Nat} {b:β},Paired F l r->r[i]?=some b->∃a,l[i]?=some a/\F a b
 | _,_,_,_,.nil,e=>by simp at e
 | _,_,0,_,.cons h _,e=>by simp at e;subst e;exact⟨_,rfl,h⟩
 | _,_,i+1,b,.cons _ t,e=>by
   obtain⟨a,h1,h2⟩:=Paired.get (i:=i) (b:=b) t (by simpa using e)
   exact⟨a,by simpa using h1,h2⟩
theorem Paired.set {α β:Type}{F:α->β->Prop}{a:α}{b:β}(h:F a b):∀ {l:List α} {r:List β} (i:Nat),Paired F l r->Paired F (l.set i a) (r.set i b)
 | _,_,_,.nil=>.nil
 | _,_,0,.cons _ t=>.cons h t
 | _,_,i+1,.cons q t=>.cons q (Paired.set h i t)
theorem RB.step {K:PySem.W.Frag}{H0 G H G' H':Hp}{o:Option V}{b:B}(r:RB K H0 G H o b)(s:Step G H G' H'):RB K H0 G' H' o b:=by
 cases r with
 | no=>exact .no
 | fz q=>exact .fz (q.mono s.gg)
 | ow h1 h2 h3 h4=>exact .ow (s.hh _ _ h1) ((s.new _ (by rw[h1];exact fun z=>nomatch z)).trans h2) h3 (h4.mono s.gg)
 | od h1 h2 h3 h4 h5 h6=>exact .od (s.hh _ _ h1) ((s.new _ (by rw[h1];exact fun z=>nomatch z)).trans h2) h3 (h4.mono s.gg) h5 h6
theorem Good.step {K:PySem.W.Frag}{G0 H0 G H G' H':Hp}{σ:St}{ρ:List B}(g:Good K G0 H0 G H σ ρ)(s:Step G H G' H'):Good K G0 H0 G' H' σ ρ :=
 ⟨g.st.trans s,Paired.mapP g.vals fun _ _ r=>r.step s,g.apart⟩
theorem Good.sub {K:PySem.W.Frag}{G0 H0 G H:Hp}{σ:St}{ρ:List B}(g:Good K G0 H0 G H σ ρ):Same G H:=g.st.sub
abbrev Ef:=List B->Option D
def tF (K:PySem.W.Frag)(f:Ef):TE:=fun σ H Q=>∃G0 H0 G ρ d,Good K G0 H0 G H σ ρ/\f ρ=some d/\∀v H' G',Step G H G' H'->Rep K G' d v->Q v H'
def PF (X:Cx)(e:Expr)(f:Ef):Prop:=PE X e (tF X.K f)
theorem PE.to {X:Cx}{e:Expr}{t:TE}{f:Ef}(h:PE X e t)(imp:∀σ H Q,tF X.K f σ H Q->t σ H Q):PF X e f:=fun pins s σ H Q I q=>h pins s σ H Q I (imp σ H Q q)
abbrev Lf:=List B->Option (List D)
def tFr (K:PySem.W.Frag)(f:Lf):TE:=fun σ H Q=>∃G0 H0 G ρ ds,Good K G0 H0 G H σ ρ/\f ρ=some ds/\∀a vs H' G',Step G H G' H'->H a=none->H' a=some (.lst vs)->G' a=none->Reps K G' ds vs->Q (.ref a) H'
def PFr (X:Cx)(e:Expr)(f:Lf):Prop:=PE X e (tFr X.K f)
theorem PE.toR {X:Cx}{e:Expr}{t:TE}{f:Lf}(h:PE X e t)(imp:∀σ H Q,tFr X.K f σ H Q->t σ H Q):PFr X e f:=fun pins s σ H Q I q=>h pins s σ H Q I (imp σ H Q q)
def eL (f:Lf):Ef:=fun ρ=>(f ρ).map .lst
theorem xB {X:Cx}{e:Expr}{f:Lf}(h:PFr X e f):PF X e (eL f):=by
 refine PE.to h ?_
 rintro σ H Q ⟨G0,H0,G,ρ,d,good,hf,k⟩
 unfold eL at hf
 obtain⟨ds,h1,rfl⟩:=Qt.mp hf
 refine⟨G0,H0,G,ρ,ds,good,h1,fun a vs H' G' s hn ha ga rs=>?_⟩
 exact k _ _ (upd G' a (.lst vs)) (s.frz hn ha ga) (xY.mpr ⟨a,vs,rfl,.of zN,rs.mono (Same.new ga)⟩)
abbrev Tf:=List B->Option Bool
def tFT (K:PySem.W.Frag)(f:Tf):TT:=fun σ H Q=>∃G0 H0 G ρ b,Good K G0 H0 G H σ ρ/\f ρ=some b/\∀H' G',Step G H G' H'->Q b H'
def PFT (X:Cx)(e:Expr)(f:Tf):Prop:=PT X e (tFT X.K f)
theorem PT.to {X:Cx}{e:Expr}{t:TT}{f:Tf}(h:PT X e t)(imp:∀σ H Q,tFT X.K f σ H Q->t σ H Q):PFT X e f:=fun pins s σ H Q I q=>h pins s σ H Q I (imp σ H Q q)
def PFW (X:Cx)(e:Expr)(f:Tf):Prop:=PW X e (tFT X.K f)
def tFA (K:PySem.W.Frag)(f:Lf):TA:=fun σ H Q=>∃G0 H0 G ρ ds,Good K G0 H0 G H σ ρ/\f ρ=some ds/\∀vs H' G',Step G H G' H'->Reps K G' ds vs->Q vs H'
def PFA (X:Cx)(es:List Expr)(f:Lf):Prop:=PA X es (tFA X.K f)
theorem PA.to {X:Cx}{es:List Expr}{t:TA}{f:Lf}(h:PA X es t)(imp:∀σ H Q,tFA X.K f σ H Q->t σ H Q):PFA X es f:=fun pos pins s σ H Q I q=>h pos pins s σ H Q I (imp σ H Q q)
section
variable {X:Cx} {a b c e:Expr} {es:List Expr} {fa fb:Ef} {ga:Lf} {ta tb:Tf} {pos:Pos}
def fM (ρ:List B)(i:Nat):Option D:=match ρ[i]? with | some (.fz d)=>some d | _=>none
def eV (i:Nat):Ef:=fun ρ=>fM ρ i
theorem zTE {K:PySem.W.Frag}{G0 H0 G H:Hp}{σ:St}{ρ:List B}{i:Nat}{d:D}(g:Good K G0 H0 G H σ ρ)(h:fM ρ i=some d):∃v,σ[i]?=some (some v)/\Rep K G d v:=by
 unfold fM at h
 split at h
 · rename_i d' e
   cases h
   obtain⟨o,h1,r⟩:=Paired.get g.vals e
   cases r with
   | fz r=>exact⟨_,h1,r⟩
 · cases h
theorem zV (i:Nat){x:Str}(hN:X.N[i]?=some x:=by rfl)(hv:Vis X.env.scope x:=by first | exact Or.inl rfl | exact Or.inr (Or.inl rfl) | exact Or.inr (Or.inr rfl))(hd:(x==("__debug__":Str))=false:=by decide)(hcd:(x==("__classdict__":Str))=false:=by decide):PF X (.Name x pos) (eV i):=by
 refine PE.to (nX hN hv hd hcd) ?_
 rintro σ H Q ⟨G0,H0,G,ρ,d,good,hf,k⟩
 obtain⟨v,h1,r⟩:=zTE good hf
 exact⟨v,h1,k v H G (.refl good.sub) r⟩
def eC (d:D):Ef:=fun _=>some d
theorem fN {v:V}{d:D}(h:PE X e (tC v))(r:∀G,Rep X.K G d v):PF X e (eC d):=by
 refine PE.to h ?_
 rintro σ H Q ⟨G0,H0,G,ρ,d',good,hf,k⟩
 cases hf
 exact k v H G (.refl good.sub) (r G)
theorem zX {i:Int}{j:Nat}:PF X (.Constant (.int i) j pos) (eC (.int i)):=fN zPh fun _=>zD.mpr rfl
theorem nB {i:Bool}{j:Nat}:PF X (.Constant (.bool i) j pos) (eC (.bl i)):=fN zNH fun _=>xF.mpr rfl
theorem tO {j:Nat}:PF X (.Constant .none j pos) (eC .non):=fN zPw fun _=>sP.mpr rfl
theorem zP {x:Str}{j:Nat}:PF X (.Constant (.str x) j pos) (eC (.str x)):=fN zOj fun _=>yU.mpr rfl
theorem cJ {x y:Str}{t:Tok}(hg:Gl X x)(hm:X.mg x=some (.str y t))(hd:(x==("__debug__":Str))=false:=by decide):PF X (.Name x pos) (eC (.str y)):=fN (mK (v:=.str y) hg hm ⟨t,rfl⟩ hd) fun _=>yU.mpr rfl
theorem zQr {x:Str}{i:Int}{t:Tok}(hg:Gl X x)(hm:X.mg x=some (.int i t))(hd:(x==("__debug__":Str))=false:=by decide):PF X (.Name x pos) (eC (.int i)):=fN (mK (v:=.int i) hg hm ⟨t,rfl⟩ hd) fun _=>zD.mpr rfl
def eI (C:Int->Int->Bool)(g:Int->Int->Int)(fa fb:Ef):Ef:=fun ρ=>(fa ρ).bind fun x=>(fb ρ).bind fun y=>match x,y with | .int i,.int j=>if C i j then some (.int (g i j)) else none | _,_=>none
theorem zTg {C:Int->Int->Bool}{g:Int->Int->Int}{ρ:List B}{d:D}(h:eI C g fa fb ρ=some d):∃i j,fa ρ=some (.int i)/\fb ρ=some (.int j)/\C i j=true/\d = .int (g i j):=by
 unfold eI at h
 obtain⟨x,h1,h⟩:=Qq.mp h
 obtain⟨y,h2,h⟩:=Qq.mp h
 cases x with
 | int i =>
   cases y with
   | int j =>
     dsimp only at h
     split at h
     · rename_i hc;cases h;exact⟨i,j,h1,h2,hc,rfl⟩
     · cases h
   | _=>cases h
 | _=>cases h
theorem zOp {op:Operator}{C:Int->Int->Bool}{P:Int->Int->Prop}{g:Int->Int->Int}(ho:OpR X (binaryOp op) (rI P fun i j=>.int (g i j)))(hP:∀i j,C i j=true->P i j)(ha:PF X a fa)(hb:PF X b fb):PF X (.BinOp a op b pos) (eI C g fa fb):=by
 refine PE.to (aG ho ha hb) ?_
 rintro σ H Q ⟨G0,H0,G,ρ,d,good,hf,k⟩
 obtain⟨i,j,h1,h2,hc,rfl⟩:=zTg hf
 refine⟨G0,H0,G,ρ,_,good,h1,fun x H1 G1 s1 r1=>⟨G0,H0,G1,ρ,_,good.step s1,h2,fun y H2 G2 s2 r2=>?_⟩⟩
 exact⟨i,j,zD.mp r1,zD.mp r2,hP i j hc,k _ _ G2 (s1.trans s2) (zD.mpr rfl)⟩
theorem zR3 {op:Operator}{g:Int->Int->Int}(ho:OpR X (binaryOp op) (rI0 fun i j=>.int (g i j)))(ha:PF X a fa)(hb:PF X b fb):PF X (.BinOp a op b pos) (eI (fun _ _=>true) g fa fb):=by
 refine PE.to (aG ho ha hb) ?_
 rintro σ H Q ⟨G0,H0,G,ρ,d,good,hf,k⟩
 obtain⟨i,j,h1,h2,hc,rfl⟩:=zTg hf
 refine⟨G0,H0,G,ρ,_,good,h1,fun x H1 G1 s1 r1=>⟨G0,H0,G1,ρ,_,good.step s1,h2,fun y H2 G2 s2 r2=>?_⟩⟩
 exact⟨i,j,zD.mp r1,zD.mp r2,k _ _ G2 (s1.trans s2) (zD.mpr rfl)⟩
abbrev tU:=eI (fun _ _=>true) (fun i j=>i+j)
abbrev cX:=eI (fun _ _=>true) (fun i j=>i - j)
def zXX (i j:Int):Bool:=(decide (-(2^64) < i)&&decide (i < 2^64))||(decide (-(2^64) < j)&&decide (j < 2^64))
abbrev zXx:=eI zXX (fun i j=>i*j)
def zYm (_ j:Int):Bool:=decide (0 < j)&&decide (j < 1073741824)
abbrev pA:=eI zYm (fun i j=>i / j)
abbrev uU:=eI (fun _ j=>decide (0 < j)) (fun i j=>i % j)
abbrev zVY:=eI (fun _ _=>true) (fun i j=>Builtin.bitXor i j)
theorem vX (ha:PF X a fa)(hb:PF X b fb):PF X (.BinOp a .Add b pos) (tU fa fb):=zR3 zRZ ha hb
theorem bZ (ha:PF X a fa)(hb:PF X b fb):PF X (.BinOp a .Sub b pos) (cX fa fb):=zR3 zOA ha hb
theorem fQ (ha:PF X a fa)(hb:PF X b fb):PF X (.BinOp a .Mult b pos) (zXx fa fb):=zOp zPs (fun i j h=>by
 unfold zXX at h
 simp only[Rv,Qg,Wh] at h
 exact h) ha hb
theorem uE (ha:PF X a fa)(hb:PF X b fb):PF X (.BinOp a .FloorDiv b pos) (pA fa fb):=zOp zQu (fun i j h=>by
 unfold zYm at h
 simp only[Qg,Wh] at h
 exact h) ha hb
theorem wH (ha:PF X a fa)(hb:PF X b fb):PF X (.BinOp a .Mod b pos) (uU fa fb):=zOp zOH (fun i j h=>Tu h) ha hb
theorem zS7 (ha:PF X a fa)(hb:PF X b fb):PF X (.BinOp a .BitXor b pos) (zVY fa fb):=zR3 zOD ha hb
def zQN (fa:Ef):Ef:=fun ρ=>(fa ρ).bind fun x=>match x with | .int i=>some (.int (-i)) | _=>none
theorem zSP (ha:PF X a fa):PF X (.UnaryOp .USub a pos) (zQN fa):=by
 refine PE.to (zNs zOG ha) ?_
 rintro σ H Q ⟨G0,H0,G,ρ,d,good,hf,k⟩
 unfold zQN at hf
 obtain⟨x,h1,hf⟩:=Qq.mp hf
 split at hf
 · rename_i i
   cases hf
   exact⟨G0,H0,G,ρ,_,good,h1,fun x H1 G1 s1 r1=>⟨i,zD.mp r1,k _ _ G1 s1 (zD.mpr rfl)⟩⟩
 · cases hf
def eB2 (g:D->D->Option Bool)(fa fb:Ef):Tf:=fun ρ=>(fa ρ).bind fun x=>(fb ρ).bind fun y=>g x y
def qO (t:Tf):Ef:=fun ρ=>(t ρ).map .bl
def gLt:D->D->Option Bool | .int i,.int j=>some (decide (i < j)) | _,_=>none
def gLe:D->D->Option Bool | .int i,.int j=>some (decide (i<=j)) | _,_=>none
def gGt:D->D->Option Bool | .int i,.int j=>some (decide (j < i)) | _,_=>none
def gGe:D->D->Option Bool | .int i,.int j=>some (decide (j<=i)) | _,_=>none
def gEq:D->D->Option Bool
 | .int i,.int j=>some (decide (i=j))
 | .bl i,.bl j=>some (decide (i=j))
 | .str i,.str j=>some (decide (i=j))
 | _,_=>none
def gNe (x y:D):Option Bool:=(gEq x y).map (!·)
def CmR (X:Cx)(op:CmpOp)(g:D->D->Option Bool):Prop:=∃r:R2,OpR X (compareOp op) r/\∀(d d':D) (k:Bool) (G H:Hp) (x y:V) (Q:VK),g d d'=some k->Same G H->Rep X.K G d x->Rep X.K G d' y->(∀H' G',Step G H G' H'->Q (.bl k) H')->r x y H Q
theorem zYe {op:CmpOp}{p:Int->Int->Bool}{g:D->D->Option Bool}(ho:OpR X (compareOp op) (rI0 fun i j=>.bl (p i j)))(hg:∀d d' k,g d d'=some k->∃i j,d = .int i/\d' = .int j/\k=p i j):CmR X op g:=by
 refine⟨_,ho,fun d d' k G H x y Q h s rx ry q=>?_⟩
 obtain⟨i,j,rfl,rfl,rfl⟩:=hg d d' k h
 exact⟨i,j,zD.mp rx,zD.mp ry,q H G (.refl s)⟩
theorem zP8:CmR X .Lt gLt:=zYe zNv fun d d' k h=>by unfold gLt at h;split at h<;>cases h;exact⟨_,_,rfl,rfl,rfl⟩
theorem zPC:CmR X .LtE gLe:=zYe zNR fun d d' k h=>by unfold gLe at h;split at h<;>cases h;exact⟨_,_,rfl,rfl,rfl⟩
theorem zZP:CmR X .Gt gGt:=zYe zOa fun d d' k h=>by unfold gGt at h;split at h<;>cases h;exact⟨_,_,rfl,rfl,rfl⟩
theorem zNn:CmR X .GtE gGe:=zYe zOd fun d d' k h=>by unfold gGe at h;split at h<;>cases h;exact⟨_,_,rfl,rfl,rfl⟩
theorem zS0 {d d':D}{k:Bool}{K:PySem.W.Frag}{G:Hp}{x y:V}(h:gEq d d'=some k)(rx:Rep K G d x)(ry:Rep K G d' y):zOq x y=true/\decide (x=y)=k:=by
 unfold gEq at h
 split at h
 · cases h;rw[zD] at rx ry;subst rx;subst ry;exact⟨rfl,by simp⟩
 · cases h;rw[xF] at rx ry;subst rx;subst ry;exact⟨rfl,by simp⟩
 · cases h;rw[yU] at rx ry;subst rx;subst ry;exact⟨rfl,by simp⟩
 · cases h
theorem rB:CmR X .Eq gEq:=⟨_,zNy,fun d d' k G H x y Q h s rx ry q=>by
 obtain⟨h1,h2⟩:=zS0 h rx ry
 exact⟨h1,by rw[h2];exact q H G (.refl s)⟩⟩
theorem jI:CmR X .NotEq gNe:=⟨_,zNj,fun d d' k G H x y Q h s rx ry q=>by
 unfold gNe at h
 obtain⟨k',h',rfl⟩:=Qt.mp h
 obtain⟨h1,h2⟩:=zS0 h' rx ry
 exact⟨h1,by rw[h2];exact q H G (.refl s)⟩⟩
theorem zUr {g:D->D->Option Bool}{ρ:List B}{k:Bool}(h:eB2 g fa fb ρ=some k):∃x y,fa ρ=some x/\fb ρ=some y/\g x y=some k:=by
 unfold eB2 at h
 obtain⟨x,h1,h⟩:=Qq.mp h
 obtain⟨y,h2,h⟩:=Qq.mp h
 exact⟨x,y,h1,h2,h⟩
theorem bJ {t:Tf}{ρ:List B}{d:D}(h:qO t ρ=some d):∃k,t ρ=some k/\d = .bl k:=by
 unfold qO at h
 obtain⟨k,h1,rfl⟩:=Qt.mp h
 exact⟨k,h1,rfl⟩
theorem oK {op:CmpOp}{g:D->D->Option Bool}(hc:CmR X op g)(ha:PF X a fa)(hb:PF X b fb)(hm:behindInMarks op b=false:=by first | exact zZ3 _ | (with_unfolding_all rfl)):PF X (.Compare a [op] [b] pos) (qO (eB2 g fa fb)):=by
 obtain⟨r,ho,hr⟩:=hc
 refine PE.to (zRh ho ha hb hm) ?_
 rintro σ H Q ⟨G0,H0,G,ρ,d,good,hf,k⟩
 obtain⟨c,hf2,rfl⟩:=bJ hf
 obtain⟨x,y,h1,h2,h3⟩:=zUr hf2
 refine⟨G0,H0,G,ρ,_,good,h1,fun u H1 G1 s1 r1=>⟨G0,H0,G1,ρ,_,good.step s1,h2,fun v H2 G2 s2 r2=>?_⟩⟩
 exact hr x y c G2 H2 u v Q h3 s2.sub (r1.mono s2.gg) r2 fun H' G' s3=>k _ _ G' ((s1.trans s2).trans s3) (xF.mpr rfl)
theorem zA {op:CmpOp}{g:D->D->Option Bool}(hc:CmR X op g)(ha:PF X a fa)(hb:PF X b fb)(hm:behindInMarks op b=false:=by first | exact zZ3 _ | (with_unfolding_all rfl)):PFT X (.Compare a [op] [b] pos) (eB2 g fa fb):=by
 obtain⟨r,ho,hr⟩:=hc
 refine PT.to (cS ho ha hb hm) ?_
 rintro σ H Q ⟨G0,H0,G,ρ,c,good,hf,k⟩
 obtain⟨x,y,h1,h2,h3⟩:=zUr hf
 refine⟨G0,H0,G,ρ,_,good,h1,fun u H1 G1 s1 r1=>⟨G0,H0,G1,ρ,_,good.step s1,h2,fun v H2 G2 s2 r2=>?_⟩⟩
 exact hr x y c G2 H2 u v _ h3 s2.sub (r1.mono s2.gg) r2 fun H' G' s3=>⟨c,rfl,k _ G' ((s1.trans s2).trans s3)⟩
def uL:D->Bool | .non=>true | _=>false
theorem zYM {K:PySem.W.Frag}{G:Hp}{d:D}{v:V}(r:Rep K G d v):decide (v = .non)=uL d:=by
 cases d with
 | non=>rw[sP] at r;subst r;rfl
 | bl b=>rw[xF] at r;subst r;simp[uL]
 | int b=>rw[zD] at r;subst r;simp[uL]
 | str b=>rw[yU] at r;subst r;simp[uL]
 | tup ds=>obtain⟨p,_,rfl,_⟩:=xE.mp r;simp[uL]
 | lst ds=>obtain⟨p,_,rfl,_⟩:=xY.mp r;simp[uL]
 | obj C ns ds=>obtain⟨_,p,_,_,_,rfl,_⟩:=cR.mp r;simp[uL]
 | exc C ns ds=>obtain⟨_,p,_,_,_,rfl,_⟩:=oU.mp r;simp[uL]
def zZA:D->D->Option Bool | d,.non=>some (!uL d) | _,_=>none
theorem zZW:CmR X .IsNot zZA:=⟨_,zQU,fun d d' k G H x y Q h s rx ry q=>by
 unfold zZA at h
 split at h
 · cases h
   refine⟨sP.mp ry,?_⟩
   rw[zYM rx];exact q H G (.refl s)
 · cases h⟩
def tB1 (f:Ef):Tf:=fun ρ=>(f ρ).bind fun x=>match x with | .bl k=>some k | _=>none
theorem zXD {f:Ef}{ρ:List B}{k:Bool}(h:tB1 f ρ=some k):f ρ=some (.bl k):=by
 unfold tB1 at h
 obtain⟨x,h1,h⟩:=Qq.mp h
 split at h
 · cases h;exact h1
 · cases h
theorem wG (ha:PF X a fa)(he:∀whole,isTrue a X.env whole=(do let v ←whole;standAt a.pos;holding [v] (truthy v)):=by intro _;rfl):PFT X a (tB1 fa):=by
 refine PT.to (zOl ha he) ?_
 rintro σ H Q ⟨G0,H0,G,ρ,c,good,hf,k⟩
 exact⟨G0,H0,G,ρ,_,good,zXD hf,fun u H1 G1 s1 r1=>⟨c,xF.mp r1,k _ G1 s1⟩⟩
def oQ (t:Tf):Tf:=fun ρ=>(t ρ).map (!·)
def zXb (t u:Tf):Tf:=fun ρ=>(t ρ).bind fun c=>if c=true then u ρ else some false
def qV (t u:Tf):Tf:=fun ρ=>(t ρ).bind fun c=>if c=true then some true else u ρ
theorem mL (ha:PFT X a ta):PFT X (.UnaryOp .Not a pos) (oQ ta):=by
 refine PT.to (zPd ha) ?_
 rintro σ H Q ⟨G0,H0,G,ρ,c,good,hf,k⟩
 unfold oQ at hf
 obtain⟨c',h1,rfl⟩:=Qt.mp hf
 exact⟨G0,H0,G,ρ,_,good,h1,fun H1 G1 s1=>k _ G1 s1⟩
theorem PW.to {t:TT}{f:Tf}(h:PW X e t)(imp:∀σ H Q,tFT X.K f σ H Q->t σ H Q):PFW X e f:=fun whole pins s σ H Q I q=>h whole pins s σ H Q I (imp σ H Q q)
theorem zTe (ha:PFT X a ta):PFW X (.BoolOp .And [a] pos) ta:=zQ5 ha
theorem vZ (ha:PFT X a ta):PFW X (.BoolOp .Or [a] pos) ta:=zOo ha
theorem zQy {rest:List Expr}(ha:PFT X a ta)(hb:PFW X (.BoolOp .And (b::rest) pos) tb):PFW X (.BoolOp .And (a::b::rest) pos) (zXb ta tb):=by
 refine PW.to (zOV ha hb) ?_
 rintro σ H Q ⟨G0,H0,G,ρ,c,good,hf,k⟩
 unfold zXb at hf
 obtain⟨c',h1,hf⟩:=Qq.mp hf
 refine⟨G0,H0,G,ρ,_,good,h1,fun H1 G1 s1=>?_⟩
 split at hf
 · rename_i h;rw[Wr h];exact⟨G0,H0,G1,ρ,c,good.step s1,hf,fun H2 G2 s2=>k _ G2 (s1.trans s2)⟩
 · rename_i h;rw[Wj h];cases hf;exact k _ G1 s1
theorem vM {rest:List Expr}(ha:PFT X a ta)(hb:PFW X (.BoolOp .Or (b::rest) pos) tb):PFW X (.BoolOp .Or (a::b::rest) pos) (qV ta tb):=by
 refine PW.to (zNf ha hb) ?_
 rintro σ H Q ⟨G0,H0,G,ρ,c,good,hf,k⟩
 unfold qV at hf
 obtain⟨c',h1,hf⟩:=Qq.mp hf
 refine⟨G0,H0,G,ρ,_,good,h1,fun H1 G1 s1=>?_⟩
 split at hf
 · rename_i h;rw[Wr h];cases hf;exact k _ G1 s1
 · rename_i h;rw[Wj h];exact⟨G0,H0,G1,ρ,c,good.step s1,hf,fun H2 G2 s2=>k _ G2 (s1.trans s2)⟩
theorem jU (h:PFW X e ta):PFT X e ta:=h.pt
theorem zR0 {op:BoolOp}(h:PF X a fa):PF X (.BoolOp op [a] pos) fa:=zOT h
def zU2 (fa fb:Ef):Ef:=fun ρ=>(tB1 fa ρ).bind fun c=>if c=true then fb ρ else some (.bl false)
theorem zVi {rest:List Expr}(ha:PF X a fa)(hb:PF X (.BoolOp .And (b::rest) pos) fb):PF X (.BoolOp .And (a::b::rest) pos) (zU2 fa fb):=by
 refine PE.to (zO5 ha hb) ?_
 rintro σ H Q ⟨G0,H0,G,ρ,d,good,hf,k⟩
 obtain⟨c,h1,hf⟩:=Qq.mp hf
 refine⟨G0,H0,G,ρ,_,good,zXD h1,fun u H1 G1 s1 r1=>⟨c,xF.mp r1,?_⟩⟩
 split at hf
 · rename_i h;rw[Wr h];exact⟨G0,H0,G1,ρ,d,good.step s1,hf,fun v H2 G2 s2 r2=>k _ _ G2 (s1.trans s2) r2⟩
 · rename_i h;rw[Wj h];cases hf;exact k _ _ G1 s1 (xF.mpr rfl)
theorem zOP (ha:PF X a fa):PF X (.UnaryOp .Not a pos) (qO (oQ (tB1 fa))):=by
 refine PE.to (zOX ha) ?_
 rintro σ H Q ⟨G0,H0,G,ρ,d,good,hf,k⟩
 obtain⟨c,hf2,rfl⟩:=bJ hf
 unfold oQ at hf2
 obtain⟨c',h1,rfl⟩:=Qt.mp hf2
 exact⟨G0,H0,G,ρ,_,good,zXD h1,fun u H1 G1 s1 r1=>⟨c',xF.mp r1,k _ _ G1 s1 (xF.mpr rfl)⟩⟩
def eIf (t:Tf)(fa fb:Ef):Ef:=fun ρ=>(t ρ).bind fun c=>if c=true then fa ρ else fb ρ
theorem zW0 (ht:PFT X c ta)(ha:PF X a fa)(hb:PF X b fb):PF X (.IfExp c a b pos) (eIf ta fa fb):=by
 refine PE.to (zS8 ht ha hb) ?_
 rintro σ H Q ⟨G0,H0,G,ρ,d,good,hf,k⟩
 unfold eIf at hf
 obtain⟨c',h1,hf⟩:=Qq.mp hf
 refine⟨G0,H0,G,ρ,_,good,h1,fun H1 G1 s1=>?_⟩
 split at hf
 · rename_i h;rw[Wr h];exact⟨G0,H0,G1,ρ,d,good.step s1,hf,fun v H2 G2 s2 r2=>k _ _ G2 (s1.trans s2) r2⟩
 · rename_i h;rw[Wj h];exact⟨G0,H0,G1,ρ,d,good.step s1,hf,fun v H2 G2 s2 r2=>k _ _ G2 (s1.trans s2) r2⟩
def zS:Lf:=fun _=>some []
def zY (f:Ef)(r:Lf):Lf:=fun ρ=>(f ρ).bind fun d=>(r ρ).map fun ds=>d::ds
theorem zW:PFA X [] zS:=by
 refine PA.to yJ ?_
 rintro σ H Q ⟨G0,H0,G,ρ,d,good,hf,k⟩
 cases hf
 exact k [] H G (.refl good.sub) (yR.mpr rfl)
theorem kF {f:Ef}{r:Lf}{ρ:List B}{ds:List D}(h:zY f r ρ=some ds):∃d dr,f ρ=some d/\r ρ=some dr/\ds=d::dr:=by
 unfold zY at h
 obtain⟨d,h1,h⟩:=Qq.mp h
 obtain⟨dr,h2,rfl⟩:=Qt.mp h
 exact⟨d,dr,h1,h2,rfl⟩
theorem zZ (ha:PF X e fa)(hr:PFA X es ga)(hs:starEach (e::es) X.env=(false,eval e X.env)::starEach es X.env:=by rfl):PFA X (e::es) (zY fa ga):=by
 refine PA.to (zC ha hr hs) ?_
 rintro σ H Q ⟨G0,H0,G,ρ,ds,good,hf,k⟩
 obtain⟨d,dr,h1,h2,rfl⟩:=kF hf
 refine⟨G0,H0,G,ρ,_,good,h1,fun u H1 G1 s1 r1=>⟨G0,H0,G1,ρ,_,good.step s1,h2,fun v H2 G2 s2 r2=>?_⟩⟩
 exact k _ _ G2 (s1.trans s2) (zG.mpr ⟨u,v,rfl,r1.mono s2.gg,r2⟩)
abbrev lim:Nat:=100000
theorem wU {n:Nat}(h:n<=lim):n < sizeLine:=Nat.lt_of_le_of_lt h (by decide)
def okL (ds:List D):Option (List D):=if ds.length<=lim then some ds else none
theorem lZ {ds es:List D}(h:okL ds=some es):es=ds/\ds.length<=lim:=by
 unfold okL at h
 split at h
 · rename_i q;cases h;exact⟨rfl,q⟩
 · cases h
def yL (g:Lf):Ef:=fun ρ=>((g ρ).bind okL).map .tup
theorem zK {k:Nat}(h:PFA X es ga):PF X (.Tuple es k pos) (yL ga):=by
 refine PE.to (zRM h) ?_
 rintro σ H Q ⟨G0,H0,G,ρ,d,good,hf,k⟩
 unfold yL at hf
 obtain⟨ds,h1,rfl⟩:=Qt.mp hf
 obtain⟨es,h1,h2⟩:=Qq.mp h1
 obtain⟨rfl,h3⟩:=lZ h2
 refine⟨G0,H0,G,ρ,_,good,h1,fun vs H1 G1 s1 r1=>⟨by rw[←r1.length];exact Ws (wU h3),fun p hp=>?_⟩⟩
 have s2:=Step.laid (o:=.tup vs) s1.sub hp
 exact k _ _ _ (s1.trans s2) (xE.mpr ⟨p,vs,rfl,.of zN,r1.mono s2.gg⟩)
def yM (g:Lf):Lf:=fun ρ=>(g ρ).bind okL
theorem yQ (h:PFA X es ga):PFr X (.List es pos) (yM ga):=by
 refine PE.toR (zRG h) ?_
 rintro σ H Q ⟨G0,H0,G,ρ,d,good,hf,k⟩
 unfold yM at hf
 obtain⟨es,h1,h2⟩:=Qq.mp hf
 obtain⟨rfl,h3⟩:=lZ h2
 refine⟨G0,H0,G,ρ,_,good,h1,fun vs H1 G1 s1 r1=>⟨by rw[←r1.length];exact Ws (wU h3),fun p hp=>?_⟩⟩
 exact k p vs _ G1 (s1.trans (Step.own s1.sub hp)) (s1.hh.free hp) zN (s1.sub.free hp) r1
def atD (x y:D):Option D:=match x,y with
 | .tup ds,.int i=>atI ds i
 | .lst ds,.int i=>atI ds i
 | .str z,.int i=>if z.length<=lim then(atI z.cps.toList i).map fun c=>.str ⟨#[c]⟩ else none
 | _,_=>none
def eIx (fa fb:Ef):Ef:=fun ρ=>(fa ρ).bind fun x=>(fb ρ).bind fun y=>atD x y
theorem zWK {K:PySem.W.Frag}{G:Hp}{ds:List D}{vs:List V}{i:Int}{d:D}(r:Reps K G ds vs)(h:atI ds i=some d):∃v,atI vs i=some v/\Rep K G d v:=by
 unfold atI at h ⊢
 rw[r.length] at h
 obtain⟨j,h1,h2⟩:=Qq.mp h
 obtain⟨v,h3,h4⟩:=r.get h2
 exact⟨v,by rw[h1];exact h3,h4⟩
theorem y0 (ha:PF X a fa)(hb:PF X b fb)(hs:zXz b:=by exact fun _ _=>rfl):PF X (.Subscript a b pos) (eIx fa fb):=by
 refine PE.to (zPF zOz ha hb hs) ?_
 rintro σ H Q ⟨G0,H0,G,ρ,d,good,hf,k⟩
 unfold eIx at hf
 obtain⟨x,h1,hf⟩:=Qq.mp hf
 obtain⟨y,h2,hf⟩:=Qq.mp hf
 refine⟨G0,H0,G,ρ,_,good,h1,fun u H1 G1 s1 r1=>⟨G0,H0,G1,ρ,_,good.step s1,h2,fun v H2 G2 s2 r2=>?_⟩⟩
 have r1:=r1.mono s2.gg
 have s3:=s1.trans s2
 unfold atD at hf
 split at hf
 · obtain⟨p,vs,rfl,q,rs⟩:=xE.mp r1
   obtain⟨w,e,rw'⟩:=zWK rs hf
   exact .inr (.inl ⟨p,vs,_,w,rfl,zD.mp r2,s2.sub.tup q,e,k _ _ G2 s3 rw'⟩)
 · obtain⟨p,vs,rfl,q,rs⟩:=xY.mp r1
   obtain⟨w,e,rw'⟩:=zWK rs hf
   exact .inl ⟨p,vs,_,w,rfl,zD.mp r2,s2.sub.seq q,e,k _ _ G2 s3 rw'⟩
 · split at hf
   · rename_i hz
     obtain⟨c,e,rfl⟩:=Qt.mp hf
     exact .inr (.inr ⟨_,_,c,yU.mp r1,zD.mp r2,Ws (wU hz),e,k _ _ G2 s3 (yU.mpr rfl)⟩)
   · cases hf
 · cases hf
end
inductive Out where
 | nx (ρ:List B) | rt (d:D) | rl (ds:List D) | bk (ρ:List B) | ct (ρ:List B)
 deriving Inhabited
abbrev Sf:=List B->Option Out
def Wants (K:PySem.W.Frag)(G0 H0 G:Hp)(D:Ends):Out->Prop
 | .nx ρ'=>∀σ' H' G',Same G G'->Good K G0 H0 G' H' σ' ρ'->D.nx σ' H'
 | .bk ρ'=>∀σ' H' G',Same G G'->Good K G0 H0 G' H' σ' ρ'->D.bk σ' H'
 | .ct ρ'=>∀σ' H' G',Same G G'->Good K G0 H0 G' H' σ' ρ'->D.ct σ' H'
 | .rt d=>∀v H' G',Step G0 H0 G' H'->Rep K G' d v->D.rt v H'
 | .rl ds=>∀a vs H' G',Step G0 H0 G' H'->H0 a=none->H' a=some (.lst vs)->G' a=none->Reps K G' ds vs->D.rt (.ref a) H'
def tFS (K:PySem.W.Frag)(f:Sf):TS:=fun D σ H=>∃G0 H0 G ρ o,Good K G0 H0 G H σ ρ/\f ρ=some o/\Wants K G0 H0 G D o
def PFS (X:Cx)(st:Stmt)(f:Sf):Prop:=PS X st (tFS X.K f)
def PFSs (X:Cx)(sts:List Stmt)(f:Sf):Prop:=PSs X sts (tFS X.K f)
theorem PS.to {X:Cx}{st:Stmt}{t:TS}{f:Sf}(h:PS X st t)(imp:∀D σ H,tFS X.K f D σ H->t D σ H):PFS X st f:=fun pins s σ H D I q=>h pins s σ H D I (imp D σ H q)
theorem PSs.to {X:Cx}{st:List Stmt}{t:TS}{f:Sf}(h:PSs X st t)(imp:∀D σ H,tFS X.K f D σ H->t D σ H):PFSs X st f:=fun pins s σ H D I q=>h pins s σ H D I (imp D σ H q)
theorem Wants.mono {K:PySem.W.Frag}{G0 H0 G G':Hp}{D:Ends}{o:Out}(h:Wants K G0 H0 G D o)(s:Same G G'):Wants K G0 H0 G' D o:=by
 cases o with
 | nx ρ=>exact fun σ' H' G2 s2 g=>h σ' H' G2 (s.trans s2) g
 | bk ρ=>exact fun σ' H' G2 s2 g=>h σ' H' G2 (s.trans s2) g
 | ct ρ=>exact fun σ' H' G2 s2 g=>h σ' H' G2 (s.trans s2) g
 | rt d=>exact h
 | rl ds=>exact h
theorem vS {ρ:List B}{i j:Nat}{d:D}{ds:List D}(h:(ρ.set i (.fz d))[j]?=some (.ow ds)):j≠i/\ρ[j]?=some (.ow ds):=by
 by_cases e:j=i
 · subst e
   rw[Ir] at h
   split at h
   · split at h<;>cases h
   · rename_i z;exact absurd rfl z
 · rw[Wi (Ne.symm e)] at h
   exact⟨e,h⟩
theorem fW {ρ:List B}{i j:Nat}{d:D}{ds:List (D×D)}(h:(ρ.set i (.fz d))[j]?=some (.od ds)):j≠i/\ρ[j]?=some (.od ds):=by
 by_cases e:j=i
 · subst e
   rw[Ir] at h
   split at h
   · split at h<;>cases h
   · rename_i z;exact absurd rfl z
 · rw[Wi (Ne.symm e)] at h
   exact⟨e,h⟩
theorem Good.setF {K:PySem.W.Frag}{G0 H0 G H:Hp}{σ:St}{ρ:List B}{v:V}{d:D}(g:Good K G0 H0 G H σ ρ)(i:Nat)(r:Rep K G d v):Good K G0 H0 G H (σ.set i (some v)) (ρ.set i (.fz d)):=by
 refine⟨g.st,Paired.set (.fz r) i g.vals,fun j k a ds es h1 h2 h3 h4=>?_⟩
 obtain⟨n1,e1⟩:=vS h1
 obtain⟨n2,e2⟩:=vS h2
 rw[Wi (Ne.symm n1)] at h3
 rw[Wi (Ne.symm n2)] at h4
 exact g.apart j k a ds es e1 e2 h3 h4
theorem Good.addr {K:PySem.W.Frag}{G0 H0 G H:Hp}{σ:St}{ρ:List B}{i:Nat}{ds:List D}(g:Good K G0 H0 G H σ ρ)(h:ρ[i]?=some (.ow ds)):∃a vs,σ[i]?=some (some (.ref a))/\H a=some (.lst vs)/\G a=none/\H0 a=none/\Reps K G ds vs:=by
 obtain⟨o,e,r⟩:=Paired.get g.vals h
 cases r with
 | ow h1 h2 h3 h4=>exact⟨_,_,e,h1,h2,h3,h4⟩
theorem Good.setO {K:PySem.W.Frag}{G0 H0 G H:Hp}{σ:St}{ρ:List B}{a:Addr}{vs:List V}{ds:List D}(g:Good K G0 H0 G H σ ρ)(i:Nat)(ha:H a=some (.lst vs))(ga:G a=none)(h0:H0 a=none)(rs:Reps K G ds vs)
   (fr:∀(j:Nat) (es:List D),ρ[j]?=some (B.ow es)->σ[j]?≠some (some (V.ref a))):Good K G0 H0 G H (σ.set i (some (.ref a))) (ρ.set i (.ow ds)):=by
 have hl:σ.length=ρ.length:=Paired.length g.vals
 refine⟨g.st,Paired.set (.ow ha ga h0 rs) i g.vals,fun j k b d1 d2 h1 h2 h3 h4=>?_⟩
 by_cases hj:j=i
 · by_cases hk:k=i
   · rw[hj,hk]
   · subst hj
     rw[Wi (Ne.symm hk)] at h2 h4
     have hlt:j < σ.length:=by
       have:=(Qj.mp h3).1
       rwa[Rc] at this
     rw[Es hlt] at h3
     cases h3
     exact absurd h4 (fr k d2 h2)
 · rw[Wi (Ne.symm hj)] at h1 h3
   by_cases hk:k=i
   · subst hk
     have hlt:k < σ.length:=by
       have:=(Qj.mp h4).1
       rwa[Rc] at this
     rw[Es hlt] at h4
     cases h4
     exact absurd h3 (fr j d1 h1)
   · rw[Wi (Ne.symm hk)] at h2 h4
     exact g.apart j k b d1 d2 h1 h2 h3 h4
theorem Good.wr {K:PySem.W.Frag}{G0 H0 G H:Hp}{σ:St}{ρ:List B}{a:Addr}{us:List V}{ds es:List D}{i:Nat}(g:Good K G0 H0 G H σ ρ)(hi:ρ[i]?=some (.ow ds))(hs:σ[i]?=some (some (.ref a)))(rs:Reps K G es us) :
   Good K G0 H0 G (upd H a (.lst us)) σ (ρ.set i (.ow es)):=by
 obtain⟨a',vs,h1,h2,h3,h4,_⟩:=g.addr hi
 rw[hs] at h1;cases h1
 have st:Step G0 H0 G (upd H a (.lst us)):=by
   refine⟨fun b o e=>?_,g.st.gg,fun b o e=>?_,g.st.new⟩
   · rw[yS (yK e h4)];exact g.st.hh b o e
   · rw[yS (yK e h3)];exact g.st.sub b o e
 have hl:σ.length=ρ.length:=Paired.length g.vals
 have hil:i < ρ.length:=(Qj.mp hi).1
 have key:∀(l:List (Option V)) (r:List B) (n:Nat),Paired (RB K H0 G H) l r->(∀j es,n+j≠i->r[j]?=some (.ow es)->l[j]?≠some (some (.ref a)))->(∀j,n+j=i->l[j]?=some (some (.ref a))) ->
     Paired (RB K H0 G (upd H a (.lst us))) l (if i < n then r else r.set (i - n) (.ow es)):=by
   intro l r n p
   induction p generalizing n with
   | nil=>intro _ _;split<;>exact .nil
   | @cons o b l' r' q t ih =>
     intro hne hat
     have tl:=ih (n+1) (fun j es z e=>by have:=hne (j+1) es (by omega) (by simpa using e);simpa using this) (fun j z=>by have:=hat (j+1) (by omega);simpa using this)
     have keepq:(∀es,b = .ow es->o≠some (.ref a))->RB K H0 G (upd H a (.lst us)) o b:=fun hb=>by
       cases q with
       | no=>exact .no
       | fz r=>exact .fz r
       | @ow c vs ds' c1 c2 c3 c4 =>
         have:c≠a:=fun z=>hb _ rfl (by rw[z])
         exact .ow (by rw[yS this];exact c1) c2 c3 c4
       | @od c _ _ _ _ c1 c2 c3 c4 c5 c6 =>
         have:c≠a:=fun z=>by rw[z,h2] at c1;cases c1
         exact .od (by rw[yS this];exact c1) c2 c3 c4 c5 c6
     by_cases h1:i < n
     · rw[Wr h1]
       rw[Wr (by omega)] at tl
       refine .cons (keepq fun es e z=>?_) tl
       exact hne 0 es (by omega) (by simp[e]) (by simp[z])
     · rw[Wj h1]
       by_cases h2:i=n
       · subst h2
         rw[Wr (by omega)] at tl
         have:=hat 0 (by omega)
         simp at this
         subst this
         rw[Nat.sub_self]
         exact .cons (.ow zN h3 h4 rs) tl
       · rw[Wj (by omega)] at tl
         have e:i - n=(i - (n+1))+1:=by omega
         rw[e]
         refine .cons (keepq fun es e z=>?_) tl
         exact hne 0 es (by omega) (by simp[e]) (by simp[z])
 have vals:=key σ ρ 0 g.vals (fun j es' z e w=>by
   have:=g.apart j i a es' ds e hi w hs
   omega) (fun j z=>by rw[show j=i by omega];exact hs)
 rw[Wj (Nat.not_lt_zero _),Nat.sub_zero] at vals
 refine⟨st,vals,fun j k b d1 d2 e1 e2 e3 e4=>?_⟩
 have un:∀(j:Nat) (d1:List D),(ρ.set i (B.ow es))[j]?=some (B.ow d1)->∃d,ρ[j]?=some (B.ow d):=fun j d1 e=>by
   by_cases hj:j=i
   · subst hj;exact⟨ds,hi⟩
   · rw[Wi (Ne.symm hj)] at e;exact⟨d1,e⟩
 obtain⟨c1,f1⟩:=un j d1 e1
 obtain⟨c2,f2⟩:=un k d2 e2
 exact g.apart j k b c1 c2 f1 f2 e3 e4
section
variable {X:Cx} {b c e tg:Expr} {es:List Expr} {fa:Ef} {ga:Lf} {ta:Tf} {pos:Pos} {st:Stmt} {rest:List Stmt} {f g:Sf}
def zF (f g:Sf):Sf:=fun ρ=>(f ρ).bind fun o=>match o with | .nx ρ'=>g ρ' | o=>some o
def vY:Sf:=fun ρ=>some (.nx ρ)
theorem yP:PFSs X [] vY:=by
 refine PSs.to zXL ?_
 rintro D σ H ⟨G0,H0,G,ρ,o,good,hf,k⟩
 cases hf
 exact k σ H G (Same.refl _) good
theorem zR (h:PFS X st f):PFSs X [st] f:=zPS h
theorem tY (h1:PFS X st f)(h2:PFSs X rest g):PFSs X (st::rest) (zF f g):=by
 refine PSs.to (kK h1 h2) ?_
 rintro D σ H ⟨G0,H0,G,ρ,o,good,hf,k⟩
 unfold zF at hf
 obtain⟨o1,h1,hf⟩:=Qq.mp hf
 refine⟨G0,H0,G,ρ,o1,good,h1,?_⟩
 cases o1 with
 | nx ρ'=>exact fun σ' H' G' s g'=>⟨G0,H0,G',ρ',o,g',hf,k.mono s⟩
 | rt d=>cases hf;exact k
 | rl d=>cases hf;exact k
 | bk d=>cases hf;exact k
 | ct d=>cases hf;exact k
def xA (f:Ef):Sf:=fun ρ=>(f ρ).map .rt
theorem yN (h:PF X e fa):PFS X (.Return (some e) pos) (xA fa):=by
 refine PS.to (zXR h) ?_
 rintro D σ H ⟨G0,H0,G,ρ,o,good,hf,k⟩
 unfold xA at hf
 obtain⟨d,h1,rfl⟩:=Qt.mp hf
 exact⟨G0,H0,G,ρ,d,good,h1,fun v H' G' s r=>k v H' G' (good.st.trans s) r⟩
def zRs (f:Lf):Sf:=fun ρ=>(f ρ).map .rl
theorem zQ6 (h:PFr X e ga):PFS X (.Return (some e) pos) (zRs ga):=by
 refine PS.to (zXR h) ?_
 rintro D σ H ⟨G0,H0,G,ρ,o,good,hf,k⟩
 unfold zRs at hf
 obtain⟨d,h1,rfl⟩:=Qt.mp hf
 exact⟨G0,H0,G,ρ,d,good,h1,fun p vs H' G' s hn hp gp rs=>k p vs H' G' (good.st.trans s) (good.st.hh.free hn) hp gp rs⟩
def zZG (i:Nat):Sf:=fun ρ=>match ρ[i]? with | some (.ow ds)=>some (.rl ds) | _=>none
theorem iG (i:Nat){x:Str}{pos':Pos}(hN:X.N[i]?=some x:=by rfl)(hv:Vis X.env.scope x:=by first | exact Or.inl rfl | exact Or.inr (Or.inl rfl) | exact Or.inr (Or.inr rfl))(hd:(x==("__debug__":Str))=false:=by decide)(hcd:(x==("__classdict__":Str))=false:=by decide) :
   PFS X (.Return (some (.Name x pos')) pos) (zZG i):=by
 refine PS.to (zXR (nX hN hv hd hcd)) ?_
 rintro D σ H ⟨G0,H0,G,ρ,o,good,hf,k⟩
 unfold zZG at hf
 split at hf
 · rename_i ds e
   cases hf
   obtain⟨p,vs,h1,h2,h3,h4,h5⟩:=good.addr e
   exact⟨.ref p,h1,k p vs H G good.st h4 h2 h3 h5⟩
 · cases hf
def sIf (t:Tf)(f g:Sf):Sf:=fun ρ=>(t ρ).bind fun c=>if c=true then f ρ else g ρ
theorem yB {sa sb:List Stmt}(ht:PFT X c ta)(ha:PFSs X sa f)(hb:PFSs X sb g):PFS X (.If c sa sb pos) (sIf ta f g):=by
 refine PS.to (zPI ht ha hb) ?_
 rintro D σ H ⟨G0,H0,G,ρ,o,good,hf,k⟩
 unfold sIf at hf
 obtain⟨c',h1,hf⟩:=Qq.mp hf
 refine⟨G0,H0,G,ρ,_,good,h1,fun H1 G1 s1=>?_⟩
 split at hf
 · rename_i h;rw[Wr h];exact⟨G0,H0,G1,ρ,o,good.step s1,hf,k.mono s1.gg⟩
 · rename_i h;rw[Wj h];exact⟨G0,H0,G1,ρ,o,good.step s1,hf,k.mono s1.gg⟩
def zXd (f:Ef):Sf:=fun ρ=>(f ρ).map fun _=>.nx ρ
theorem zXv (h:PF X e fa)(hs:swapsWith e none pos.line X.env=pure false:=by rfl):PFS X (.Expr e pos) (zXd fa):=by
 refine PS.to (zUG h hs) ?_
 rintro D σ H ⟨G0,H0,G,ρ,o,good,hf,k⟩
 unfold zXd at hf
 obtain⟨d,h1,rfl⟩:=Qt.mp hf
 exact⟨G0,H0,G,ρ,d,good,h1,fun v H' G' s r=>k σ H' G' s.gg (good.step s)⟩
abbrev Gf:=D->List B->Option (List B)
def tFG (K:PySem.W.Frag)(g:Gf):TG:=fun v σ H Q=>∃G0 H0 G ρ d ρ',Good K G0 H0 G H σ ρ/\Rep K G d v/\g d ρ=some ρ'/\∀σ' H' G',Step G H G' H'->Good K G0 H0 G' H' σ' ρ'->Q σ' H'
def PFG (X:Cx)(tg:Expr)(g:Gf):Prop:=PG X tg (tFG X.K g)
abbrev Gfs:=List D->List B->Option (List B)
def zMY (K:PySem.W.Frag)(g:Gfs):TGs:=fun vs σ H Q=>∃G0 H0 G ρ ds ρ',Good K G0 H0 G H σ ρ/\Reps K G ds vs/\g ds ρ=some ρ'/\∀σ' H' G',Step G H G' H'->Good K G0 H0 G' H' σ' ρ'->Q σ' H'
def zPY (X:Cx)(tgs:List Expr)(g:Gfs):Prop:=PGs X tgs (zMY X.K g)
def gN (i:Nat):Gf:=fun d ρ=>some (ρ.set i (.fz d))
theorem wP (i:Nat){x:Str}(hN:X.N.Nodup)(hi:X.N[i]?=some x:=by rfl)(hx:Loc X.env.scope x:=by first | exact .inl rfl | exact .inr rfl)(hf:X.fn x=true∨X.env.scope.names.lookup x=some .local:=by first | exact .inl rfl | exact .inr rfl):PFG X (.Name x pos) (gN i):=by
 have h:=zQY (pos:=pos) hN hi hx hf
 intro pins s σ H v u Q I r q
 refine h pins s σ H v u Q I r ?_
 obtain⟨G0,H0,G,ρ,d,ρ',good,rd,hf,k⟩:=q
 cases hf
 exact k _ H G (.refl good.sub) (good.setF i rd)
def wR:Gfs:=fun ds ρ=>match ds with | []=>some ρ | _=>none
def zB (g:Gf)(r:Gfs):Gfs:=fun ds ρ=>match ds with | d::dr=>(g d ρ).bind fun ρ'=>r dr ρ' | _=>none
theorem wD:zPY X [] wR:=by
 intro pins s σ H vs us Q I r q
 refine zQo pins s σ H vs us Q I r ?_
 obtain⟨G0,H0,G,ρ,ds,ρ',good,rd,hf,k⟩:=q
 unfold wR at hf
 split at hf
 · cases hf
   rw[yR] at rd
   exact⟨rd,k _ H G (.refl good.sub) good⟩
 · cases hf
theorem yV {g:Gf}{r:Gfs}(h1:PFG X e g)(h2:zPY X es r)(hs:(assignEach (e::es) X.env).map (·.2)=assign e X.env::(assignEach es X.env).map (·.2):=by rfl):zPY X (e::es) (zB g r):=by
 intro pins s σ H vs us Q I rv q
 refine zRE h1 h2 hs pins s σ H vs us Q I rv ?_
 obtain⟨G0,H0,G,ρ,ds,ρ',good,rd,hf,k⟩:=q
 unfold zB at hf
 split at hf
 · rename_i d dr
   obtain⟨ρ1,e1,e2⟩:=Qq.mp hf
   obtain⟨v,vr,rfl,r1,r2⟩:=zG.mp rd
   exact⟨v,vr,rfl,G0,H0,G,ρ,d,ρ1,good,r1,e1,fun σ' H' G' s' g'=>⟨G0,H0,G',ρ1,dr,ρ',g',r2.mono s'.gg,e2,fun σ2 H2 G2 s2 g2=>k σ2 H2 G2 (s'.trans s2) g2⟩⟩
 · cases hf
def gT (r:Gfs):Gf:=fun d ρ=>match d with | .tup ds=>r ds ρ | _=>none
theorem fO {r:Gfs}{k:Nat}(n:Nat)(hc:X.calm=true)(h:zPY X es r)(hr:∀ds ρ ρ',r ds ρ=some ρ'->ds.length=n)(hn:(assignEach es X.env).length=n:=by rfl)(hst:(assignEach es X.env).findIdx? (·.1)=none:=by rfl):PFG X (.Tuple es k pos) (gT r):=by
 have h:=zPb (pos:=pos) (k:=k) hc h hn hst
 intro pins s σ H v u Q I rv q
 refine h pins s σ H v u Q I rv ?_
 obtain⟨G0,H0,G,ρ,d,ρ',good,rd,hf,k⟩:=q
 unfold gT at hf
 split at hf
 · obtain⟨p,vs,rfl,h1,h2⟩:=xE.mp rd
   exact⟨p,vs,rfl,good.sub.tup h1,by rw[←h2.length];exact hr _ _ _ hf,G0,H0,G,ρ,_,ρ',good,h2,hf,k⟩
 · cases hf
theorem yE {g:Gf}{r:Gfs}{n:Nat}(h:∀ds ρ ρ',r ds ρ=some ρ'->ds.length=n):∀ds ρ ρ',zB g r ds ρ=some ρ'->ds.length=n+1:=by
 intro ds ρ ρ' q
 unfold zB at q
 split at q
 · obtain⟨ρ1,e1,e2⟩:=Qq.mp q
   rw[Qo,h _ _ _ e2]
 · cases q
theorem uV:∀ds ρ ρ',wR ds ρ=some ρ'->ds.length=0:=by
 intro ds ρ ρ' q
 unfold wR at q
 split at q
 · rfl
 · cases q
def aX (ρ:List B):Prop:=(∀(j:Nat) (es:List D),ρ[j]?≠some (B.ow es))/\∀(j:Nat) (ks:List (D×D)),ρ[j]?≠some (B.od ks)
def zUd (g:Gf):Prop:=∀d ρ ρ',g d ρ=some ρ'->aX ρ->aX ρ'
def zUY (g:Gfs):Prop:=∀d ρ ρ',g d ρ=some ρ'->aX ρ->aX ρ'
theorem mH (i:Nat):zUd (gN i):=fun d ρ ρ' h n=>by
 cases h
 exact⟨fun j es e=>n.1 j es (vS e).2,fun j ks e=>n.2 j ks (fW e).2⟩
theorem gY:zUY wR:=fun d ρ ρ' h n=>by
 unfold wR at h
 split at h
 · cases h;exact n
 · cases h
theorem uJ {g:Gf}{r:Gfs}(h1:zUd g)(h2:zUY r):zUY (zB g r):=fun d ρ ρ' h n=>by
 unfold zB at h
 split at h
 · obtain⟨ρ1,e1,e2⟩:=Qq.mp h
   exact h2 _ _ _ e2 (h1 _ _ _ e1 n)
 · cases h
theorem zSe {r:Gfs}(h:zUY r):zUd (gT r):=fun d ρ ρ' q n=>by
 unfold gT at q
 split at q
 · exact h _ _ _ q n
 · cases q
def bC (f:Ef)(g:Gf):Sf:=fun ρ=>(f ρ).bind fun d=>(g d ρ).map .nx
theorem zSz {K:PySem.W.Frag}{t:TE}{f:Ef}{g:Gf}(imp:∀σ H Q,tF K f σ H Q->t σ H Q){D:Ends}{σ:St}{H:Hp}(h:tFS K (bC f g) D σ H):zWP t (tFG K g) D σ H:=by
 obtain⟨G0,H0,G,ρ,o,good,hf,k⟩:=h
 unfold bC at hf
 obtain⟨d,h1,hf⟩:=Qq.mp hf
 obtain⟨ρ',h2,rfl⟩:=Qt.mp hf
 exact imp _ _ _ ⟨G0,H0,G,ρ,d,good,h1,fun v H' G' s r=>⟨G0,H0,G',ρ,d,ρ',good.step s,r,h2,fun σ2 H2 G2 s2 g2=>k σ2 H2 G2 (s.gg.trans s2.gg) g2⟩⟩
theorem gB {g:Gf}(he:PF X e fa)(hg:PFG X tg g)(hs:swapsWithSole [tg] e pos.line X.env=pure false:=by rfl)(hw:swappedStores [tg] e X.env=pure none:=by rfl)(h1:(assignEach [tg] X.env).map (·.2)=[assign tg X.env]:=by rfl) :
   PFS X (.Assign [tg] e pos) (bC fa g):=PS.to (zYl he hg hs hw h1) fun D σ H h=>zSz (fun _ _ _ q=>q) h
def yH (i:Nat)(f:Ef):Sf:=fun ρ=>(f ρ).map fun d=>.nx (ρ.set i (.fz d))
theorem bX {K:PySem.W.Frag}{t:TE}{f:Ef}{i:Nat}(imp:∀σ H Q,tF K f σ H Q->t σ H Q){D:Ends}{σ:St}{H:Hp}(h:tFS K (yH i f) D σ H):zWP t (aP i) D σ H:=by
 obtain⟨G0,H0,G,ρ,o,good,hf,k⟩:=h
 unfold yH at hf
 obtain⟨d,h1,rfl⟩:=Qt.mp hf
 exact imp _ _ _ ⟨G0,H0,G,ρ,d,good,h1,fun v H' G' s r=>k _ H' G' s.gg ((good.step s).setF i r)⟩
theorem zM (i:Nat){x:Str}{pos':Pos}(hN:X.N.Nodup)(he:PF X e fa)(hi:X.N[i]?=some x:=by rfl)(hx:Loc X.env.scope x:=by first | exact .inl rfl | exact .inr rfl)(hs:swapsWith e (some (.Name x pos')) pos.line X.env=pure false:=by rfl)
   (hf:X.fn x=true∨X.env.scope.names.lookup x=some .local:=by first | exact .inl rfl | exact .inr rfl):PFS X (.Assign [.Name x pos'] e pos) (yH i fa) :=
 PS.to (aB hN hi hx he hs hf) fun D σ H h=>bX (fun _ _ _ q=>q) h
def qZ (i:Nat)(f:Lf):Sf:=fun ρ=>(f ρ).map fun ds=>.nx (ρ.set i (.ow ds))
theorem zW2 {K:PySem.W.Frag}{t:TE}{f:Lf}{i:Nat}(imp:∀σ H Q,tFr K f σ H Q->t σ H Q){D:Ends}{σ:St}{H:Hp}(h:tFS K (qZ i f) D σ H):zWP t (aP i) D σ H:=by
 obtain⟨G0,H0,G,ρ,o,good,hf,k⟩:=h
 unfold qZ at hf
 obtain⟨ds,h1,rfl⟩:=Qt.mp hf
 refine imp _ _ _ ⟨G0,H0,G,ρ,ds,good,h1,fun p vs H' G' s hn hp gp rs=>?_⟩
 refine k _ H' G' s.gg ((good.step s).setO i hp gp (good.st.hh.free hn) rs fun j es e z=>?_)
 obtain⟨q,us,e1,e2,_⟩:=good.addr e
 rw[e1] at z;cases z
 rw[hn] at e2;cases e2
theorem tR (i:Nat){x:Str}{pos':Pos}(hN:X.N.Nodup)(he:PFr X e ga)(hi:X.N[i]?=some x:=by rfl)(hx:Loc X.env.scope x:=by first | exact .inl rfl | exact .inr rfl)(hs:swapsWith e (some (.Name x pos')) pos.line X.env=pure false:=by rfl)
   (hf:X.fn x=true∨X.env.scope.names.lookup x=some .local:=by first | exact .inl rfl | exact .inr rfl):PFS X (.Assign [.Name x pos'] e pos) (qZ i ga) :=
 PS.to (aB hN hi hx he hs hf) fun D σ H h=>zW2 (fun _ _ _ q=>q) h
def zOF (i:Nat)(ρ:List B):List B:=match ρ[i]? with | some (.ow ds)=>ρ.set i (.fz (.lst ds)) | _=>ρ
def dB (i:Nat)(f:Sf):Sf:=fun ρ=>f (zOF i ρ)
theorem Good.frz {K:PySem.W.Frag}{G0 H0 G H:Hp}{σ:St}{ρ:List B}(g:Good K G0 H0 G H σ ρ)(i:Nat):∃G',Same G G'/\Good K G0 H0 G' H σ (zOF i ρ):=by
 unfold zOF
 split
 · rename_i ds e
   obtain⟨p,vs,h1,h2,h3,h4,h5⟩:=g.addr e
   have sG:Same G (upd G p (.lst vs)):=Same.new h3
   have st:Step G0 H0 (upd G p (.lst vs)) H:=by
     refine⟨g.st.hh,g.st.gg.trans sG,fun b o q=>?_,fun b hb=>?_⟩
     · by_cases z:b=p
       · subst z;rw[zN] at q;rw[h2];exact q
       · rw[yS z] at q;exact g.st.sub b o q
     · rw[yS (fun z:b=p=>hb (by rw[z];exact h4))];exact g.st.new b hb
   have vals:Paired (RB K H0 (upd G p (.lst vs)) H) σ (ρ.set i (.fz (.lst ds))):=by
     have key:∀(l:List (Option V)) (r:List B) (n:Nat),Paired (RB K H0 G H) l r->(∀j es,n+j≠i->r[j]?=some (.ow es)->l[j]?≠some (some (.ref p)))->(∀j,n+j=i->l[j]?=some (some (.ref p))) ->
         Paired (RB K H0 (upd G p (.lst vs)) H) l (if i < n then r else r.set (i - n) (.fz (.lst ds))):=by
       intro l r n q
       induction q generalizing n with
       | nil=>intro _ _;split<;>exact .nil
       | @cons o b l' r' q t ih =>
         intro hne hat
         have tl:=ih (n+1) (fun j es z e=>by have:=hne (j+1) es (by omega) (by simpa using e);simpa using this) (fun j z=>by have:=hat (j+1) (by omega);simpa using this)
         have keepq:(∀es,b = .ow es->o≠some (.ref p))->RB K H0 (upd G p (.lst vs)) H o b:=fun hb=>by
           cases q with
           | no=>exact .no
           | fz r=>exact .fz (r.mono sG)
           | @ow c vs' ds' c1 c2 c3 c4 =>
             have:c≠p:=fun z=>hb _ rfl (by rw[z])
             exact .ow c1 (by rw[yS this];exact c2) c3 (c4.mono sG)
           | @od c _ _ _ _ c1 c2 c3 c4 c5 c6 =>
             have:c≠p:=fun z=>by rw[z,h2] at c1;cases c1
             exact .od c1 (by rw[yS this];exact c2) c3 (c4.mono sG) c5 c6
         by_cases h1:i < n
         · rw[Wr h1]
           rw[Wr (by omega)] at tl
           exact .cons (keepq fun es e z=>hne 0 es (by omega) (by simp[e]) (by simp[z])) tl
         · rw[Wj h1]
           by_cases h2:i=n
           · subst h2
             rw[Wr (by omega)] at tl
             have:=hat 0 (by omega)
             simp at this
             subst this
             rw[Nat.sub_self]
             exact .cons (.fz (xY.mpr ⟨p,vs,rfl,.of zN,h5.mono sG⟩)) tl
           · rw[Wj (by omega)] at tl
             have e:i - n=(i - (n+1))+1:=by omega
             rw[e]
             exact .cons (keepq fun es e z=>hne 0 es (by omega) (by simp[e]) (by simp[z])) tl
     have v:=key σ ρ 0 g.vals (fun j es' z e' w=>by have:=g.apart j i p es' ds e' e w h1;omega) (fun j z=>by rw[show j=i by omega];exact h1)
     rw[Wj (Nat.not_lt_zero _),Nat.sub_zero] at v
     exact v
   refine⟨_,sG,st,vals,fun j k b d1 d2 e1 e2 e3 e4=>?_⟩
   obtain⟨_,f1⟩:=vS e1
   obtain⟨_,f2⟩:=vS e2
   exact g.apart j k b d1 d2 f1 f2 e3 e4
 · exact⟨G,Same.refl _,g⟩
theorem oF (i:Nat)(h:PFS X st f):PFS X st (dB i f):=by
 refine PS.to h ?_
 rintro D σ H ⟨G0,H0,G,ρ,o,good,hf,k⟩
 obtain⟨G',s,g'⟩:=good.frz i
 exact⟨G0,H0,G',_,o,g',hf,k.mono s⟩
end
def aY (K:PySem.W.Frag)(J:It)(G:Hp)(ds:List D):Prop:=∀(i:Nat) (G2 H2:Hp),Same G G2->Same G2 H2 ->
 (∀d,ds[i]?=some d->J.go i H2/\∀x H3,J.yld i H2 x H3->∃G3,Step G2 H2 G3 H3/\Rep K G3 d x)/\(ds.length<=i->J.stop i H2)
def tFI (K:PySem.W.Frag)(f:Lf):TI:=fun σ H R=>∃G0 H0 G ρ ds,Good K G0 H0 G H σ ρ/\f ρ=some ds/\∀J H' G',Step G H G' H'->aY K J G' ds->R J H'
def PFI (X:Cx)(tg iter:Expr)(f:Lf):Prop:=PI X tg iter (tFI X.K f)
theorem PI.to {X:Cx}{tg e:Expr}{t:TI}{f:Lf}(h:PI X tg e t)(imp:∀σ H R,tFI X.K f σ H R->t σ H R):PFI X tg e f:=fun pins s σ H R I q=>h pins s σ H R I (imp σ H R q)
theorem iB {K:PySem.W.Frag}{G:Hp}{a:Addr}{vs:List V}{ds:List D}(h:SqL K G a vs)(r:Reps K G ds vs):aY K (Itl K a) G ds:=by
 intro i G2 H2 s1 s2
 have q:SqL K H2 a vs:=(s1.trans s2).seq h
 refine⟨fun d hd=>?_,fun hi=>⟨vs,q,by rw[←r.length];exact hi⟩⟩
 obtain⟨v,e,rv⟩:=r.get hd
 refine⟨⟨vs,v,q,e⟩,fun x H3 y=>?_⟩
 obtain⟨rfl,y⟩:=y
 have:=y vs q
 rw[e] at this;cases this
 exact⟨G2,.refl s2,rv.mono s1⟩
theorem zV6 {K:PySem.W.Frag}{G:Hp}{a:Addr}{vs:List V}{ds:List D}(h:SqT K G a vs)(r:Reps K G ds vs):aY K (Itt K a) G ds:=by
 intro i G2 H2 s1 s2
 have q:SqT K H2 a vs:=(s1.trans s2).tup h
 refine⟨fun d hd=>?_,fun hi=>⟨vs,q,by rw[←r.length];exact hi⟩⟩
 obtain⟨v,e,rv⟩:=r.get hd
 refine⟨⟨vs,v,q,e⟩,fun x H3 y=>?_⟩
 obtain⟨rfl,y⟩:=y
 have:=y vs q
 rw[e] at this;cases this
 exact⟨G2,.refl s2,rv.mono s1⟩
def cG (lo:Int)(n:Nat):List D:=(List.range n).map fun i=>D.int (lo+(i:Nat))
theorem gQ {K:PySem.W.Frag}{G:Hp}{lo:Int}{n:Nat}:aY K (Itr lo n) G (cG lo n):=by
 intro i G2 H2 s1 s2
 have hl:(cG lo n).length=n:=by simp[cG]
 refine⟨fun d hd=>?_,fun hi=>by rw[hl] at hi;exact hi⟩
 have hi:i < n:=by rw[←hl];exact(Qj.mp hd).1
 refine⟨hi,fun x H3 y=>?_⟩
 obtain⟨rfl,rfl⟩:=y
 have e:d = .int (lo+i):=by
   unfold cG at hd
   rw[Wx,List.getElem?_range hi] at hd
   exact(Wo hd).symm
 subst e
 exact⟨G2,.refl s2,zD.mpr rfl⟩
section
variable {X:Cx} {a b c e tg elt iter:Expr} {es ifs:List Expr} {fa fb:Ef} {ga gi:Lf} {tc:Tf} {pos:Pos} {st:Stmt} {f g:Sf}
def iL (f:Ef):Lf:=fun ρ=>(f ρ).bind fun d=>match d with | .lst ds=>some ds | _=>none
def iT (f:Ef):Lf:=fun ρ=>(f ρ).bind fun d=>match d with | .tup ds=>some ds | _=>none
theorem zTO (h:PF X e fa):PFI X tg e (iL fa):=by
 refine PI.to (zUi h) ?_
 rintro σ H R ⟨G0,H0,G,ρ,ds,good,hf,k⟩
 unfold iL at hf
 obtain⟨d,h1,hf⟩:=Qq.mp hf
 cases d with
 | lst es =>
   cases hf
   refine⟨G0,H0,G,ρ,_,good,h1,fun x H1 G1 s1 r1=>?_⟩
   obtain⟨p,vs,rfl,q,rs⟩:=xY.mp r1
   exact⟨p,rfl,⟨vs,s1.sub.seq q⟩,k _ H1 G1 s1 (iB q rs)⟩
 | _=>cases hf
theorem zNZ (h:PFr X e ga):PFI X tg e ga:=by
 refine PI.to (zUi h) ?_
 rintro σ H R ⟨G0,H0,G,ρ,ds,good,hf,k⟩
 refine⟨G0,H0,G,ρ,_,good,hf,fun p vs H1 G1 s1 hn hp gp rs=>?_⟩
 exact⟨p,rfl,⟨vs,.of hp⟩,k _ H1 (upd G1 p (.lst vs)) (s1.frz hn hp gp) (iB (.of zN) (rs.mono (Same.new gp)))⟩
theorem zQp (h:PF X e fa):PFI X tg e (iT fa):=by
 refine PI.to (zPt h) ?_
 rintro σ H R ⟨G0,H0,G,ρ,ds,good,hf,k⟩
 unfold iT at hf
 obtain⟨d,h1,hf⟩:=Qq.mp hf
 cases d with
 | tup es =>
   cases hf
   refine⟨G0,H0,G,ρ,_,good,h1,fun x H1 G1 s1 r1=>?_⟩
   obtain⟨p,vs,rfl,q,rs⟩:=xE.mp r1
   exact⟨p,rfl,⟨vs,s1.sub.tup q⟩,k _ H1 G1 s1 (zV6 q rs)⟩
 | _=>cases hf
def iR (f:Ef):Lf:=fun ρ=>(f ρ).bind fun d=>match d with | .int n=>if decide (-1000000<=n)&&decide (n<=1000000) then some (cG 0 n.toNat) else none | _=>none
theorem zQv {p:Pos}(hg:Gl X "range")(hm:X.mg "range"=none)(h:PF X a fa)(hs:starEach [a] X.env=[(false,eval a X.env)]:=by rfl):PFI X tg (.Call (.Name "range" p) [a] [] pos) (iR fa):=by
 refine PI.to (zT4 hg hm (zC h yJ (by rw[hs];rfl)) hs) ?_
 rintro σ H R ⟨G0,H0,G,ρ,ds,good,hf,k⟩
 unfold iR at hf
 obtain⟨d,h1,hf⟩:=Qq.mp hf
 cases d with
 | int n =>
   dsimp only at hf
   split at hf
   · rename_i hc
     cases hf
     simp only[Qg,Wh] at hc
     refine⟨G0,H0,G,ρ,_,good,h1,fun x H1 G1 s1 r1=>⟨n,by rw[zD.mp r1],by omega,by omega,k _ H1 G1 s1 gQ⟩⟩
   · cases hf
 | _=>cases hf
def iR2 (f g:Ef):Lf:=fun ρ=>(f ρ).bind fun x=>(g ρ).bind fun y=>match x,y with | .int m,.int n=>if decide (-1000000<=m)&&decide (m<=1000000)&&decide (-1000000<=n)&&decide (n<=1000000) then some (cG m (n - m).toNat) else none | _,_=>none
theorem zPG {p:Pos}(hg:Gl X "range")(hm:X.mg "range"=none)(h:PF X a fa)(h':PF X b fb)(hs:starEach [a,b] X.env=[(false,eval a X.env),(false,eval b X.env)]:=by rfl)(hs2:starEach [b] X.env=[(false,eval b X.env)]:=by rfl):PFI X tg (.Call (.Name "range" p) [a,b] [] pos) (iR2 fa fb):=by
 refine PI.to (zT1 hg hm (zC h (zC h' yJ (by rw[hs2];rfl)) (by rw[hs,hs2])) hs hs2) ?_
 rintro σ H R ⟨G0,H0,G,ρ,ds,good,hf,k⟩
 unfold iR2 at hf
 obtain⟨d,h1,hf⟩:=Qq.mp hf
 obtain⟨d',h2,hf⟩:=Qq.mp hf
 cases d with
 | int m =>
   cases d' with
   | int n =>
     dsimp only at hf
     split at hf
     · rename_i hc
       cases hf
       simp only[Qg,Wh] at hc
       refine⟨G0,H0,G,ρ,_,good,h1,fun x H1 G1 s1 r1=>⟨G0,H0,G1,ρ,_,good.step s1,h2,fun y H2 G2 s2 r2=>⟨m,n,by rw[zD.mp r1,zD.mp r2],⟨by omega,by omega,by omega,by omega⟩,k _ H2 G2 (s1.trans s2) gQ⟩⟩⟩
     · cases hf
   | _=>cases hf
 | _=>cases hf
def jW (g:Gf)(body:Sf):List D->Sf
 | [],ρ=>some (.nx ρ)
 | d::r,ρ=>(g d ρ).bind fun ρ1=>(body ρ1).bind fun o=>match o with
   | .nx ρ2=>jW g body r ρ2
   | .ct ρ2=>jW g body r ρ2
   | .bk ρ2=>some (.nx ρ2)
   | o=>some o
def gG (src:Lf)(g:Gf)(body:Sf):Sf:=fun ρ=>(src ρ).bind fun ds=>jW g body ds ρ
theorem kA {gt:Gf}{body:List Stmt}{fb:Sf}(hp:PassesOwn (model X.prog X.w) X.A X.env X.xe)(hc:X.calm=true)(hi:PFI X tg iter gi)(hg:PFG X tg gt)(hb:PFSs X body fb)(hs:∀x,foldedSetIterable iter X.env x=pure x:=by intro _;rfl) :
   PFS X (.For tg iter body [] pos) (gG gi gt fb):=by
 refine PS.to (zPm hp hc hi hg hb hs) ?_
 rintro D σ H ⟨G0,H0,G,ρ,o,good,hf,k⟩
 unfold gG at hf
 obtain⟨ds,h1,hf⟩:=Qq.mp hf
 refine⟨G0,H0,G,ρ,ds,good,h1,fun J H1 G1 s1 y=>?_⟩
 refine⟨fun i m σ H=>m=ds.length - i/\i<=ds.length/\∃G2 ρ2,Same G1 G2/\Good X.K G0 H0 G2 H σ ρ2/\jW gt fb (ds.drop i) ρ2=some o,⟨ds.length,by simp,Tb _,G1,ρ,Same.refl _,good.step s1,by simpa using hf⟩,?_⟩
 rintro i m σ2 H2 ⟨rfl,hi',G2,ρ2,sg,good2,hf2⟩
 obtain⟨y1,y2⟩:=y i G2 H2 sg good2.sub
 by_cases hlt:i < ds.length
 · obtain⟨go,yl⟩:=y1 ds[i] (Qs hlt)
   rw[Yb hlt] at hf2
   unfold jW at hf2
   obtain⟨ρ3,e1,hf2⟩:=Qq.mp hf2
   obtain⟨o1,e2,hf2⟩:=Qq.mp hf2
   refine .inr ⟨go,fun σ' H'=>∃G' ρ',Same G1 G'/\Good X.K G0 H0 G' H' σ' ρ'/\jW gt fb (ds.drop (i+1)) ρ'=some o,fun σ' H' ⟨G',ρ',a1,a2,a3⟩=>⟨ds.length - (i+1),by omega,rfl,hlt,G',ρ',a1,a2,a3⟩,fun x H3 yx=>?_⟩
   obtain⟨G3,s3,r3⟩:=yl x H3 yx
   refine⟨G0,H0,G3,ρ2,_,ρ3,good2.step s3,r3,e1,fun σ4 H4 G4 s4 good4=>?_⟩
   have sg4:Same G1 G4:=(sg.trans s3.gg).trans s4.gg
   refine⟨G0,H0,G4,ρ3,o1,good4,e2,?_⟩
   cases o1 with
   | nx ρ5=>exact fun σ5 H5 G5 s5 good5=>⟨G5,ρ5,sg4.trans s5,good5,hf2⟩
   | ct ρ5=>exact fun σ5 H5 G5 s5 good5=>⟨G5,ρ5,sg4.trans s5,good5,hf2⟩
   | bk ρ5=>cases hf2;exact fun σ5 H5 G5 s5 good5=>k σ5 H5 G5 ((s1.gg.trans sg4).trans s5) good5
   | rt d=>cases hf2;exact k
   | rl d=>cases hf2;exact k
 · have e:i=ds.length:=by omega
   subst e
   rw[Ik] at hf2
   cases hf2
   exact .inl ⟨y2 (Ql _),k σ2 H2 G2 (s1.gg.trans sg) good2⟩
def gK (g:Gf)(t:Tf)(elt:Ef):List D->List B->List D->Option (List D)
 | [],_,acc=>some acc
 | d::r,ρ,acc=>(g d ρ).bind fun ρ1=>(t ρ1).bind fun c=>if c=true then(elt ρ1).bind fun y=>gK g t elt r ρ1 (acc++[y]) else gK g t elt r ρ1 acc
def upB (m:Nat)(js:List Nat)(ρ:List B):List B:=List.replicate m .no++js.map fun j=>match ρ[j]? with | some (.fz d)=>.fz d | _=>.no
def xH (src:Lf)(m:Nat)(js:List Nat)(g:Gf)(t:Tf)(elt:Ef):Lf:=fun ρ=>((src ρ).bind okL).bind fun ds=>gK g t elt ds (upB m js ρ) []
theorem Good.up {K:PySem.W.Frag}{G0 H0 G H:Hp}{σ:St}{ρ:List B}(g:Good K G0 H0 G H σ ρ)(m:Nat)(js:List Nat):Good K G H G H (upC m js σ) (upB m js ρ):=by
 refine⟨.refl g.sub,?_,fun i j a ds es h1=>?_⟩
 · unfold upC upB
   have rep:∀m:Nat,Paired (RB K H G H) (List.replicate m (none:Option V)) (List.replicate m B.no):=fun m=>by
     induction m with
     | zero=>exact .nil
     | succ n ih=>rw[Wz,Wz];exact .cons .no ih
   have app:∀ {l1 l2:List (Option V)} {r1 r2:List B},Paired (RB K H G H) l1 r1->Paired (RB K H G H) l2 r2->Paired (RB K H G H) (l1++l2) (r1++r2):=fun h1 h2=>by
     induction h1 with
     | nil=>exact h2
     | cons q t ih=>exact .cons q ih
   refine app (rep m) ?_
   induction js with
   | nil=>exact .nil
   | cons j r ih =>
     rw[Qx,Qx]
     refine .cons ?_ ih
     cases e:ρ[j]? with
     | none=>exact .no
     | some b =>
       obtain⟨o,e1,r1⟩:=Paired.get g.vals e
       cases r1 with
       | no=>exact .no
       | fz q=>rw[e1];exact .fz q
       | ow q1 q2 q3 q4=>exact .no
       | od q1 q2 q3 q4 q5 q6=>exact .no
 · unfold upB at h1
   by_cases hi:i < m
   · rw[Wn (by simpa using hi),En] at h1
     split at h1<;>cases h1
   · rw[Ee (by simpa using hi),Wx] at h1
     obtain⟨k,_,h1⟩:=Qt.mp h1
     split at h1<;>cases h1
theorem zSw (m:Nat)(js:List Nat)(ρ:List B):aX (upB m js ρ):=by
 constructor
 all_goals
   intro i es h1
   unfold upB at h1
   by_cases hi:i < m
   · rw[Wn (by simpa using hi),En] at h1
     split at h1<;>cases h1
   · rw[Ee (by simpa using hi),Wx] at h1
     obtain⟨k,_,h1⟩:=Qt.mp h1
     split at h1<;>cases h1
theorem Good.wrX {K:PySem.W.Frag}{G0 H0 G H:Hp}{σ:St}{ρ:List B}{p:Addr}{o:HO}(g:Good K G0 H0 G H σ ρ)(n:aX ρ)(gp:G p=none)(h0:H0 p=none):Good K G0 H0 G (upd H p o) σ ρ:=by
 refine⟨⟨fun b u e=>?_,g.st.gg,fun b u e=>?_,g.st.new⟩,?_,g.apart⟩
 · rw[yS (yK e h0)];exact g.st.hh b u e
 · rw[yS (yK e gp)];exact g.st.sub b u e
 · have key:∀(l:List (Option V)) (r:List B),Paired (RB K H0 G H) l r->aX r->Paired (RB K H0 G (upd H p o)) l r:=by
     intro l r q
     induction q with
     | nil=>intro _;exact .nil
     | @cons x b l' r' q t ih =>
       intro n
       refine .cons ?_ (ih ⟨fun j es e=>n.1 (j+1) es (by simpa using e),fun j es e=>n.2 (j+1) es (by simpa using e)⟩)
       cases q with
       | no=>exact .no
       | fz r=>exact .fz r
       | ow _ _ _ _=>exact absurd rfl (n.1 0 _)
       | od _ _ _ _ _ _=>exact absurd rfl (n.2 0 _)
   exact key σ ρ g.vals n
theorem zXt {K:PySem.W.Frag}{m:Nat}{js:List Nat}{gt:Gf}{t:Tf}{el:Ef}(hgo:zUd gt){σ:St}{H:Hp}{Q:VK}(h:tFr K (xH gi m js gt t el) σ H Q):zRF (tFI K gi) m js (tFG K gt) (tFT K t) (tF K el) σ H Q:=by
 obtain⟨G0,H0,G,ρ,out,good,hf,k⟩:=h
 unfold xH at hf
 obtain⟨ds,h1,hf⟩:=Qq.mp hf
 obtain⟨ds',h1,h1'⟩:=Qq.mp h1
 obtain⟨rfl,hlen⟩:=lZ h1'
 refine⟨G0,H0,G,ρ,_,good,h1,fun J H1 G1 s1 y D hD=>?_⟩
 have good1:=(good.step s1).up m js
 have hGD:G1 D=none:=s1.sub.free hD
 refine⟨fun i n σ2 H2=>n=ds.length - i/\i<=ds.length/\∃G2 ρ2 acc us,Same G1 G2/\G2 D=none/\H2 D=some (.lst us)/\Reps K G2 acc us/\acc.length<=i/\aX ρ2/\Good K G1 H1 G2 H2 σ2 ρ2/\gK gt t el (ds.drop i) ρ2 acc=some out,
   ⟨ds.length,by simp,Tb _,G1,upB m js ρ,[],[],Same.refl _,hGD,zN,yR.mpr rfl,Ql _,zSw _ _ _,good1.step (Step.own s1.sub hD),by simpa using hf⟩,?_⟩
 rintro i n σ2 H2 ⟨rfl,hi,G2,ρ2,acc,us,sg,gD,hD2,rs,hal,now,good2,hf2⟩
 obtain⟨y1,y2⟩:=y i G2 H2 sg good2.sub
 by_cases hlt:i < ds.length
 · obtain⟨go,yl⟩:=y1 ds[i] (Qs hlt)
   rw[Yb hlt] at hf2
   unfold gK at hf2
   obtain⟨ρ3,e1,hf2⟩:=Qq.mp hf2
   obtain⟨c,e2,hf2⟩:=Qq.mp hf2
   have now3:=hgo _ _ _ e1 now
   refine .inr ⟨go,fun x H3 yx=>?_⟩
   obtain⟨G3,s3,r3⟩:=yl x H3 yx
   refine⟨G1,H1,G3,ρ2,_,ρ3,good2.step s3,r3,e1,fun σ4 H4 G4 s4 good4=>?_⟩
   refine⟨G1,H1,G4,ρ3,c,good4,e2,fun H5 G5 s5=>?_⟩
   have s35:=(s3.trans s4).trans s5
   have hne:H2 D≠none:=by rw[hD2];exact fun z=>nomatch z
   split at hf2
   · rename_i hc
     show if c=true then _ else _
     rw[Wr hc]
     obtain⟨yd,e3,hf2⟩:=Qq.mp hf2
     refine⟨G1,H1,G5,ρ3,yd,good4.step s5,e3,fun v H6 G6 s6 r6=>?_⟩
     have s36:=s35.trans s6
     have hD6:H6 D=some (.lst us):=s36.hh _ _ hD2
     have gD6:G6 D=none:=(s36.new D hne).trans gD
     refine⟨us,ds.length - (i+1),hD6,?_,by omega,rfl,hlt,G6,ρ3,acc++[yd],us++[v],sg.trans s36.gg,gD6,zN,(rs.mono s36.gg).snoc r6,by rw[Qd,Ew];omega,now3,((good4.step s5).step s6).wrX now3 gD6 hD,hf2⟩
     rw[←rs.length]
     exact wU (Wv hal (Wv hi hlen))
   · rename_i hc
     show if c=true then _ else _
     rw[Wj hc]
     exact⟨ds.length - (i+1),by omega,rfl,hlt,G5,ρ3,acc,us,sg.trans s35.gg,(s35.new D hne).trans gD,s35.hh _ _ hD2,rs.mono s35.gg,by omega,now3,good4.step s5,hf2⟩
 · have e:i=ds.length:=by omega
   subst e
   rw[Ik] at hf2
   cases hf2
   exact .inl ⟨y2 (Ql _),k D us H2 G2 (s1.trans good2.st) (s1.hh.free hD) hD2 gD rs⟩
def tOK:Tf:=fun _=>some true
def zSL (X:Cx)(ifs:List Expr)(t:Tf):Prop:=zTp X ifs (tFT X.K t)
theorem xD {X:Cx}:zSL X [] tOK:=fun pins s σ H Q I h=>zRP pins s σ H Q I (by
 obtain⟨G0,H0,G,ρ,b,good,hf,k⟩:=h
 cases hf
 exact k H G (.refl good.sub))
theorem sU (sc:Scope)(N tgs frees:List Str)(js:List Nat){scope:Scope}{gt:Gf}{t:Tf}{el:Ef}(hgo:zUd gt)(hp:PFI X tg iter gi)(hc:X.calm=true)(hsc:X.env.scope=sc)(hNN:X.N=N)(hok:lX sc scope N tgs frees js=true)
   (hg:∀C s₀ H₀ fp,PFG (vN X (tgs++frees) scope C s₀ H₀ fp) tg gt) (hi:∀C s₀ H₀ fp,zSL (vN X (tgs++frees) scope C s₀ H₀ fp) ifs t) (he:∀C s₀ H₀ fp,PF (vN X (tgs++frees) scope C s₀ H₀ fp) elt el)
   (hs:∀x,foldedSetIterable iter X.env x=pure x:=by intro _;rfl) :
   PFr X (.ListComp elt [⟨tg,iter,ifs,0⟩] scope pos) (xH gi tgs.length js gt t el) :=
 PE.toR (zPU (g:=tFG X.K gt) (tc:=tFT X.K t) (te:=tF X.K el) sc tgs frees js hp hc hsc (by rw[hNN];exact hok) hg hi he hs) fun σ H Q h=>zXt hgo h
theorem iV (sc:Scope)(N tgs frees:List Str)(js:List Nat){scope:Scope}{gt:Gf}{t:Tf}{el:Ef}(hgo:zUd gt)(i:Nat){x:Str}{pos' spos:Pos}(hN:X.N.Nodup)(hx:X.N[i]?=some x)(hl:X.env.scope.names.lookup x=some .local)(hp:PFI X tg iter gi)(hc:X.calm=true)(hsc:X.env.scope=sc)(hNN:X.N=N)(hok:lX sc scope N tgs frees js=true)
   (hg:∀C s₀ H₀ fp,PFG (vN X (tgs++frees) scope C s₀ H₀ fp) tg gt) (hi:∀C s₀ H₀ fp,zSL (vN X (tgs++frees) scope C s₀ H₀ fp) ifs t) (he:∀C s₀ H₀ fp,PF (vN X (tgs++frees) scope C s₀ H₀ fp) elt el)
   (hsw:swapsWith (.ListComp elt [⟨tg,iter,ifs,0⟩] scope pos) (some (.Name x pos')) spos.line X.env=pure true:=by with_unfolding_all rfl) (hs:∀x,foldedSetIterable iter X.env x=pure x:=by intro _;rfl) :
   PFS X (.Assign [.Name x pos'] (.ListComp elt [⟨tg,iter,ifs,0⟩] scope pos) spos) (qZ i (xH gi tgs.length js gt t el)) :=
 PS.to (zVS (g:=tFG X.K gt) (tc:=tFT X.K t) (te:=tF X.K el) sc tgs frees js hN hx hl hp hc hsc (by rw[hNN];exact hok) hg hi he hsw hs) fun D σ H h=>zW2 (fun _ _ _ q=>zXt hgo q) h
end
section
variable {X:Cx} {a b c e:Expr} {fa fb:Ef} {pos:Pos} {f:Sf}
def cC (i:Nat)(f:Ef):Sf:=fun ρ=>(f ρ).bind fun d=>match ρ[i]? with | some (.ow ds)=>if ds.length < lim then some (.nx (ρ.set i (.ow (ds++[d])))) else none | _=>none
theorem zZO (i:Nat)(ht:PE X c (tBM X.K "list" zUs (zPR i) (jH (tF X.K fa) zWt)))(hs:swapsWith c none pos.line X.env=pure false:=by rfl):PFS X (.Expr c pos) (cC i fa):=by
 refine PS.to (zUG ht hs) ?_
 rintro D σ H ⟨G0,H0,G,ρ,o,good,hf,k⟩
 unfold cC at hf
 obtain⟨d,h1,hf⟩:=Qq.mp hf
 split at hf
 · rename_i ds hi
   split at hf
   · rename_i hl
     cases hf
     obtain⟨p,vs,e1,e2,e3,e4,e5⟩:=good.addr hi
     refine⟨.ref p,e1,.inl ⟨rfl,vs,.of e2⟩,G0,H0,G,ρ,d,good,h1,fun v H1 G1 s1 r1=>?_⟩
     have good1:=good.step s1
     obtain⟨p',vs',f1,f2,f3,f4,f5⟩:=good1.addr hi
     rw[e1] at f1;cases f1
     exact⟨p,vs',v,rfl,rfl,f2,by rw[←f5.length];exact wU (Ws hl),k σ _ G1 s1.gg (good1.wr hi e1 (f5.snoc r1))⟩
   · cases hf
 · cases hf
def zTS (j i:Nat)(f:Ef):Sf:=fun ρ=>(f ρ).bind fun d=>match d,ρ[i]? with
 | .int n,some (.ow ds)=>if ds.length<=lim then(ixN ds.length n).bind fun q=>(ds[q]?).map fun x=>.nx ((ρ.set i (.ow (ds.eraseIdx q))).set j (.fz x)) else none
 | _,_=>none
theorem zQS (j i:Nat){y:Str}{p4:Pos}(hNd:X.N.Nodup)(ht:PE X c (tBM X.K "list" zTc (zPR i) (jH (tF X.K fa) zWt)))(hj:X.N[j]?=some y:=by rfl)(hjx:Loc X.env.scope y:=by first | exact .inl rfl | exact .inr rfl)
   (hs:swapsWith c (some (.Name y p4)) pos.line X.env=pure false:=by rfl) (hfn:X.fn y=true∨X.env.scope.names.lookup y=some .local:=by first | exact .inl rfl | exact .inr rfl) :
   PFS X (.Assign [.Name y p4] c pos) (zTS j i fa):=by
 refine PS.to (aB hNd hj hjx ht hs hfn) ?_
 rintro D σ H ⟨G0,H0,G,ρ,o,good,hf,k⟩
 unfold zTS at hf
 obtain⟨d,h1,hf⟩:=Qq.mp hf
 split at hf
 · rename_i n ds hi
   split at hf
   · rename_i hl
     obtain⟨q,hq,hf⟩:=Qq.mp hf
     obtain⟨x',hx,rfl⟩:=Qt.mp hf
     obtain⟨p,vs,e1,e2,e3,e4,e5⟩:=good.addr hi
     refine⟨.ref p,e1,.inl ⟨rfl,vs,.of e2⟩,G0,H0,G,ρ,_,good,h1,fun v H1 G1 s1 r1=>?_⟩
     have good1:=good.step s1
     obtain⟨p',vs',f1,f2,f3,f4,f5⟩:=good1.addr hi
     rw[e1] at f1;cases f1
     obtain⟨w,hw,rw'⟩:=f5.get hx
     have hlen:=f5.length
     rw[hlen] at hq
     obtain⟨q1,q2,q3,q4⟩:=zX4 hq
     have hb:vs'.length < 2^40:=by rw[←hlen];exact Nat.lt_of_le_of_lt hl (by decide)
     refine⟨p,vs',n,q,w,rfl,by rw[zD.mp r1],f2,by omega,by omega,q1,hw,?_⟩
     exact k _ _ G1 s1.gg ((good1.wr hi e1 (f5.erase q)).setF j rw')
   · cases hf
 · cases hf
def zWQ (i:Nat)(fi fv:Ef):Sf:=fun ρ=>(fv ρ).bind fun d=>(fi ρ).bind fun n=>match n,ρ[i]? with
 | .int n,some (.ow ds)=>if ds.length<=lim then(ixN ds.length n).map fun q=>.nx (ρ.set i (.ow (ds.set q d))) else none
 | _,_=>none
theorem zUS (i:Nat){x:Str}{p1 p2:Pos}(he:PF X e fa)(hb:PF X b fb)(hN:X.N[i]?=some x:=by rfl)(hv:Vis X.env.scope x:=by first | exact Or.inl rfl | exact Or.inr (Or.inl rfl) | exact Or.inr (Or.inr rfl))(hd:(x==("__debug__":Str))=false:=by decide)(hcd:(x==("__classdict__":Str))=false:=by decide)
   (ha:∀v,assign (.Subscript (.Name x p1) b p2) X.env v=(do
     let ov ←holding [v] (eval (.Name x p1) X.env)
     let iv ←holding [v,ov] (eval b X.env)
     standAt p2
     holding [v,ov,iv] (setItem ov iv v)
     release [v,ov,iv] []):=by intro _;rfl)
   (hs:swapsWithSole [.Subscript (.Name x p1) b p2] e pos.line X.env=pure false:=by rfl) (hw:swappedStores [.Subscript (.Name x p1) b p2] e X.env=pure none:=by rfl)
   (h1:(assignEach [.Subscript (.Name x p1) b p2] X.env).map (·.2)=[assign (.Subscript (.Name x p1) b p2) X.env]:=by rfl):PFS X (.Assign [.Subscript (.Name x p1) b p2] e pos) (zWQ i fb fa):=by
 refine PS.to (zYl he (zSr (nX hN hv hd hcd) hb zSB ha) hs hw h1) ?_
 rintro D σ H ⟨G0,H0,G,ρ,o,good,hf,k⟩
 unfold zWQ at hf
 obtain⟨d,h1,hf⟩:=Qq.mp hf
 obtain⟨n,h2,hf⟩:=Qq.mp hf
 split at hf
 · rename_i n ds hi
   split at hf
   · rename_i hl
     obtain⟨q,hq,rfl⟩:=Qt.mp hf
     refine⟨G0,H0,G,ρ,d,good,h1,fun v H1 G1 s1 r1=>?_⟩
     have good1:=good.step s1
     obtain⟨p,vs,e1,e2,e3,e4,e5⟩:=good1.addr hi
     refine⟨.ref p,e1,G0,H0,G1,ρ,_,good1,h2,fun u H2 G2 s2 r2=>?_⟩
     have good2:=good1.step s2
     obtain⟨p',vs',f1,f2,f3,f4,f5⟩:=good2.addr hi
     rw[e1] at f1;cases f1
     refine⟨p,vs',n,q,rfl,zD.mp r2,f2,by rw[←f5.length];exact hq,?_⟩
     exact k _ _ G2 (s1.gg.trans s2.gg) (good2.wr hi e1 (f5.set q (r1.mono s2.gg)))
   · cases hf
 · cases hf
def zN0:D->Option D
 | .tup ds=>some (.int ds.length)
 | .lst ds=>some (.int ds.length)
 | .str z=>if z.length<=lim then some (.int z.length) else none
 | _=>none
def wS (f:Ef):Ef:=fun ρ=>(f ρ).bind zN0
theorem xM {p:Pos}(hg:Gl X "len")(hm:X.mg "len"=none)(h:PF X a fa)(hs:starEach [a] X.env=[(false,eval a X.env)]:=by rfl):PF X (.Call (.Name "len" p) [a] [] pos) (wS fa):=by
 refine PE.to (rD (gL.or zYa) hg hm PySem.boot_len (zC h yJ (by rw[hs];rfl)) (by decide) (by decide) (by rw[hs];rfl) (by rfl)) ?_
 rintro σ H Q ⟨G0,H0,G,ρ,d,good,hf,k⟩
 unfold wS at hf
 obtain⟨x,h1,hf⟩:=Qq.mp hf
 refine⟨G0,H0,G,ρ,_,good,h1,fun v H1 G1 s1 r1=>?_⟩
 unfold zN0 at hf
 split at hf
 · cases hf
   obtain⟨p,vs,rfl,q,rs⟩:=xE.mp r1
   exact .inl ⟨p,vs,rfl,.inr (s1.sub.tup q),k _ _ G1 s1 (zD.mpr (by rw[rs.length]))⟩
 · cases hf
   obtain⟨p,vs,rfl,q,rs⟩:=xY.mp r1
   exact .inl ⟨p,vs,rfl,.inl (s1.sub.seq q),k _ _ G1 s1 (zD.mpr (by rw[rs.length]))⟩
 · split at hf
   · rename_i hz
     cases hf
     exact .inr ⟨_,by rw[yU.mp r1],Ws (wU hz),k _ _ G1 s1 (zD.mpr rfl)⟩
   · cases hf
 · cases hf
def hG (i:Nat):Ef:=fun ρ=>match ρ[i]? with | some (.ow ds)=>some (.int ds.length) | _=>none
theorem zU3 (i:Nat){x:Str}{p p1:Pos}(hg:Gl X "len")(hm:X.mg "len"=none)(hN:X.N[i]?=some x:=by rfl)(hv:Vis X.env.scope x:=by first | exact Or.inl rfl | exact Or.inr (Or.inl rfl) | exact Or.inr (Or.inr rfl))(hd:(x==("__debug__":Str))=false:=by decide)(hcd:(x==("__classdict__":Str))=false:=by decide):PF X (.Call (.Name "len" p) [.Name x p1] [] pos) (hG i):=by
 refine PE.to (rD gL hg hm PySem.boot_len (zC (nX hN hv hd hcd) yJ)) ?_
 rintro σ H Q ⟨G0,H0,G,ρ,d,good,hf,k⟩
 unfold hG at hf
 split at hf
 · rename_i ds hi
   cases hf
   obtain⟨q,vs,e1,e2,e3,e4,e5⟩:=good.addr hi
   exact⟨.ref q,e1,q,vs,rfl,.inl (.of e2),k _ _ G (.refl good.sub) (zD.mpr (by rw[e5.length]))⟩
 · cases hf
def zV8:D->Option D | .lst ds=>some (.tup ds) | .tup ds=>some (.tup ds) | _=>none
def tM (f:Ef):Ef:=fun ρ=>(f ρ).bind zV8
theorem nP {p:Pos}(hg:Gl X "tuple")(hm:X.mg "tuple"=none)(h:PF X a fa)(hs:starEach [a] X.env=[(false,eval a X.env)]:=by rfl):PF X (.Call (.Name "tuple" p) [a] [] pos) (tM fa):=by
 refine PE.to (qG zZl hg hm (by rfl) (zC h yJ (by rw[hs];rfl)) (by decide) (by decide) (by rw[hs];rfl) (by rfl)) ?_
 rintro σ H Q ⟨G0,H0,G,ρ,d,good,hf,k⟩
 unfold tM at hf
 obtain⟨x,h1,hf⟩:=Qq.mp hf
 refine⟨G0,H0,G,ρ,_,good,h1,fun v H1 G1 s1 r1=>?_⟩
 unfold zV8 at hf
 split at hf
 · cases hf
   obtain⟨p,vs,rfl,q,rs⟩:=xY.mp r1
   refine⟨p,vs,rfl,.inl ⟨s1.sub.seq q,fun l hl=>?_⟩⟩
   have s2:=Step.laid (o:=.tup vs) s1.sub hl
   exact k _ _ _ (s1.trans s2) (xE.mpr ⟨l,vs,rfl,.of zN,rs.mono s2.gg⟩)
 · cases hf
   obtain⟨p,vs,rfl,q,rs⟩:=xE.mp r1
   exact⟨p,vs,rfl,.inr ⟨s1.sub.tup q,k _ _ G1 s1 r1⟩⟩
 · cases hf
def zRJ:D->Option (List D) | .lst ds=>some ds | .tup ds=>some ds | _=>none
def zXY (f:Ef):Lf:=fun ρ=>(f ρ).bind zRJ
theorem zTH {p:Pos}(hg:Gl X "list")(hm:X.mg "list"=none)(h:PF X a fa)(hs:starEach [a] X.env=[(false,eval a X.env)]:=by rfl):PFr X (.Call (.Name "list" p) [a] [] pos) (zXY fa):=by
 refine PE.toR (qG zYk hg hm (by rfl) (zC h yJ (by rw[hs];rfl)) (by decide) (by decide) (by rw[hs];rfl) (by rfl)) ?_
 rintro σ H Q ⟨G0,H0,G,ρ,d,good,hf,k⟩
 unfold zXY at hf
 obtain⟨x,h1,hf⟩:=Qq.mp hf
 refine⟨G0,H0,G,ρ,_,good,h1,fun v H1 G1 s1 r1=>?_⟩
 unfold zRJ at hf
 split at hf
 · cases hf
   obtain⟨p,vs,rfl,q,rs⟩:=xY.mp r1
   exact⟨p,vs,rfl,.inl (s1.sub.seq q),fun l hl=>k l vs _ G1 (s1.trans (Step.own s1.sub hl)) (s1.hh.free hl) zN (s1.sub.free hl) rs⟩
 · cases hf
   obtain⟨p,vs,rfl,q,rs⟩:=xE.mp r1
   exact⟨p,vs,rfl,.inr (s1.sub.tup q),fun l hl=>k l vs _ G1 (s1.trans (Step.own s1.sub hl)) (s1.hh.free hl) zN (s1.sub.free hl) rs⟩
 · cases hf
theorem zXl:CallR X (.type "range") (fun xs H Q=>∃j,xs=[.int j]/\∀p,H p=none->Q (.ref p) (upd H p (.rng 0 j))):=by
 intro pins s σ H xs us Q I r h
 obtain⟨j,rfl,q⟩:=h
 obtain⟨u,rfl,ru⟩:=nH r
 obtain⟨t,rfl⟩:=ru
 refine call_range_1 ⟨.ref s.heap.objs.size,_,I.laid (o:=.rng 0 j) (fun b o e=>Qr _ e) (Ql _) ?_,rfl,q _ I.fresh⟩
 exact⟨_,_,_,Qh _ rfl⟩
theorem aM (hc:X.calm=true):CallR X (.type "list") (fun xs H Q=>∃p j,xs=[.ref p]/\H p=some (.rng 0 j) /\ -1000000<=j/\j<=100000/\∀l,H l=none->Q (.ref l) (upd H l (.lst ((List.range j.toNat).map fun(i:Nat)=>V.int (0+(i:Nat)))))):=by
 intro pins s σ H xs us Q I r h
 obtain⟨p,j,rfl,hp,h1,h2,q⟩:=h
 obtain⟨u,rfl,ru⟩:=nH r
 cases ru
 obtain⟨t,u',v,e⟩:=(show ObjOk X.prog X.w H s.heap p (.rng 0 j) from I.hok p _ hp)
 have hsz:Builtin.Range.rangeSize 0 j 1=(j.toNat:Nat):=by rw[rangeSize_one];split<;>omega
 refine call_list_range (n:=j.toNat) (I.ok.hd hc) (show IsRange s.heap p 0 j 1 t u' v from e) (small_one (by omega) (by omega) (by omega) (by omega)) hsz (by omega) fun h' tk acc' c' hk hS hit=>?_
 have hvals:Vals ((List.range j.toNat).map fun(i:Nat)=>V.int (0+(i:Nat))) acc'.toList:=by
   have hl:acc'.toList.length=j.toNat:=by simpa using hit.1
   have gen:∀(l:List Value) (k:Nat),(∀i v,l[i]?=some v->∃t,v=Value.int (0+((k+i:Nat):Int)) t)->Vals ((List.range' k l.length).map fun(i:Nat)=>V.int (0+(i:Nat))) l:=by
     intro l
     induction l with
     | nil=>intro k _;exact .nil
     | cons y r ih =>
       intro k hh
       rw[Qo,List.range'_succ,Qx]
       refine .cons ?_ (ih (k+1) fun i v e=>?_)
       · obtain⟨t,e⟩:=hh 0 y rfl
         exact⟨t,by simpa using e⟩
       · obtain⟨t,e'⟩:=hh (i+1) v (by simpa using e)
         exact⟨t,by rw[e',show k+(i+1)=k+1+i by omega]⟩
   have:=gen acc'.toList 0 fun i v e=>by
     obtain⟨t,e'⟩:=hit.2 i v (by simpa using e)
     exact⟨t,by rw[e'];simp⟩
   rw[hl,←List.range_eq_range'] at this
   exact this
 refine⟨.ref s.heap.objs.size,_,I.laid (t':=tk) (o:=.lst _) hk (Ql _) ?_,rfl,q _ I.fresh⟩
 exact⟨by rw[Qu,List.length_range];exact Ws (wU (by show j.toNat<=100000;omega)),acc'.toList,c',hvals,by simpa using hS⟩
def zVE (f:Ef):Lf:=fun ρ=>(f ρ).bind fun d=>match d with | .int n=>if decide (-1000000<=n)&&decide (n<=100000) then some (cG 0 n.toNat) else none | _=>none
theorem zTG {K:PySem.W.Frag}{G:Hp}(n:Nat):Reps K G (cG 0 n) ((List.range n).map fun(i:Nat)=>V.int (0+(i:Nat))):=by
 unfold cG
 induction (List.range n) with
 | nil=>exact yR.mpr rfl
 | cons x r ih=>exact zG.mpr ⟨_,_,rfl,zD.mpr rfl,ih⟩
theorem zRu {p p1 p2:Pos}(hc:X.calm=true)(hg:Gl X "list")(hm:X.mg "list"=none)(hg':Gl X "range")(hm':X.mg "range"=none)(h:PF X a fa)(hs:starEach [a] X.env=[(false,eval a X.env)]:=by rfl)
   (hs2:starEach [.Call (.Name "range" p1) [a] [] p2] X.env=[(false,eval (.Call (.Name "range" p1) [a] [] p2) X.env)]:=by rfl) :
   PFr X (.Call (.Name "list" p) [.Call (.Name "range" p1) [a] [] p2] [] pos) (zVE fa):=by
 refine PE.toR (qG (aM hc) hg hm (by rfl) (zC (qG zXl hg' hm' (by rfl) (zC h yJ (by rw[hs];rfl)) (by decide) (by decide) (by rw[hs];rfl) (by rfl)) yJ (by rw[hs2];rfl)) (by decide) (by decide) (by rw[hs2];rfl) (by rfl)) ?_
 rintro σ H Q ⟨G0,H0,G,ρ,ds,good,hf,k⟩
 unfold zVE at hf
 obtain⟨d,h1,hf⟩:=Qq.mp hf
 cases d with
 | int n =>
   dsimp only at hf
   split at hf
   · rename_i hc
     cases hf
     simp only[Qg,Wh] at hc
     refine⟨G0,H0,G,ρ,_,good,h1,fun x H1 G1 s1 r1=>⟨n,by rw[zD.mp r1],fun p hp=>⟨p,n,rfl,zN,hc.1,hc.2,fun l hl=>?_⟩⟩⟩
     have s2:Step G1 H1 G1 (upd H1 p (.rng 0 n)):=Step.own s1.sub hp
     have s3:=Step.own (o:=.lst ((List.range n.toNat).map fun(i:Nat)=>V.int (0+(i:Nat)))) s2.sub hl
     exact k l _ _ G1 ((s1.trans s2).trans s3) ((s1.trans s2).hh.free hl) zN (s2.sub.free hl) (zTG _)
   · cases hf
 | _=>cases hf
end
def spF (K:PySem.W.Frag)(n:Nat)(f:List D->Option D):Sp:=fun vs H Q _=>∃G ds d,Same G H/\Reps K G ds vs/\ds.length=n/\f ds=some d/\∀v H' G',Step G H G' H'->Rep K G' d v->Q v H'
def spL (K:PySem.W.Frag)(n:Nat)(f:List D->Option (List D)):Sp:=fun vs H Q _=>∃G ds es,Same G H/\Reps K G ds vs/\ds.length=n/\f ds=some es/\∀a us H' G',Step G H G' H'->H a=none->H' a=some (.lst us)->G' a=none->Reps K G' es us->Q (.ref a) H'
def qX (N:Nat)(ds:List D):List B:=ds.map .fz++List.replicate (N - ds.length) .no
def qY:Out->Option D
 | .nx _=>some .non
 | .rt d=>some d
 | .rl ds=>some (.lst ds)
 | _=>none
def zRI:Out->Option (List D)
 | .rl ds=>some ds
 | _=>none
def fnF (N:Nat)(body:Sf)(ds:List D):Option D:=(body (qX N ds)).bind qY
def fnL (N:Nat)(body:Sf)(ds:List D):Option (List D):=(body (qX N ds)).bind zRI
theorem mR {K:PySem.W.Frag}{G H:Hp}{N:List Str}{ds:List D}{vs:List V}(s:Same G H)(r:Reps K G ds vs):Good K G H G H (wW N vs) (qX N.length ds):=by
 refine⟨.refl s,?_,fun i j a es es' h1=>?_⟩
 · unfold wW qX
   rw[r.length]
   have rep:∀m:Nat,Paired (RB K H G H) (List.replicate m (none:Option V)) (List.replicate m B.no):=fun m=>by
     induction m with
     | zero=>exact .nil
     | succ n ih=>rw[Wz,Wz];exact .cons .no ih
   have key:∀(ds:List D) (vs:List V) (l:List (Option V)) (q:List B),Reps K G ds vs->Paired (RB K H G H) l q->Paired (RB K H G H) (vs.map some++l) (ds.map .fz++q):=by
     intro ds
     induction ds with
     | nil=>intro vs l q h p;rw[yR] at h;subst h;exact p
     | cons d r ih =>
       intro vs l q h p
       obtain⟨v,vr,rfl,h1,h2⟩:=zG.mp h
       exact .cons (.fz h1) (ih vr l q h2 p)
   exact key ds vs _ _ r (rep _)
 · unfold qX at h1
   by_cases hi:i < ds.length
   · rw[Wn (by simpa using hi),Wx] at h1
     obtain⟨k,_,h1⟩:=Qt.mp h1
     cases h1
   · rw[Ee (by simpa using hi),En] at h1
     split at h1<;>cases h1
section
variable {P:Program} {w:World} {K:PySem.W.Frag} {mg:Str->Option Value} {base:Heap} {x qual:Str} {st:Stmt} {f:Addr} {fd:FuncData} {N ps:List Str} {k:Nat}
theorem rC {body:Sf}(F:Fun K x qual st f fd)(S:FnScope N ps (zU st))
   (hb:∀(cdv:Value) (A:Around) (outer:List Env) (s:Shared) (H:Hp) (E:XK),Room k (A.deeper (envOfC qual (zU st) s.heap.objs.size f cdv))->PFSs (oZ CX0 P w K mg base N qual (zU st) f cdv A outer s H E).nox (zJ st) body) :
   FnOk P w K mg base CX0 (k+1) f fd ps (spF K ps.length (fnF N.length body)):=by
 refine F.ok S (fun vs H Q E h=>?_) (fun cdv A outer s H vs Q E hr h=>⟨_,hb cdv A outer s H E hr,?_⟩)
 · obtain⟨G,ds,d,sub,rs,hl,_⟩:=h
   rw[←rs.length];exact hl
 · obtain⟨G,ds,d,sub,rs,hl,hf,k⟩:=h
   unfold fnF at hf
   obtain⟨o,h1,h2⟩:=Qq.mp hf
   refine⟨G,H,G,_,o,mR sub rs,h1,?_⟩
   cases o with
   | nx ρ=>cases h2;exact fun σ' H' G' s' g'=>k .non H' G' g'.st (sP.mpr rfl)
   | rt e=>cases h2;exact fun v H' G' s' r=>k v H' G' s' r
   | rl es=>cases h2;exact fun p us H' G' s' hn hp gp r=>k _ H' (upd G' p (.lst us)) (s'.frz hn hp gp) (xY.mpr ⟨p,us,rfl,.of zN,r.mono (Same.new gp)⟩)
   | bk ρ=>cases h2
   | ct ρ=>cases h2
theorem zZE {body:Sf}(F:Fun K x qual st f fd)(S:FnScope N ps (zU st))
   (hb:∀(cdv:Value) (A:Around) (outer:List Env) (s:Shared) (H:Hp) (E:XK),Room k (A.deeper (envOfC qual (zU st) s.heap.objs.size f cdv))->PFSs (oZ CX0 P w K mg base N qual (zU st) f cdv A outer s H E).nox (zJ st) body) :
   FnOk P w K mg base CX0 (k+1) f fd ps (spL K ps.length (fnL N.length body)):=by
 refine F.ok S (fun vs H Q E h=>?_) (fun cdv A outer s H vs Q E hr h=>⟨_,hb cdv A outer s H E hr,?_⟩)
 · obtain⟨G,ds,d,sub,rs,hl,_⟩:=h
   rw[←rs.length];exact hl
 · obtain⟨G,ds,d,sub,rs,hl,hf,k⟩:=h
   unfold fnL at hf
   obtain⟨o,h1,h2⟩:=Qq.mp hf
   refine⟨G,H,G,_,o,mR sub rs,h1,?_⟩
   cases o with
   | rl es=>cases h2;exact fun p us H' G' s' hn hp gp r=>k p us H' G' s' hn hp gp r
   | _=>cases h2
theorem zSV {CX:CXT}{n:Nat}:FnOk P w K mg base CX k f fd ps (spF K n fun _=>none) :=
 ⟨fun vs H Q E h=>(by obtain⟨_,_,_,_,_,_,z,_⟩:=h;exact nomatch z),fun A outer s H args us vs Q E _ _ _ _ h=>(by obtain⟨_,_,_,_,_,_,z,_⟩:=h;exact nomatch z)⟩
end
section
variable {X:Cx} {a b c e:Expr} {es:List Expr} {fa fb:Ef} {ga:Lf} {tc:Tf} {pos p:Pos} {f g:Sf}
def zI (n:Nat)(f:List D->Option D)(g:Lf):Ef:=fun ρ=>(g ρ).bind fun ds=>if ds.length=n then f ds else none
theorem zQz {k n:Nat}{fad:Addr}{fd:FuncData}{ps:List Str}{x:Str}{fD:List D->Option D}(F:FnOk X.prog X.w X.K X.mg X.base CX0 k fad fd ps (spF X.K n fD))(hr:Room k X.A)(hm:X.mg x=some (.ref fad))(hk:PySem.W.keepIn X.K (.ref fad)=true)(hb:Binds X.K fd ps [])(hg:Gl X x)
   (ha:PFA X (e::es) ga) (hdb:(x==("__debug__":Str))=false:=by decide) (he:starEach (e::es) X.env=(false,eval e X.env)::starEach es X.env:=by rfl) (hpl:(backTo pos (starEach es X.env)).any (·.1)=false:=by rfl) :
   PF X (.Call (.Name x p) (e::es) [] pos) (zI n fD ga):=by
 refine PE.to (gH (E:=E0) F hr hg hm hk hb .nil zU7 ha hdb he hpl) ?_
 rintro σ H Q ⟨G0,H0,G,ρ,d,good,hf,k⟩
 unfold zI at hf
 obtain⟨ds,h1,hf⟩:=Qq.mp hf
 split at hf
 · rename_i hl
   refine⟨G0,H0,G,ρ,_,good,h1,fun vs H1 G1 s1 r1=>?_⟩
   show spF X.K n fD (vs++[]) H1 Q E0
   rw[Qb]
   exact⟨G1,ds,d,s1.sub,r1,hl,hf,fun v H' G' s r=>k v H' G' (s1.trans s) r⟩
 · cases hf
def qS (n:Nat)(f:List D->Option (List D))(g:Lf):Lf:=fun ρ=>(g ρ).bind fun ds=>if ds.length=n then f ds else none
theorem zQw {k n:Nat}{fad:Addr}{fd:FuncData}{ps:List Str}{x:Str}{fD:List D->Option (List D)}(F:FnOk X.prog X.w X.K X.mg X.base CX0 k fad fd ps (spL X.K n fD))(hr:Room k X.A)(hm:X.mg x=some (.ref fad))(hk:PySem.W.keepIn X.K (.ref fad)=true)(hb:Binds X.K fd ps [])(hg:Gl X x)
   (ha:PFA X (e::es) ga) (hdb:(x==("__debug__":Str))=false:=by decide) (he:starEach (e::es) X.env=(false,eval e X.env)::starEach es X.env:=by rfl) (hpl:(backTo pos (starEach es X.env)).any (·.1)=false:=by rfl) :
   PFr X (.Call (.Name x p) (e::es) [] pos) (qS n fD ga):=by
 refine PE.toR (gH (E:=E0) F hr hg hm hk hb .nil zU7 ha hdb he hpl) ?_
 rintro σ H Q ⟨G0,H0,G,ρ,d,good,hf,k⟩
 unfold qS at hf
 obtain⟨ds,h1,hf⟩:=Qq.mp hf
 split at hf
 · rename_i hl
   refine⟨G0,H0,G,ρ,_,good,h1,fun vs H1 G1 s1 r1=>?_⟩
   show spL X.K n fD (vs++[]) H1 Q E0
   rw[Qb]
   exact⟨G1,ds,d,s1.sub,r1,hl,hf,fun p us H' G' s hn hp gp r=>k p us H' G' (s1.trans s) (s1.hh.free hn) hp gp r⟩
 · cases hf
def oG (t:Tf)(body:Sf):Nat->Sf
 | 0,_=>none
 | n+1,ρ=>(t ρ).bind fun c=>if c=true then(body ρ).bind fun o=>match o with
     | .nx ρ2=>oG t body n ρ2
     | .ct ρ2=>oG t body n ρ2
     | .bk ρ2=>some (.nx ρ2)
     | o=>some o
   else some (.nx ρ)
theorem zTZ (n:Nat){body:List Stmt}{fb:Sf}(hp:PassesOwn (model X.prog X.w) X.A X.env X.xe)(hc:PFT X c tc)(hb:PFSs X body fb):PFS X (.While c body [] pos) (oG tc fb n):=by
 refine PS.to (zSp hp hc hb) ?_
 rintro D σ H ⟨G0,H0,G,ρ,o,good,hf,k⟩
 refine⟨fun m σ H=>∃G2 ρ2,Same G G2/\Good X.K G0 H0 G2 H σ ρ2/\oG tc fb m ρ2=some o,⟨n,G,ρ,Same.refl _,good,hf⟩,?_⟩
 rintro m σ2 H2 ⟨G2,ρ2,sg,good2,hf2⟩
 cases m with
 | zero=>cases hf2
 | succ m =>
   unfold oG at hf2
   obtain⟨c',h1,hf2⟩:=Qq.mp hf2
   refine⟨G0,H0,G2,ρ2,c',good2,h1,fun H3 G3 s3=>?_⟩
   cases c' with
   | true =>
     rw[Wr rfl] at hf2
     obtain⟨o1,e2,hf2⟩:=Qq.mp hf2
     refine⟨fun σ' H'=>∃G2 ρ2,Same G G2/\Good X.K G0 H0 G2 H' σ' ρ2/\oG tc fb m ρ2=some o,fun σ' H' h=>⟨m,Ij _,h⟩,?_⟩
     refine⟨G0,H0,G3,ρ2,o1,good2.step s3,e2,?_⟩
     have sg3:Same G G3:=sg.trans s3.gg
     cases o1 with
     | nx ρ5=>exact fun σ5 H5 G5 s5 good5=>⟨G5,ρ5,sg3.trans s5,good5,hf2⟩
     | ct ρ5=>exact fun σ5 H5 G5 s5 good5=>⟨G5,ρ5,sg3.trans s5,good5,hf2⟩
     | bk ρ5=>cases hf2;exact fun σ5 H5 G5 s5 good5=>k σ5 H5 G5 (sg3.trans s5) good5
     | rt d=>cases hf2;exact k
     | rl d=>cases hf2;exact k
   | false =>
     rw[Wj (by decide)] at hf2
     cases hf2
     exact k σ2 H3 G3 (sg.trans s3.gg) (good2.step s3)
def tyD:D->Option String
 | .non=>some "NoneType"
 | .bl _=>some "bool"
 | .int _=>some "int"
 | .str _=>some "str"
 | .tup _=>some "tuple"
 | .lst _=>some "list"
 | _=>none
theorem zNU {pins:List (Addr×Obj)}{σ:St}{H G:Hp}{s:Shared}{A:Around}{E:Value->Shared->Prop}{Q:Value->Shared->Prop}{d:D}{v:V}{u cl:Value}{t:String}{k:Bool}(I:Inv X pins σ H s)(rv:RelV v u)(sub:Same G H)(r:Rep X.K G d v)(ht:tyD d=some t)
   (e:PySem.W.kitOne X.K (.type t) cl=some k) (h:∀tk,Q (.bool k) { s with toks:=tk }):wpAny (model X.prog X.w) A (call (.builtin "isinstance") [u,cl]) Q E s:=by
 cases d with
 | non=>cases ht;rw[sP] at r;subst r;cases rv;exact Rb PySem.W.kitx_none I.kIn True.intro e (fun z=>nomatch z) h
 | bl y=>cases ht;rw[xF] at r;subst r;cases rv;exact Rb PySem.W.kitx_bool I.kIn True.intro e (fun z=>nomatch z) h
 | int i=>cases ht;rw[zD] at r;subst r;obtain⟨t,rfl⟩:=rv;exact Rb PySem.W.kitx_int I.kIn True.intro e (fun z=>nomatch z) h
 | str i=>cases ht;rw[yU] at r;subst r;obtain⟨t,rfl⟩:=rv;exact Rb PySem.W.kitx_str I.kIn True.intro e (fun z=>nomatch z) h
 | tup ds =>
   cases ht
   obtain⟨p,vs,rfl,q,_⟩:=xE.mp r
   cases rv
   obtain⟨its,_,⟨o,h1,h2,_⟩,_⟩:=I.tuple (sub.tup q)
   exact Rb PySem.W.kitx_tuple I.kIn ⟨o,h1,h2⟩ e (fun z=>nomatch z) h
 | lst ds =>
   cases ht
   obtain⟨p,vs,rfl,q,_⟩:=xY.mp r
   cases rv
   obtain⟨its,_,⟨o,n,h1,h2,_⟩,_⟩:=I.list (sub.seq q)
   exact Rb PySem.W.kitx_list I.kIn ⟨o,h1,h2⟩ e (fun z=>nomatch z) h
 | obj C ns ds=>cases ht
 | exc C ns ds=>cases ht
theorem zQx (K:PySem.W.Frag):∀t:String,t∈["NoneType","bool","int","str","tuple","list"]->PySem.W.kitOne K (.type t) (.type "int")=some (decide (t="bool"∨t="int")):=by
 intro t ht
 simp only[Qf,Wt,Eb] at ht
 rcases ht with rfl | rfl | rfl | rfl | rfl | rfl<;>kernel_rfl
theorem zSU (K:PySem.W.Frag):∀t:String,t∈["NoneType","bool","int","str","tuple","list"]->PySem.W.kitOne K (.type t) (.type "bool")=some (decide (t="bool")):=by
 intro t ht
 simp only[Qf,Wt,Eb] at ht
 rcases ht with rfl | rfl | rfl | rfl | rfl | rfl<;>kernel_rfl
theorem zU9 {d:D}{t:String}(h:tyD d=some t):t∈["NoneType","bool","int","str","tuple","list"]:=by
 cases d<;>cases h<;>simp
def zQg (p:D->Bool)(f:Ef):Ef:=fun ρ=>(f ρ).bind fun d=>match d with | .obj _ _ _=>none | .exc _ _ _=>none | d=>some (.bl (p d))
def isInt:D->Bool | .int _=>true | .bl _=>true | _=>false
def zYj:D->Bool | .bl _=>true | _=>false
def isStr:D->Bool | .str _=>true | _=>false
def zPL:D->Bool | .tup _=>true | _=>false
def zP9:D->Bool | .lst _=>true | _=>false
theorem zSM {T:Str}{TT:String}{q:D->Bool}{p1:Pos}(hT:bootBuiltins T=some (.type TT))(hq:∀(K:PySem.W.Frag) d t,tyD d=some t->PySem.W.kitOne K (.type t) (.type TT)=some (q d))(hg:Gl X "isinstance")(hm:X.mg "isinstance"=none)(hgT:Gl X T)(hmT:X.mg T=none)(h:PF X a fa)
   (hn:T≠"__name__":=by decide) (hd:(T==("__debug__":Str))=false:=by decide) (hs:starEach [a,.Name T p1] X.env=[(false,eval a X.env),(false,eval (.Name T p1) X.env)]:=by rfl):PF X (.Call (.Name "isinstance" p) [a,.Name T p1] [] pos) (zQg q fa):=by
 have hcall:CallR X (.builtin "isinstance") (fun xs H Q=>∃x G d,xs=[x,.ty TT]/\Same G H/\Rep X.K G d x/\(tyD d).isSome=true/\Q (.bl (q d)) H):=by
   intro pins s σ H xs us Q I r hh
   obtain⟨x,G,d,rfl,sub,rx,ht,qq⟩:=hh
   obtain⟨u,u',rfl,ru,ru'⟩:=zUO r
   cases ru'
   obtain⟨t,ht⟩:=Rs.mp ht
   exact zNU I ru sub rx ht (hq _ d t ht) fun tk=>⟨.bl (q d),H,I.tok tk,rfl,qq⟩
 refine PE.to (rD hcall hg hm (by rfl) (zC h (zC (zUt (v:=.ty TT) hgT hmT hT rfl hn hd) yJ) (by rw[hs];rfl)) (by decide) (by decide) (by rw[hs];rfl) (by rfl)) ?_
 rintro σ H Q ⟨G0,H0,G,ρ,d,good,hf,k⟩
 unfold zQg at hf
 obtain⟨x,h1,hf⟩:=Qq.mp hf
 refine⟨G0,H0,G,ρ,_,good,h1,fun v H1 G1 s1 r1=>?_⟩
 have hx:(tyD x).isSome=true/\d = .bl (q x):=by
   cases x<;>first
     | (cases hf;exact⟨rfl,rfl⟩)
     | cases hf
 obtain⟨hx,rfl⟩:=hx
 exact⟨v,G1,x,rfl,s1.sub,r1,hx,k _ _ G1 s1 (xF.mpr rfl)⟩
theorem zOW (K:PySem.W.Frag)(d:D)(t:String)(h:tyD d=some t):PySem.W.kitOne K (.type t) (.type "int")=some (isInt d):=by
 rw[zQx K t (zU9 h)];cases d<;>cases h<;>simp[isInt,zYj,isStr,zPL,zP9]
theorem zQ1 (K:PySem.W.Frag)(d:D)(t:String)(h:tyD d=some t):PySem.W.kitOne K (.type t) (.type "bool")=some (zYj d):=by
 rw[zSU K t (zU9 h)];cases d<;>cases h<;>simp[isInt,zYj,isStr,zPL,zP9]
def zPW:List D->Option (List Bool)
 | []=>some []
 | .bl k::r=>(zPW r).map fun ks=>k::ks
 | _=>none
def zPr (f:Ef):Ef:=fun ρ=>(f ρ).bind fun d=>match d with | .lst ds=>(zPW ds).map fun ks=>.bl (ks.all id) | _=>none
theorem zUe (hc:X.calm=true):CallR X (.builtin "all") (fun xs H Q=>∃(p:Addr) (ks:List Bool),xs=[V.ref p]/\SqL X.K H p (ks.map V.bl)/\Q (.bl (ks.all id)) H):=by
 intro pins s σ H xs us Q I r h
 obtain⟨p,ks,rfl,hq,q⟩:=h
 obtain⟨u,rfl,ru⟩:=nH r
 cases ru
 obtain⟨its,rv,pl,hz⟩:=I.list hq
 have hks:∀(i:Nat) (v:Value),its[i]?=some v->∃k,ks[i]?=some k/\v=Value.bool k:=fun i v e=>by
   have hi:i < ks.length:=by have:=rv.length;rw[Qu] at this;rw[this];exact(Qj.mp e).1
   obtain⟨u,e1,r1⟩:=rv.get (i:=i) (x:=.bl ks[i]) (by rw[Wx,Qs hi];rfl)
   rw[e] at e1;cases e1
   exact⟨ks[i],Qs hi,r1⟩
 have hlen:its.length=ks.length:=by have:=rv.length;rw[Qu] at this;exact this.symm
 refine call_all_walk (wpAny_pyIter_list pl.isList ?_)
 have hne:p≠s.heap.objs.size:=by obtain⟨o,_,e,_⟩:=pl;exact Wy (Qy e)
 refine⟨s.heap.objs.size,_,_,_,_,_,fun i=>(ks[i]?).getD true,rfl,Walks.list (A:=X.A.in1) (I.ok.hd hc) s.heap.objs.size p hne its.toArray,⟨⟨_,Qh _ rfl,rfl,rfl⟩,pl.isList.push _⟩,?_,fun h' tk hk=>?_⟩
 · intro i v s' Q' E' hv hQ'
   obtain⟨k,e1,rfl⟩:=hks i v (by simpa using hv)
   have hQ2:Q' ((ks[i]?).getD true) s':=hQ'
   rw[e1] at hQ2
   exact Tw hQ2
 · have hI:Inv X pins σ H { s with heap:=h',toks:=tk }:=I.kept fun b o e=>hk b o (by simp;exact Wy (Qy e)) (Qr _ e)
   have e:((List.range its.toArray.size).all fun i=>(ks[i]?).getD true)=ks.all id:=by
     rw[Qp,hlen]
     rw[Tj]
     simp only[Wq,Uj,id]
     constructor
     · intro h x hx
       obtain⟨i,hi,rfl⟩:=List.getElem_of_mem hx
       have:=h i hi
       rw[Qs hi] at this
       exact this
     · intro h i hi
       rw[Qs hi]
       exact h _ (List.getElem_mem hi)
   rw[e]
   exact⟨.bl (ks.all id),H,hI,rfl,q⟩
theorem zWw {K:PySem.W.Frag}{G:Hp}:∀ {ds:List D} {vs:List V} {ks:List Bool},zPW ds=some ks->Reps K G ds vs->vs=ks.map V.bl
 | [],_,_,h,r=>by cases h;rw[yR] at r;rw[r];rfl
 | d::t,_,_,h,r=>by
   unfold zPW at h
   split at h
   · rename_i h';cases h'
   · rename_i k t' h'
     cases h'
     obtain⟨v,vr,rfl,r1,r2⟩:=zG.mp r
     obtain⟨ks,h1,rfl⟩:=Qt.mp h
     rw[zWw h1 r2,xF.mp r1];rfl
   · cases h
theorem zO1 (hc:X.calm=true)(hg:Gl X "all")(hm:X.mg "all"=none)(h:PF X a fa)(hs:starEach [a] X.env=[(false,eval a X.env)]:=by rfl):PF X (.Call (.Name "all" p) [a] [] pos) (zPr fa):=by
 refine PE.to (rD (zUe hc) hg hm (by rfl) (zC h yJ (by rw[hs];rfl)) (by decide) (by decide) (by rw[hs];rfl) (by rfl)) ?_
 rintro σ H Q ⟨G0,H0,G,ρ,d,good,hf,k⟩
 unfold zPr at hf
 obtain⟨x,h1,hf⟩:=Qq.mp hf
 cases x with
 | lst ds =>
   dsimp only at hf
   obtain⟨ks,h2,rfl⟩:=Qt.mp hf
   refine⟨G0,H0,G,ρ,_,good,h1,fun v H1 G1 s1 r1=>?_⟩
   obtain⟨p,vs,rfl,q,rs⟩:=xY.mp r1
   have e:=zWw h2 rs
   subst e
   exact⟨p,ks,rfl,s1.sub.seq q,k _ _ G1 s1 (xF.mpr rfl)⟩
 | _=>cases hf
end
theorem Inv.turnedNew {X:Cx}{pins:List (Addr×Obj)}{σ:St}{H:Hp}{s:Shared}{h':Heap}{t':Nat}{fp:List Addr}{T:Addr}{o:HO}(I:Inv X pins σ H s)(k:∀b u,b∉fp->s.heap.get? b=some u->h'.get? b=some u)
   (hf:∀b∈fp,nN X pins H b) (hT:s.heap.objs.size<=T) (new:ObjOk X.prog X.w (upd H T o) h' T o):Inv X pins σ (upd H T o) { s with heap:=h',toks:=t' }:=by
 have fr:H T=none:=I.hok.fresh hT
 have neT:∀b u,s.heap.get? b=some u->b≠T:=fun b u e=>Wy (Wu (Qy e) hT)
 have nfp:∀b u,H b=some u->b∉fp:=fun b u e z=>by have:=(hf b z).1;rw[e] at this;cases this
 refine I.step (g':=s.gens) (d':=s.drawn) (ch:=fp) (fun b hb=>⟨(hf b hb).2.2.2.1,(hf b hb).2.1,(hf b hb).2.2.2.2.1,(hf b hb).2.2.2.2.2⟩) (fun b u _ _ hc e _=>k b u hc e)
   (fun b u _ _ hc e _=>⟨u.slots,k b u hc e⟩) (fun b u _ e n=>by rw[yS (neT b u e)];exact n) (fun b u hc e=>⟨u,k b u hc e⟩)
   (fun b xs e=>by rw[yS (yK e fr)];exact e) (fun b u x e=>by rw[yS (yK e fr)];exact e) (fun b ps e=>⟨#[],by rw[yS (yK e fr),e];simp⟩) (fun m hm=>?_) (fun b u e=>?_) I.bare
 · obtain⟨ob,es,ep,ho,r⟩:=hm
   exact⟨ob,es,ep,k _ ob (fun z=>(hf _ z).2.1 rfl) ho,r⟩
 · by_cases hb:b=T
   · subst hb;rw[zN] at e;cases e;exact new
   · rw[yS hb] at e
     refine(I.hok b u e).stay (fun c v hc q=>k c v ?_ q) (fun c q=>by rw[yS (yK q fr)];exact q) fun c xs q=>by rw[yS (yK q fr)];exact q
     rcases hc with z | z
     · rw[z];exact nfp b u e
     · exact nfp c _ z
theorem Inv.turnedL {X:Cx}{pins:List (Addr×Obj)}{σ:St}{H:Hp}{s:Shared}{h':Heap}{t':Nat}{fp:List Addr}(I:Inv X pins σ H s)(k:∀b u,b∉fp->s.heap.get? b=some u->h'.get? b=some u)
   (hf:∀b∈fp,nN X pins H b):Inv X pins σ H { s with heap:=h',toks:=t' }:=by
 have nfp:∀b u,H b=some u->b∉fp:=fun b u e z=>by have:=(hf b z).1;rw[e] at this;cases this
 refine I.step (g':=s.gens) (d':=s.drawn) (ch:=fp) (fun b hb=>⟨(hf b hb).2.2.2.1,(hf b hb).2.1,(hf b hb).2.2.2.2.1,(hf b hb).2.2.2.2.2⟩) (fun b u _ _ hc e _=>k b u hc e)
   (fun b u _ _ hc e _=>⟨u.slots,k b u hc e⟩) (fun b u _ e n=>n) (fun b u hc e=>⟨u,k b u hc e⟩) (fun b xs e=>e) (fun b u x e=>e) (fun b ps e=>⟨#[],by rw[e];simp⟩) (fun m hm=>?_) (fun b u e=>?_) I.bare
 · obtain⟨ob,es,ep,ho,r⟩:=hm
   exact⟨ob,es,ep,k _ ob (fun z=>(hf _ z).2.1 rfl) ho,r⟩
 · refine(I.hok b u e).stay (fun c v hc q=>k c v ?_ q) (fun c q=>q) fun c xs q=>q
   rcases hc with z | z
   · rw[z];exact nfp b u e
   · exact nfp c _ z
section
variable {X:Cx} {a b e:Expr} {es:List Expr} {fa:Ef} {ga gb:Lf} {pos p:Pos}
def numbered (ds:List D):List D:=ds.zipIdx.map fun q=>D.tup [.int (q.2:Nat),q.1]
def zN4 (K:PySem.W.Frag)(f:Lf):TE:=fun σ H Q=>∃G0 H0 G ρ ds,Good K G0 H0 G H σ ρ/\f ρ=some ds/\∀a vs H' G',Step G H G' H'->SqL K G' a vs->Reps K G' ds vs->Q (.ref a) H'
def zVd (X:Cx)(e:Expr)(f:Lf):Prop:=PE X e (zN4 X.K f)
theorem pQ (h:PFr X e ga):zVd X e ga:=fun pins s σ H Q I q=>h pins s σ H Q I (by
 obtain⟨G0,H0,G,ρ,ds,good,hf,k⟩:=q
 exact⟨G0,H0,G,ρ,ds,good,hf,fun p vs H' G' s hn hp gp rs=>k p vs H' (upd G' p (.lst vs)) (s.frz hn hp gp) (.of zN) (rs.mono (Same.new gp))⟩)
theorem sO (h:PF X e fa):zVd X e (iL fa):=fun pins s σ H Q I q=>h pins s σ H Q I (by
 obtain⟨G0,H0,G,ρ,ds,good,hf,k⟩:=q
 unfold iL at hf
 obtain⟨d,h1,hf⟩:=Qq.mp hf
 cases d with
 | lst es =>
   cases hf
   refine⟨G0,H0,G,ρ,_,good,h1,fun x H1 G1 s1 r1=>?_⟩
   obtain⟨p,vs,rfl,q,rs⟩:=xY.mp r1
   exact k p vs H1 G1 s1 q rs
 | _=>cases hf)
def vI (f g:Lf):Lf:=fun ρ=>(f ρ).bind fun xs=>(g ρ).bind fun ys=>okL (xs++ys)
theorem qA (ha:PFr X a ga)(hb:PFr X b gb):PFr X (.BinOp a .Add b pos) (vI ga gb):=by
 refine PE.toR (aG zPv ha hb) ?_
 rintro σ H Q ⟨G0,H0,G,ρ,d,good,hf,k⟩
 unfold vI at hf
 obtain⟨xs,h1,hf⟩:=Qq.mp hf
 obtain⟨ys,h2,hf⟩:=Qq.mp hf
 obtain⟨rfl,h3⟩:=lZ hf
 refine⟨G0,H0,G,ρ,_,good,h1,fun p vs H1 G1 s1 hn hp gp rs=>⟨G0,H0,G1,ρ,_,good.step s1,h2,fun q us H2 G2 s2 hn2 hq gq rs2=>?_⟩⟩
 refine⟨p,q,vs,us,rfl,rfl,s2.hh _ _ hp,hq,?_,fun l hl=>?_⟩
 · rw[←rs.length,←rs2.length,←Qd];exact Ws (wU h3)
 · have s3:=Step.own (o:=.lst (vs++us)) s2.sub hl
   exact k l _ _ G2 ((s1.trans s2).trans s3) ((s1.trans s2).hh.free hl) zN (s2.sub.free hl) ((rs.mono s2.gg).append rs2)
abbrev Of:=List B->Option (Option Int)
def tFO (K:PySem.W.Frag)(f:Of):TO:=fun σ H Q=>∃G0 H0 G ρ o,Good K G0 H0 G H σ ρ/\f ρ=some o/\∀H' G',Step G H G' H'->Q o H'
def PFO (X:Cx)(e:Option Expr)(f:Of):Prop:=PO X e (tFO X.K f)
def oNo:Of:=fun _=>some none
def xW (f:Ef):Of:=fun ρ=>(f ρ).bind fun d=>match d with | .int i=>some (some i) | _=>none
theorem tX:PFO X none oNo:=fun pins s σ H Q I h=>zQQ pins s σ H Q I (by
 obtain⟨G0,H0,G,ρ,o,good,hf,k⟩:=h
 cases hf
 exact k H G (.refl good.sub))
theorem uS (h:PF X e fa):PFO X (some e) (xW fa):=fun pins s σ H Q I q=>zQV h pins s σ H Q I (by
 obtain⟨G0,H0,G,ρ,o,good,hf,k⟩:=q
 unfold xW at hf
 obtain⟨d,h1,hf⟩:=Qq.mp hf
 cases d with
 | int i=>cases hf;exact⟨G0,H0,G,ρ,_,good,h1,fun v H' G' s r=>⟨i,zD.mp r,k H' G' s⟩⟩
 | _=>cases hf)
def zZf (xs:List D)(lo hi:Option Int):List D:=(xs.drop (HT.sIx xs.length 0 lo)).take (HT.sIx xs.length xs.length hi - HT.sIx xs.length 0 lo)
def xI (f:Ef)(lo hi:Of):Lf:=fun ρ=>(f ρ).bind fun d=>(lo ρ).bind fun l=>(hi ρ).bind fun u=>match d with | .lst ds=>some (zZf ds l u) | _=>none
theorem wC {lo hi:Option Expr}{fl fh:Of}{p2:Pos}(ha:PF X a fa)(hl:PFO X lo fl)(hh:PFO X hi fh):PFr X (.Subscript a (.Slice lo hi none p2) pos) (xI fa fl fh):=by
 refine PE.toR (zW3 zPV ha hl hh) ?_
 rintro σ H Q ⟨G0,H0,G,ρ,d,good,hf,k⟩
 unfold xI at hf
 obtain⟨x,h1,hf⟩:=Qq.mp hf
 obtain⟨l,h2,hf⟩:=Qq.mp hf
 obtain⟨u,h3,hf⟩:=Qq.mp hf
 cases x with
 | lst ds =>
   cases hf
   refine⟨G0,H0,G,ρ,_,good,h1,fun v H1 G1 s1 r1=>⟨G0,H0,G1,ρ,_,good.step s1,h2,fun H2 G2 s2=>⟨G0,H0,G2,ρ,_,(good.step s1).step s2,h3,fun H3 G3 s3=>?_⟩⟩⟩
   obtain⟨q,vs,rfl,hq,rs⟩:=xY.mp r1
   have s23:=s2.trans s3
   refine⟨q,vs,rfl,s23.hh |> fun z=>(s1.sub.trans z).seq hq,fun p hp=>?_⟩
   have s4:=Step.own (o:=.lst (zTw vs l u)) s23.sub hp
   refine k p _ _ G3 ((s1.trans s23).trans s4) ((s1.trans s23).hh.free hp) zN (s23.sub.free hp) ?_
   unfold zTw zZf
   rw[←rs.length]
   exact((rs.mono s23.gg).drop _).take _
 | _=>cases hf
end
section
structure ZApart (z TI TO i1 i2 l1 l2:Addr):Prop where
 a1:TI≠z
 a2:TO≠z
 a3:i1≠z
 a4:i2≠z
 a5:TI≠TO
 a6:TI≠i1
 a7:TI≠i2
 a8:TO≠i1
 a9:TO≠i2
 b1:i1≠i2
 b2:l1≠z
 b3:l1≠TO
 b4:l1≠i1
 b5:l1≠i2
 b6:l2≠z
 b7:l2≠TO
 b8:l2≠i1
 b9:l2≠i2
end
theorem zne {n:Nat}(i j:Nat)(h:i≠j):n+i≠n+j:=fun z=>h (Nat.add_left_cancel z)
def rF:List D->List D->List D
 | x::xs,y::ys=>.tup [x,y]::rF xs ys
 | _,_=>[]
theorem zWD:∀ {xs ys:List D} {i:Nat} {d:D},(rF xs ys)[i]?=some d->∃x y,xs[i]?=some x/\ys[i]?=some y/\d = .tup [x,y]
 | [],_,_,_,h=>by simp[rF] at h
 | _::_,[],_,_,h=>by simp[rF] at h
 | x::xs,y::ys,0,d,h=>by simp[rF] at h;exact⟨x,y,rfl,rfl,h.symm⟩
 | x::xs,y::ys,i+1,d,h=>by
   simp only[rF,Ez] at h
   obtain⟨a,b,h1,h2,h3⟩:=zWD h
   exact⟨a,b,by simpa using h1,by simpa using h2,h3⟩
theorem zXo:∀(xs ys:List D),(rF xs ys).length=min xs.length ys.length
 | [],_=>by simp[rF]
 | _::_,[]=>by simp[rF]
 | x::xs,y::ys=>by rw[rF,Qo,zXo xs ys,Qo,Qo];omega
end L2
set_option maxHeartbeats 4000000
namespace L2
open PySem PySem.Spec PyProof.Rows
def zVZ (f:D->D->Option Bool):List D->List D->Option Bool
 | x::xs,y::ys=>(f x y).bind fun a=>(zVZ f xs ys).map fun b=>a&&b
 | _,_=>some true
def eqD:Nat->D->D->Option Bool
 | _+1,.int i,.int j=>some (i==j)
 | _+1,.bl i,.bl j=>some (i==j)
 | _+1,.str i,.str j=>some (i==j)
 | _+1,.non,.non=>some true
 | n+1,.tup xs,.tup ys=>(zVZ (eqD n) xs ys).map fun b=>b&&xs.length==ys.length
 | n+1,.lst xs,.lst ys=>if xs.length=ys.length then zVZ (eqD n) xs ys else some false
 | _,_,_=>none
def mV (f:D->D->Option Bool)(xs ys:List D)(j:Nat):Bool:=match xs[j]?,ys[j]? with | some a,some c=>(f a c).getD true | _,_=>true
theorem aF {f:D->D->Option Bool}:∀ {xs ys:List D} {b:Bool},zVZ f xs ys=some b->b=(List.range (min xs.length ys.length)).all (mV f xs ys)/\∀(j:Nat) (a c:D),xs[j]?=some a->ys[j]?=some c->f a c=some (mV f xs ys j)
 | [],_,_,h=>by cases h;exact⟨by simp,fun j a c e=>by simp at e⟩
 | _::_,[],_,h=>by cases h;exact⟨by simp,fun j a c _ e=>by simp at e⟩
 | x::xs,y::ys,b,h=>by
   unfold zVZ at h
   obtain⟨a,h1,h⟩:=Qq.mp h
   obtain⟨b',h2,rfl⟩:=Qt.mp h
   obtain⟨e1,e2⟩:=aF h2
   constructor
   · rw[Qo,Qo,Nat.succ_min_succ,List.range_succ_eq_map,Yp,List.all_map,e1]
     congr 1
     simp[mV,h1]
   · intro j p q hp hq
     cases j with
     | zero =>
       simp at hp hq
       subst hp;subst hq
       simp[mV,h1]
     | succ j =>
       have:=e2 j p q (by simpa using hp) (by simpa using hq)
       simpa [mV] using this
section
variable {X:Cx} {pins:List (Addr×Obj)} {σ:St} {H G:Hp} {s:Shared}
theorem zXr (I:Inv X pins σ H s)(sub:Same G H):∀(n:Nat) (d d':D) (x:V) (k:Bool),eqD n d d'=some k->Rep X.K G d x->Rep X.K G d' x->k=true:=by
 intro n
 induction n with
 | zero=>intro d d' x k h;cases d<;>cases d'<;>cases h
 | succ n ih =>
   have many:∀(ds es:List D) (vs:List V) (b:Bool),zVZ (eqD n) ds es=some b->Reps X.K G ds vs->Reps X.K G es vs->b=true:=by
     intro ds
     induction ds with
     | nil=>intro es vs b h _ _;cases h;rfl
     | cons d r ihr =>
       intro es vs b h r1 r2
       cases es with
       | nil=>cases h;rfl
       | cons e t =>
         unfold zVZ at h
         obtain⟨a,h1,h⟩:=Qq.mp h
         obtain⟨b',h2,rfl⟩:=Qt.mp h
         obtain⟨v,vr,rfl,q1,q2⟩:=zG.mp r1
         obtain⟨v',vr',e',q3,q4⟩:=zG.mp r2
         cases e'
         rw[ih d e v a h1 q1 q3,ihr t vr b' h2 q2 q4];rfl
   intro d d' x k h r1 r2
   cases d with
   | int i =>
     cases d' with
     | int j=>cases h;rw[zD] at r1 r2;rw[r1] at r2;cases r2;simp
     | _=>cases h
   | bl i =>
     cases d' with
     | bl j=>cases h;rw[xF] at r1 r2;rw[r1] at r2;cases r2;simp
     | _=>cases h
   | str i =>
     cases d' with
     | str j=>cases h;rw[yU] at r1 r2;rw[r1] at r2;cases r2;simp
     | _=>cases h
   | non =>
     cases d' with
     | non=>cases h;rfl
     | _=>cases h
   | tup ds =>
     cases d' with
     | tup es =>
       unfold eqD at h
       obtain⟨b,h1,rfl⟩:=Qt.mp h
       obtain⟨p,vs,e1,q1,q2⟩:=xE.mp r1
       obtain⟨p',vs',e2,q3,q4⟩:=xE.mp r2
       rw[e1] at e2;cases e2
       have ev:=I.tuple_inj (sub.tup q1) (sub.tup q3)
       subst ev
       rw[many ds es vs b h1 q2 q4,q2.length,q4.length];simp
     | _=>cases h
   | lst ds =>
     cases d' with
     | lst es =>
       unfold eqD at h
       obtain⟨p,vs,e1,q1,q2⟩:=xY.mp r1
       obtain⟨p',vs',e2,q3,q4⟩:=xY.mp r2
       rw[e1] at e2;cases e2
       have ev:=I.list_inj (sub.seq q1) (sub.seq q3)
       subst ev
       rw[Wr (by rw[q2.length,q4.length])] at h
       exact many ds es vs k h q2 q4
     | _=>cases h
   | obj C ns ds=>cases d'<;>cases h
   | exc C ns ds=>cases d'<;>cases h
theorem zNF (I:Inv X pins σ H s)(sub:Same G H):∀(n:Nat) (A:Around) (d d':D) (x y:V) (u v:Value) (k:Bool),A.units+n < cLine->eqD n d d'=some k->Rep X.K G d x->Rep X.K G d' y->RelV x u->RelV y v ->
   SeqAt.RcAt A s u v k/\SeqAt.RcNeAt A s u v (!k)/\SeqAt.EqAt A s u v k:=by
 intro n
 induction n with
 | zero=>intro A d d' x y u v k _ h;cases d<;>cases d'<;>cases h
 | succ n ih =>
   intro A d d' x y u v k hu h r1 r2 ru rv
   have hu1:A.units < cLine:=by omega
   have hin:A.in1.units+n < cLine:=by show A.units+1+n < cLine;omega
   cases d with
   | int i =>
     cases d' with
     | int j=>cases h;rw[zD] at r1 r2;subst r1;subst r2;obtain⟨t,rfl⟩:=ru;obtain⟨t',rfl⟩:=rv;exact⟨SeqAt.RcAt.int_int _ _ _ _,SeqAt.RcNeAt.int_int _ _ _ _,Uc _ _ _ _⟩
     | _=>cases h
   | bl i =>
     cases d' with
     | bl j=>cases h;rw[xF] at r1 r2;subst r1;subst r2;cases ru;cases rv;exact⟨SeqAt.RcAt.bool_bool _ _,SeqAt.RcNeAt.bool_bool _ _,Ud _ _⟩
     | _=>cases h
   | str i =>
     cases d' with
     | str j=>cases h;rw[yU] at r1 r2;subst r1;subst r2;obtain⟨t,rfl⟩:=ru;obtain⟨t',rfl⟩:=rv;exact⟨SeqAt.RcAt.str_str _ _ _ _,SeqAt.RcNeAt.str_str _ _ _ _,SeqAt.EqAt.str_str _ _ _ _⟩
     | _=>cases h
   | non =>
     cases d' with
     | non=>cases h;rw[sP] at r1 r2;subst r1;subst r2;cases ru;cases rv;exact⟨SeqAt.RcAt.none_none,SeqAt.RcNeAt.none_none,Yd _⟩
     | _=>cases h
   | tup ds =>
     cases d' with
     | tup es =>
       have h0:=h
       unfold eqD at h
       obtain⟨b,h1,rfl⟩:=Qt.mp h
       obtain⟨p,vs,rfl,q1,q2⟩:=xE.mp r1
       obtain⟨p',vs',rfl,q3,q4⟩:=xE.mp r2
       cases ru;cases rv
       obtain⟨its,w1,t1,_⟩:=I.tuple (sub.tup q1)
       obtain⟨jts,w2,t2,_⟩:=I.tuple (sub.tup q3)
       obtain⟨e1,e2⟩:=aF h1
       have l1:ds.length=its.length:=q2.length.trans w1.length
       have l2:es.length=jts.length:=q4.length.trans w2.length
       have he:∀j (a1:j < its.toArray.size) (a2:j < jts.toArray.size),SeqAt.EqAt A.in1 s its.toArray[j] jts.toArray[j] (mV (eqD n) ds es j):=fun j a1 a2=>by
         have b1:j < ds.length:=by rw[l1];simpa using a1
         have b2:j < es.length:=by rw[l2];simpa using a2
         obtain⟨v1,f1,g1⟩:=q2.get (Qs b1)
         obtain⟨v2,f2,g2⟩:=q4.get (Qs b2)
         obtain⟨u1,f3,g3⟩:=w1.get f1
         obtain⟨u2,f4,g4⟩:=w2.get f2
         have x1:its.toArray[j]=u1:=by
           have:=(Qj.mp f3).2
           simpa using this
         have x2:jts.toArray[j]=u2:=by
           have:=(Qj.mp f4).2
           simpa using this
         rw[x1,x2]
         exact(ih A.in1 _ _ v1 v2 u1 u2 _ hin (e2 j _ _ (Qs b1) (Qs b2)) g1 g2 g3 g4).2.2
       have ek:((List.range (min its.toArray.size jts.toArray.size)).all (mV (eqD n) ds es)&&its.toArray.size==jts.toArray.size)=(b&&ds.length==es.length):=by
         rw[Qp,Qp,←l1,←l2,e1]
       have R1:=SeqAt.RcAt.tuples t1 t2 hu1 he
       have R2:=SeqAt.RcNeAt.tuples t1 t2 hu1 he
       rw[ek] at R1 R2
       refine⟨R1,R2,?_⟩
       by_cases hp:p=p'
       · subst hp
         have hk:=zXr I sub (n+1) (.tup ds) (.tup es) (.ref p) _ h0 r1 r2
         rw[hk]
         exact Yd _
       · exact .of_refs hp R1
     | _=>cases h
   | lst ds =>
     cases d' with
     | lst es =>
       have h0:=h
       unfold eqD at h
       obtain⟨p,vs,rfl,q1,q2⟩:=xY.mp r1
       obtain⟨p',vs',rfl,q3,q4⟩:=xY.mp r2
       cases ru;cases rv
       obtain⟨its,w1,t1,_⟩:=I.list (sub.seq q1)
       obtain⟨jts,w2,t2,_⟩:=I.list (sub.seq q3)
       have l1:ds.length=its.length:=q2.length.trans w1.length
       have l2:es.length=jts.length:=q4.length.trans w2.length
       have fin:SeqAt.RcAt A s (.ref p) (.ref p') k/\SeqAt.RcNeAt A s (.ref p) (.ref p') (!k):=by
         split at h
         · rename_i hl
           obtain⟨e1,e2⟩:=aF h
           have he:∀j (a1:j < its.toArray.size) (a2:j < jts.toArray.size),SeqAt.EqAt A.in1 s its.toArray[j] jts.toArray[j] (mV (eqD n) ds es j):=fun j a1 a2=>by
             have b1:j < ds.length:=by rw[l1];simpa using a1
             have b2:j < es.length:=by rw[l2];simpa using a2
             obtain⟨v1,f1,g1⟩:=q2.get (Qs b1)
             obtain⟨v2,f2,g2⟩:=q4.get (Qs b2)
             obtain⟨u1,f3,g3⟩:=w1.get f1
             obtain⟨u2,f4,g4⟩:=w2.get f2
             have x1:its.toArray[j]=u1:=by
               have:=(Qj.mp f3).2
               simpa using this
             have x2:jts.toArray[j]=u2:=by
               have:=(Qj.mp f4).2
               simpa using this
             rw[x1,x2]
             exact(ih A.in1 _ _ v1 v2 u1 u2 _ hin (e2 j _ _ (Qs b1) (Qs b2)) g1 g2 g3 g4).2.2
           have hsz:its.toArray.size=jts.toArray.size:=by rw[Qp,Qp,←l1,←l2,hl]
           have ek:(List.range its.toArray.size).all (mV (eqD n) ds es)=k:=by
             rw[e1,Qp,←l1,←hl,Nat.min_self]
           have R1:=SeqAt.RcAt.lists t1.isList t2.isList hsz hu1 he
           have R2:=SeqAt.RcNeAt.lists t1.isList t2.isList hsz hu1 he
           rw[ek] at R1 R2
           exact⟨R1,R2⟩
         · rename_i hl
           cases h
           have hsz:(its.toArray.size != jts.toArray.size)=true:=by
             rw[Qp,Qp,←l1,←l2]
             simpa using hl
           exact⟨SeqAt.RcAt.lists_lengths t1.isList t2.isList hsz hu1,Im t1.isList t2.isList hsz hu1⟩
       refine⟨fin.1,fin.2,?_⟩
       by_cases hp:p=p'
       · subst hp
         have hk:=zXr I sub (n+1) (.lst ds) (.lst es) (.ref p) _ h0 r1 r2
         rw[hk]
         exact Yd _
       · exact .of_refs hp fin.1
     | _=>cases h
   | obj C ns ds=>cases d'<;>cases h
   | exc C ns ds=>cases d'<;>cases h
variable {a b e:Expr} {ga:Lf} {pos p:Pos} {k:Nat}
def zRc:D->D->Option Bool:=eqD 8
def dA (x y:D):Option Bool:=(eqD 8 x y).map (!·)
theorem zSg (hr:Room k X.A):CmR X .Eq zRc:=by
 refine⟨fun x y H Q=>∃G d d' b,Same G H/\Rep X.K G d x/\Rep X.K G d' y/\eqD 8 d d'=some b/\Q (.bl b) H,?_,fun d d' k G H x y Q h s rx ry q=>⟨G,d,d',k,s,rx,ry,h,q H G (.refl s)⟩⟩
 intro pins s σ H x y v u Q I rx ry ⟨G,d,d',b,sub,r1,r2,h,q⟩
 have hu:=hr.units
 exact(zNF I sub 8 X.A d d' x y v u b (by omega) h r1 r2 rx ry).1 X.prog X.w X.xe _ ⟨.bl b,H,I,rfl,q⟩
theorem kX (hr:Room k X.A):CmR X .NotEq dA:=by
 refine⟨fun x y H Q=>∃G d d' b,Same G H/\Rep X.K G d x/\Rep X.K G d' y/\eqD 8 d d'=some b/\Q (.bl (!b)) H,?_,fun d d' k G H x y Q h s rx ry q=>?_⟩
 · intro pins s σ H x y v u Q I rx ry ⟨G,d,d',b,sub,r1,r2,h,q⟩
   have hu:=hr.units
   exact(zNF I sub 8 X.A d d' x y v u b (by omega) h r1 r2 rx ry).2.1 X.prog X.w X.xe _ ⟨.bl (!b),H,I,rfl,q⟩
 · unfold dA at h
   obtain⟨b,h1,rfl⟩:=Qt.mp h
   exact⟨G,d,d',b,s,rx,ry,h1,q H G (.refl s)⟩
def zS5:D->Option V
 | .non=>some .non
 | .bl b=>some (.bl b)
 | .int i=>some (.int i)
 | .str x=>some (.str x)
 | _=>none
def bN:List D->Option (List V)
 | []=>some []
 | d::r=>(zS5 d).bind fun v=>(bN r).map fun vs=>v::vs
theorem zYB {K:PySem.W.Frag}{G:Hp}{d:D}{v x:V}(h:zS5 d=some v)(r:Rep K G d x):x=v/\lP v=true:=by
 cases d with
 | non=>cases h;exact⟨sP.mp r,rfl⟩
 | bl b=>cases h;exact⟨xF.mp r,rfl⟩
 | int i=>cases h;exact⟨zD.mp r,rfl⟩
 | str i=>cases h;exact⟨yU.mp r,rfl⟩
 | _=>cases h
theorem iU {K:PySem.W.Frag}{G:Hp}:∀ {ds:List D} {vs xs:List V},bN ds=some vs->Reps K G ds xs->xs=vs/\vs.all lP=true
 | [],_,_,h,r=>by cases h;rw[yR] at r;exact⟨r,rfl⟩
 | d::t,_,_,h,r=>by
   unfold bN at h
   obtain⟨v,h1,h⟩:=Qq.mp h
   obtain⟨vs,h2,rfl⟩:=Qt.mp h
   obtain⟨x,xr,rfl,r1,r2⟩:=zG.mp r
   obtain⟨rfl,f1⟩:=zYB h1 r1
   obtain⟨rfl,f2⟩:=iU h2 r2
   exact⟨rfl,by rw[Yp,f1,f2];rfl⟩
def zRR (x y:D):Option Bool:=(zS5 x).bind fun v=>match y with
 | .lst ds=>(bN ds).map fun vs=>inV v vs
 | .tup ds=>(bN ds).map fun vs=>inV v vs
 | _=>none
theorem zQl {K:PySem.W.Frag}{G H:Hp}{d d':D}{x y:V}{k:Bool}(h:zRR d d'=some k)(s:Same G H)(rx:Rep K G d x)(ry:Rep K G d' y):∃p xs,y = .ref p/\(SqL K H p xs∨SqT K H p xs)/\lP x=true/\xs.all lP=true/\k=inV x xs:=by
 unfold zRR at h
 obtain⟨v,h1,h⟩:=Qq.mp h
 obtain⟨rfl,f1⟩:=zYB h1 rx
 cases d' with
 | lst ds =>
   obtain⟨vs,h2,rfl⟩:=Qt.mp h
   obtain⟨p,xs,rfl,q1,q2⟩:=xY.mp ry
   obtain⟨rfl,f2⟩:=iU h2 q2
   exact⟨p,_,rfl,.inl (s.seq q1),f1,f2,rfl⟩
 | tup ds =>
   obtain⟨vs,h2,rfl⟩:=Qt.mp h
   obtain⟨p,xs,rfl,q1,q2⟩:=xE.mp ry
   obtain⟨rfl,f2⟩:=iU h2 q2
   exact⟨p,_,rfl,.inr (s.tup q1),f1,f2,rfl⟩
 | _=>cases h
theorem zS6:CmR X .In zRR:=⟨_,zT8,fun d d' k G H x y Q h s rx ry q=>by
 obtain⟨p,xs,e1,e2,e3,e4,rfl⟩:=zQl h s rx ry
 exact⟨p,xs,e1,e2,e3,e4,q H G (.refl s)⟩⟩
def zVp (x:Int):List Int->List Int
 | []=>[x]
 | y::r=>if x<=y then x::y::r else y::zVp x r
def dL:List Int->List Int
 | []=>[]
 | x::r=>zVp x (dL r)
theorem fK (x:Int):∀l:List Int,(zVp x l).Perm (x::l)
 | []=>.refl _
 | y::r=>by
   unfold zVp
   split
   · exact .refl _
   · exact(List.Perm.cons y (fK x r)).trans (List.Perm.swap x y r)
theorem iY:∀l:List Int,(dL l).Perm l
 | []=>.refl _
 | x::r=>(fK x (dL r)).trans (.cons x (iY r))
theorem dU (x:Int):∀l:List Int,l.Pairwise (· <= ·)->(zVp x l).Pairwise (· <= ·)
 | [],_=>by unfold zVp;simp
 | y::r,h=>by
   unfold zVp
   split
   · rename_i hxy
     refine Tk.mpr ⟨fun z hz=>?_,h⟩
     rcases Qf.mp hz with q | q
     · rw[q];exact hxy
     · exact Int.le_trans hxy ((Tk.mp h).1 z q)
   · rename_i hxy
     refine Tk.mpr ⟨fun z hz=>?_,dU x r (Tk.mp h).2⟩
     rcases Qf.mp ((fK x r).mem_iff.mp hz) with q | q
     · rw[q];omega
     · exact(Tk.mp h).1 z q
theorem gR:∀l:List Int,(dL l).Pairwise (· <= ·)
 | []=>.nil
 | x::r=>dU x _ (gR r)
theorem zV3 {l m:List Int}(hp:l.Perm m)(hl:l.Pairwise (· <= ·))(hm:m.Pairwise (· <= ·)):l=m:=hp.eq_of_pairwise (fun a b _ _ h1 h2=>Int.le_antisymm h1 h2) hl hm
def zUV:List D->Option (List Int)
 | []=>some []
 | .int i::r=>(zUV r).map fun is=>i::is
 | _=>none
theorem zYC {K:PySem.W.Frag}{G:Hp}:∀ {ds:List D} {is:List Int} {vs:List V},zUV ds=some is->Reps K G ds vs->vs=is.map V.int
 | [],_,_,h,r=>by cases h;rw[yR] at r;rw[r];rfl
 | d::t,_,_,h,r=>by
   unfold zUV at h
   split at h
   · rename_i h';cases h'
   · rename_i k t' h'
     cases h'
     obtain⟨v,vr,rfl,r1,r2⟩:=zG.mp r
     obtain⟨ks,h1,rfl⟩:=Qt.mp h
     rw[zYC h1 r2,zD.mp r1];rfl
   · cases h
theorem zXH:CallR X (.builtin "sorted") (fun xs H Q=>∃(q:Addr) (ns:List Int),xs=[V.ref q]/\SqL X.K H q (ns.map V.int)/\ns.length < 64/\∀l,H l=none->Q (.ref l) (upd H l (.lst ((dL ns).map V.int)))):=by
 intro pins s σ H xs us Q I r h
 obtain⟨q,ns,rfl,hq,hl,k⟩:=h
 obtain⟨u,rfl,ru⟩:=nH r
 cases ru
 obtain⟨its,rv,pl,hz⟩:=I.list hq
 have hi:=zWe rv
 have hlen:its.length < 64:=by rw[←rv.length,Qu];exact hl
 refine sorted_ints pl.isList hi hlen fun out ns' a1 a2 a3=>?_
 obtain⟨e,he⟩:=sortedAll_at s.heap its out
 have en:ns'=dL ns:=zV3 (a2.trans (iY ns).symm) a3 (gR ns)
 subst en
 have hsz:s.heap.objs.size<=s.heap.objs.size+1:=Yw _
 refine⟨.ref (s.heap.objs.size+1),_,I.laid (t':=s.toks) (o:=.lst ((dL ns).map V.int)) (fun b o e=>sortedAll_old e) hsz ?_,rfl,k _ (I.hok.fresh hsz)⟩
 refine⟨?_,out.toList,e,eU a1,by simpa [seqObj] using he⟩
 rw[Qu,(iY ns).length_eq]
 exact Ws (wU (by show ns.length<=100000;omega))
theorem zYO {K:PySem.W.Frag}{G:Hp}:∀ns:List Int,Reps K G (ns.map .int) (ns.map V.int)
 | []=>yR.mpr rfl
 | n::r=>zG.mpr ⟨_,_,rfl,zD.mpr rfl,zYO r⟩
def zXT (g:Lf):Lf:=fun ρ=>(g ρ).bind fun ds=>(zUV ds).bind fun ns=>if ns.length < 64 then some ((dL ns).map .int) else none
theorem zTM (hg:Gl X "sorted")(hm:X.mg "sorted"=none)(h:zVd X a ga)(hs:starEach [a] X.env=[(false,eval a X.env)]:=by rfl):PFr X (.Call (.Name "sorted" p) [a] [] pos) (zXT ga):=by
 refine PE.toR (rD zXH hg hm (by rfl) (zC h yJ (by rw[hs];rfl)) (by decide) (by decide) (by rw[hs];rfl) (by rfl)) ?_
 rintro σ H Q ⟨G0,H0,G,ρ,d,good,hf,k⟩
 unfold zXT at hf
 obtain⟨ds,h1,hf⟩:=Qq.mp hf
 obtain⟨ns,h2,hf⟩:=Qq.mp hf
 split at hf
 · rename_i hl
   cases hf
   refine⟨G0,H0,G,ρ,_,good,h1,fun q vs H1 G1 s1 hq rs=>?_⟩
   have e:=zYC h2 rs
   subst e
   refine⟨q,ns,rfl,s1.sub.seq hq,hl,fun l hl'=>?_⟩
   exact k l _ _ G1 (s1.trans (Step.own s1.sub hl')) (s1.hh.free hl') zN (s1.sub.free hl') (zYO _)
 · cases hf
end
def Its (x:Str):It:=⟨fun i _=>i < x.cps.size,fun i H y H'=>H'=H/\∃c,x.cps[i]?=some c/\y = .str ⟨#[c]⟩,fun i _=>x.cps.size<=i⟩
theorem zSx {P:Program}{w:World}{K:PySem.W.Frag}{tg:Expr}(it:Addr)(ty:String)(hty:ty="str_ascii_iterator"∨ty="str_iterator")(x:Str)(t:Tok):Turn P w K tg (Its x) [it] it (fun i h=>h.IsStrIter it ty x t i) where
 mem:=by simp
 obj:=fun i h st b hb=>by
   have e:b=it:=by simpa using hb
   subst e
   obtain⟨o,e,c,d⟩:=st
   exact⟨o,e,fun v z=>by rw[d] at z;cases z⟩
 keep:=fun i h h' st k=>by
   obtain⟨o,e,r⟩:=st
   exact⟨o,k it (by simp) o e,r⟩
 item:=by
   intro X hP hw hK hc i pins s σ H E I hf st hg
   subst hP hw hK
   obtain⟨f0,f1,f2,f3,f4,f5⟩:=hf it (by simp)
   have hg:i < x.cps.size:=hg
   have hx:x.cps[i]?=some x.cps[i]:=by simp[hg]
   rcases hty with rfl | rfl
   · refine wpAny_pyNext_ascii_item st hx fun h' st' sb=>?_
     have I1:Inv X pins σ H { s with heap:=h',toks:=s.toks+1 }:=I.turned (t':=s.toks+1) (fun b o hb e=>(sb.2 b hb).trans e) f0 f1 f3 f4 f5
     obtain⟨o,e,c,d⟩:=id st'
     exact⟨_,rfl,zWR (s:={ s with heap:=h',toks:=s.toks+1 }) e c d (by decide) ⟨.str ⟨#[x.cps[i]]⟩,H,I1,⟨_,rfl⟩,⟨rfl,_,hx,rfl⟩,st',fun b hb=>(hf b hb).1⟩⟩
   · refine wpAny_pyNext_wide_item st hx fun h' st' sb=>?_
     have I1:Inv X pins σ H { s with heap:=h',toks:=s.toks+1 }:=I.turned (t':=s.toks+1) (fun b o hb e=>(sb.2 b hb).trans e) f0 f1 f3 f4 f5
     obtain⟨o,e,c,d⟩:=id st'
     exact⟨_,rfl,zWR (s:={ s with heap:=h',toks:=s.toks+1 }) e c d (by decide) ⟨.str ⟨#[x.cps[i]]⟩,H,I1,⟨_,rfl⟩,⟨rfl,_,hx,rfl⟩,st',fun b hb=>(hf b hb).1⟩⟩
 done:=by
   intro X hP hw hK hc i pins s σ H E I hf st hg
   subst hP hw hK
   obtain⟨f0,f1,f2,f3,f4,f5⟩:=hf it (by simp)
   have hg:x.cps.size<=i:=hg
   have hx:x.cps[i]?=none:=by simp[hg]
   rcases hty with rfl | rfl
   · exact wpAny_pyNext_ascii_end (I.ok.hd hc) st hx fun h' eb=>⟨rfl,I.turned (t':=s.toks) (fun b o hb e=>eb b o hb e) f0 f1 f3 f4 f5⟩
   · exact wpAny_pyNext_wide_end (I.ok.hd hc) st hx fun h' eb=>⟨rfl,I.turned (t':=s.toks) (fun b o hb e=>eb b o hb e) f0 f1 f3 f4 f5⟩
 self:=fun _ _ _ _ _ st h=>by
   rcases hty with rfl | rfl
   · exact wpAny_pyIter_striter_ascii st h
   · exact wpAny_pyIter_striter_wide st h
def aD (x:Str):List D:=x.cps.toList.map fun c=>.str ⟨#[c]⟩
theorem zVR {K:PySem.W.Frag}{G:Hp}{x:Str}:aY K (Its x) G (aD x):=by
 intro i G2 H2 s1 s2
 have hl:(aD x).length=x.cps.size:=by simp[aD]
 refine⟨fun d hd=>?_,fun hi=>by rw[hl] at hi;exact hi⟩
 have hi:i < x.cps.size:=by rw[←hl];exact(Qj.mp hd).1
 refine⟨hi,fun y H3 q=>?_⟩
 obtain⟨rfl,c,hc,rfl⟩:=q
 unfold aD at hd
 rw[Wx,Array.getElem?_toList,hc] at hd
 cases hd
 exact⟨G2,.refl s2,yU.mpr rfl⟩
section
variable {X:Cx} {a b c e tg:Expr} {fa fb fc:Ef} {pos:Pos} {st:Stmt}
def zMZ (tl:TE):TI:=fun σ H R=>tl σ H fun x H1=>∃z,x = .str z/\R (Its z) H1
theorem zQt {l:Expr}{tl:TE}(hl:PE X l tl):PI X tg l (zMZ tl):=by
 intro pins s σ H R I h
 refine thn (hl pins s σ H _ I h) fun v s1 ⟨x,H1,I1,r1,q1⟩=>?_
 obtain⟨z,e,q⟩:=q1
 subst e
 obtain⟨t,rfl⟩:=r1
 have fin:∀(o:Obj) (ty:String),(ty="str_ascii_iterator"∨ty="str_iterator")->(s1.heap.push o).IsStrIter s1.heap.objs.size ty z t 0->PIE X pins σ tg R (.ref s1.heap.objs.size) { s1 with heap:=s1.heap.push o }:=fun o ty hty st=>by
   refine⟨s1.heap.objs.size,[s1.heap.objs.size],_,_,H1,rfl,I1.kept (t':=s1.toks) fun b o e=>Qr _ e,zSx _ ty hty z t,st,fun b hb=>?_,q⟩
   have e:b=s1.heap.objs.size:=by simpa using hb
   subst e
   exact I1.fpOk (Ql _) (I1.hok.fresh (Ql _))
 cases ha:z.cps.all (· < 128)
 · exact wpAny_pyIter_wide ha (fin _ _ (.inr rfl) ⟨_,Qh _ rfl,rfl,rfl⟩)
 · exact wpAny_pyIter_ascii ha (fin _ _ (.inl rfl) ⟨_,Qh _ rfl,rfl,rfl⟩)
def iS (f:Ef):Lf:=fun ρ=>(f ρ).bind fun d=>match d with | .str x=>some (aD x) | _=>none
theorem zQZ (h:PF X e fa):PFI X tg e (iS fa):=by
 refine PI.to (zQt h) ?_
 rintro σ H R ⟨G0,H0,G,ρ,ds,good,hf,k⟩
 unfold iS at hf
 obtain⟨d,h1,hf⟩:=Qq.mp hf
 cases d with
 | str x =>
   cases hf
   refine⟨G0,H0,G,ρ,_,good,h1,fun v H1 G1 s1 r1=>?_⟩
   exact⟨x,yU.mp r1,k _ H1 G1 s1 zVR⟩
 | _=>cases hf
def gIn:D->D->Option Bool | .str i,.str j=>some (!(Builtin.Str.occurrences j i 0 j.length 1).isEmpty) | _,_=>none
theorem zNq:CmR X .In gIn:=⟨_,zTI,fun d d' k G H x y Q h s rx ry q=>by
 unfold gIn at h
 split at h
 · cases h;exact⟨_,_,yU.mp rx,yU.mp ry,q H G (.refl s)⟩
 · cases h⟩
def eB3 (g g':D->D->Option Bool)(fa fb fc:Ef):Tf:=fun ρ=>(fa ρ).bind fun x=>(fb ρ).bind fun y=>(g x y).bind fun k=>if k=true then(fc ρ).bind fun z=>g' y z else some false
theorem zSo {op op':CmpOp}{g g':D->D->Option Bool}(hc1:CmR X op g)(hc2:CmR X op' g')(ha:PF X a fa)(hb:PF X b fb)(hc:PF X c fc)(hm:lastMarks [op,op'] [b,c]=false:=by with_unfolding_all rfl):PF X (.Compare a [op,op'] [b,c] pos) (qO (eB3 g g' fa fb fc)):=by
 obtain⟨r,ho,hr⟩:=hc1
 obtain⟨r',ho',hr'⟩:=hc2
 refine PE.to (zRy ho ho' ha hb hc hm) ?_
 rintro σ H Q ⟨G0,H0,G,ρ,d,good,hf,k⟩
 obtain⟨b',hf2,rfl⟩:=bJ hf
 unfold eB3 at hf2
 obtain⟨x,h1,hf2⟩:=Qq.mp hf2
 obtain⟨y,h2,hf2⟩:=Qq.mp hf2
 obtain⟨kk,h3,hf2⟩:=Qq.mp hf2
 refine⟨G0,H0,G,ρ,_,good,h1,fun u H1 G1 s1 r1=>⟨G0,H0,G1,ρ,_,good.step s1,h2,fun v H2 G2 s2 r2=>?_⟩⟩
 refine hr x y kk G2 H2 u v _ h3 s2.sub (r1.mono s2.gg) r2 fun H3 G3 s3=>⟨kk,rfl,?_⟩
 split at hf2
 · rename_i hk
   rw[Wr hk]
   obtain⟨z,h4,hf3⟩:=Qq.mp hf2
   refine⟨G0,H0,G3,ρ,_,((good.step s1).step s2).step s3,h4,fun w' H4 G4 s4 r4=>?_⟩
   exact hr' y z b' G4 H4 v w' Q hf3 s4.sub ((r2.mono s3.gg).mono s4.gg) r4 fun H5 G5 s5=>k _ _ G5 ((((s1.trans s2).trans s3).trans s4).trans s5) (xF.mpr rfl)
 · rename_i hk
   rw[Wj hk];cases hf2
   exact k _ _ G3 ((s1.trans s2).trans s3) (xF.mpr rfl)
def zOL:D->D->Option D
 | .int i,.int j=>some (.int (i+j))
 | .str i,.str j=>if i.length+j.length<=lim then some (.str (i++j)) else none
 | _,_=>none
def z0 (fa fb:Ef):Ef:=fun ρ=>(fa ρ).bind fun x=>(fb ρ).bind fun y=>zOL x y
theorem yY (ha:PF X a fa)(hb:PF X b fb):PF X (.BinOp a .Add b pos) (z0 fa fb):=by
 refine PE.to (aG (zRZ.or zVl) ha hb) ?_
 rintro σ H Q ⟨G0,H0,G,ρ,d,good,hf,k⟩
 unfold z0 at hf
 obtain⟨x,h1,hf⟩:=Qq.mp hf
 obtain⟨y,h2,hf⟩:=Qq.mp hf
 refine⟨G0,H0,G,ρ,_,good,h1,fun u H1 G1 s1 r1=>⟨G0,H0,G1,ρ,_,good.step s1,h2,fun v H2 G2 s2 r2=>?_⟩⟩
 have r1:=r1.mono s2.gg
 unfold zOL at hf
 split at hf
 · cases hf;exact .inl ⟨_,_,zD.mp r1,zD.mp r2,k _ _ G2 (s1.trans s2) (zD.mpr rfl)⟩
 · split at hf
   · rename_i hz;cases hf;exact .inr ⟨_,_,yU.mp r1,yU.mp r2,Ws (wU hz),k _ _ G2 (s1.trans s2) (yU.mpr rfl)⟩
   · cases hf
 · cases hf
def zPD:V->List V->Hp->VK->Prop:=fun x vs H Q=>∃a b,x = .str a/\vs=[.str b]/\Q (.int (Txt.find a b)) H
theorem zXK:MtR X "str.find" zPD:=by
 intro pins s σ H x xs v us Q I rx rv h
 obtain⟨a,b,rfl,rfl,q⟩:=h
 obtain⟨t,rfl⟩:=rx
 obtain⟨u,rfl,t',rfl⟩:=rv.one
 exact SC.find ⟨.int _,H,I.tok _,⟨_,rfl⟩,q⟩
def zWo (fa fb:Ef):Ef:=fun ρ=>(fa ρ).bind fun x=>(fb ρ).bind fun y=>match x,y with | .str a,.str b=>some (.int (Txt.find a b)) | _,_=>none
theorem zXJ (ht:PE X c (tBM X.K "str" zPD (tF X.K fa) (jH (tF X.K fb) zWt))):PF X c (zWo fa fb):=by
 refine PE.to ht ?_
 rintro σ H Q ⟨G0,H0,G,ρ,d,good,hf,k⟩
 unfold zWo at hf
 obtain⟨x,h1,hf⟩:=Qq.mp hf
 obtain⟨y,h2,hf⟩:=Qq.mp hf
 split at hf
 · cases hf
   refine⟨G0,H0,G,ρ,_,good,h1,fun u H1 G1 s1 r1=>?_⟩
   have r1:=yU.mp r1
   subst r1
   refine⟨rfl,G0,H0,G1,ρ,_,good.step s1,h2,fun v H2 G2 s2 r2=>?_⟩
   have r2:=yU.mp r2
   subst r2
   exact⟨_,_,rfl,rfl,k _ _ G2 (s1.trans s2) (zD.mpr rfl)⟩
 · cases hf
def zMV:V->Option Int->Option Int->Hp->VK->Prop:=fun x lo hi H Q=>∃z,x = .str z/\z.length<=sizeLine/\Q (.str (Txt.slice z lo hi)) H
theorem zOR:SlR X zMV:=by
 intro pins s σ H x v vl vu lo hi sl Q I rx hs pl pu h
 obtain⟨z,rfl,hz,q⟩:=h
 obtain⟨t,rfl⟩:=rx
 refine⟨"str",_,F.slot_str_getitem.lookup,Ye s z t,?_⟩
 have fin:∀t' k,EP X pins σ Q (.str (Txt.slice z lo hi) t') { s with toks:=k }:=fun t' k=>⟨.str (Txt.slice z lo hi),H,I.tok k,⟨t',rfl⟩,q⟩
 cases pl with
 | none =>
   cases pu with
   | none=>exact Rh (l:=none) (u:=none) (st:=none) hs rfl (Uo ⟨Wv (Ip z _ _) hz,fin⟩)
   | int j tj=>exact Rh (l:=none) (u:=some (j,tj)) (st:=none) hs rfl (Uo ⟨Wv (Ip z _ _) hz,fin⟩)
 | int i ti =>
   cases pu with
   | none=>exact Rh (l:=some (i,ti)) (u:=none) (st:=none) hs rfl (Uo ⟨Wv (Ip z _ _) hz,fin⟩)
   | int j tj=>exact Rh (l:=some (i,ti)) (u:=some (j,tj)) (st:=none) hs rfl (Uo ⟨Wv (Ip z _ _) hz,fin⟩)
def uQ (f:Ef)(lo hi:Of):Ef:=fun ρ=>(f ρ).bind fun d=>(lo ρ).bind fun l=>(hi ρ).bind fun u=>match d with | .str x=>if x.length<=lim then some (.str (Txt.slice x l u)) else none | _=>none
theorem rT {lo hi:Option Expr}{fl fh:Of}{p2:Pos}(ha:PF X a fa)(hl:PFO X lo fl)(hh:PFO X hi fh):PF X (.Subscript a (.Slice lo hi none p2) pos) (uQ fa fl fh):=by
 refine PE.to (zW3 zOR ha hl hh) ?_
 rintro σ H Q ⟨G0,H0,G,ρ,d,good,hf,k⟩
 unfold uQ at hf
 obtain⟨x,h1,hf⟩:=Qq.mp hf
 obtain⟨l,h2,hf⟩:=Qq.mp hf
 obtain⟨u,h3,hf⟩:=Qq.mp hf
 cases x with
 | str z =>
   dsimp only at hf
   split at hf
   · rename_i hz
     cases hf
     refine⟨G0,H0,G,ρ,_,good,h1,fun v H1 G1 s1 r1=>⟨G0,H0,G1,ρ,_,good.step s1,h2,fun H2 G2 s2=>⟨G0,H0,G2,ρ,_,(good.step s1).step s2,h3,fun H3 G3 s3=>?_⟩⟩⟩
     exact⟨z,yU.mp r1,Ws (wU hz),k _ _ G3 ((s1.trans s2).trans s3) (yU.mpr rfl)⟩
   · cases hf
 | _=>cases hf
end
section
variable {X:Cx} {a b c e:Expr} {fa fb:Ef} {ga gb:Lf} {pos p:Pos}
def mU (f:Ef):Ef:=fun ρ=>(f ρ).bind fun d=>match d with | .int i=>if i.natAbs.log2 < 1920 then some (.str (Str.ofString (toString i))) else none | _=>none
theorem zWL (hg:Gl X "str")(hm:X.mg "str"=none)(h:PF X a fa)(hs:starEach [a] X.env=[(false,eval a X.env)]:=by rfl):PF X (.Call (.Name "str" p) [a] [] pos) (mU fa):=by
 refine PE.to (qG zXP hg hm (by rfl) (zC h yJ (by rw[hs];rfl)) (by decide) (by decide) (by rw[hs];rfl) (by rfl)) ?_
 rintro σ H Q ⟨G0,H0,G,ρ,d,good,hf,k⟩
 unfold mU at hf
 obtain⟨x,h1,hf⟩:=Qq.mp hf
 refine⟨G0,H0,G,ρ,_,good,h1,fun v H1 G1 s1 r1=>?_⟩
 cases x with
 | int i =>
   dsimp only at hf
   split at hf
   · rename_i hz
     cases hf
     exact⟨i,by rw[zD.mp r1],hz,k _ _ G1 s1 (yU.mpr rfl)⟩
   · cases hf
 | _=>cases hf
theorem zTV:CallR X (.type "int") (fun xs H Q=>∃x n,xs=[.str x]/\x.length<=640/\PySem.intText? x=some n/\Q (.int n) H):=by
 intro pins s σ H xs us Q I r h
 obtain⟨x,n,rfl,hl,hn,q⟩:=h
 obtain⟨u,rfl,t,rfl⟩:=nH r
 exact PySem.W.KIN.call_text hn hl ⟨.int n,H,I.tok _,⟨_,rfl⟩,q⟩
def zNe:D->Option D
 | .int i=>some (.int i)
 | .bl k=>some (.int (if k then 1 else 0))
 | .str x=>if x.length<=640 then(PySem.intText? x).map .int else none
 | _=>none
def fH (f:Ef):Ef:=fun ρ=>(f ρ).bind zNe
theorem zWU (hg:Gl X "int")(hm:X.mg "int"=none)(h:PF X a fa)(hs:starEach [a] X.env=[(false,eval a X.env)]:=by rfl):PF X (.Call (.Name "int" p) [a] [] pos) (fH fa):=by
 refine PE.to (qG (zT7.or zTV) hg hm (by rfl) (zC h yJ (by rw[hs];rfl)) (by decide) (by decide) (by rw[hs];rfl) (by rfl)) ?_
 rintro σ H Q ⟨G0,H0,G,ρ,d,good,hf,k⟩
 unfold fH at hf
 obtain⟨x,h1,hf⟩:=Qq.mp hf
 refine⟨G0,H0,G,ρ,_,good,h1,fun v H1 G1 s1 r1=>?_⟩
 unfold zNe at hf
 split at hf
 · cases hf;exact .inl (.inl ⟨_,by rw[zD.mp r1],k _ _ G1 s1 (zD.mpr rfl)⟩)
 · cases hf;exact .inl (.inr ⟨_,by rw[xF.mp r1],k _ _ G1 s1 (zD.mpr rfl)⟩)
 · split at hf
   · rename_i hz
     obtain⟨n,h2,rfl⟩:=Qt.mp hf
     exact .inr ⟨_,n,by rw[yU.mp r1],hz,h2,k _ _ G1 s1 (zD.mpr rfl)⟩
   · cases hf
 · cases hf
theorem zNP {z:Str}{n:Int}(h0:0<=n)(h1:n<=1000)(h2:z.length<=1000):MulOk z n:=by
 refine⟨?_,fun q _=>?_,fun q _=>?_⟩
 · have e1:decide (n < -(2^63:Int))=false:=Qz (by omega)
   have e2:decide (n≥2^63)=false:=Qz (by omega)
   rw[e1,e2];rfl
 · have hn:0 < n:=by omega
   have hz:(z.length:Int)<=1000:=by omega
   have hm:(z.length:Int)*n<=1000*1000:=Int.mul_le_mul hz h1 h0 (by decide)
   have:=Int.le_ediv_of_mul_le hn (Int.le_trans hm (show(1000*1000:Int)<=2^63 - 1 by decide))
   omega
 · have hm:z.length*n.toNat<=1000*1000:=Nat.mul_le_mul h2 (by omega)
   unfold Builtin.Str.tooLong
   exact Qz (by rw[Ro];omega)
theorem zV0:OpR X (binaryOp .Mult) (fun x y H Q=>∃z n,x = .str z/\y = .int n/\0<=n/\n<=1000/\z.length<=1000/\Q (.str (Txt.mul z n)) H):=by
 intro pins s σ H x y v u Q I rx ry h
 obtain⟨z,n,rfl,rfl,h0,h1,h2,q⟩:=h
 obtain⟨t,rfl⟩:=rx
 obtain⟨t',rfl⟩:=ry
 exact SB.mul (zNP h0 h1 h2) fun t' k=>⟨.str (Txt.mul z n),H,I.tok _,⟨_,rfl⟩,q⟩
def zYX (fa fb:Ef):Ef:=fun ρ=>(fa ρ).bind fun x=>(fb ρ).bind fun y=>match x,y with | .str z,.int n=>if decide (0<=n)&&decide (n<=1000)&&decide (z.length<=1000) then some (.str (Txt.mul z n)) else none | _,_=>none
theorem zUN (ha:PF X a fa)(hb:PF X b fb):PF X (.BinOp a .Mult b pos) (zYX fa fb):=by
 refine PE.to (aG zV0 ha hb) ?_
 rintro σ H Q ⟨G0,H0,G,ρ,d,good,hf,k⟩
 unfold zYX at hf
 obtain⟨x,h1,hf⟩:=Qq.mp hf
 obtain⟨y,h2,hf⟩:=Qq.mp hf
 refine⟨G0,H0,G,ρ,_,good,h1,fun u H1 G1 s1 r1=>⟨G0,H0,G1,ρ,_,good.step s1,h2,fun v H2 G2 s2 r2=>?_⟩⟩
 split at hf
 · split at hf
   · rename_i hc
     cases hf
     simp only[Qg,Wh] at hc
     exact⟨_,_,yU.mp r1,zD.mp r2,hc.1.1,hc.1.2,hc.2,k _ _ G2 (s1.trans s2) (yU.mpr rfl)⟩
   · cases hf
 · cases hf
theorem zUf:OpR X (binaryOp .Add) (fun x y H Q=>∃l b xs zs,x = .ref l/\y = .ref b/\SqL X.K H l xs/\SqL X.K H b zs/\xs.length+zs.length<=sizeLine/\∀p,H p=none->Q (.ref p) (upd H p (.lst (xs++zs)))):=by
 intro pins s σ H x y v u Q I rx ry h
 obtain⟨l,b,xs,zs,rfl,rfl,hH,hB,hz,q⟩:=h
 cases rx
 cases ry
 obtain⟨its,r,pl,_⟩:=I.list hH
 obtain⟨its2,r2,pl2,_⟩:=I.list hB
 obtain⟨⟨cls,dd,data,sl⟩,ho,hc,n,hd⟩:=pl.isList
 obtain⟨⟨cls2,dd2,data2,sl2⟩,ho2,hc2,n2,hd2⟩:=pl2.isList
 simp only at hc hd hc2 hd2
 subst hc hd hc2 hd2
 have hl:=r.length
 have hl2:=r2.length
 have e:its.toArray++its2.toArray=(its++its2).toArray:=by simp
 refine concat_meets ⟨_,ho,rfl⟩ ⟨_,ho2,rfl⟩ noFill_list_add seq_list_add PySem.F.slot_list_add PySem.F.entry_list_add (PySem.F.args_list_add_2 _ _) (list_addW l b its.toArray its2.toArray n n2 dd dd2 sl sl2 (by rw[Qp,Qp];omega)) ⟨ho,ho2,?_⟩
 rw[e]
 exact⟨.ref _,_,I.lnew (t':=s.toks) (r.append r2) (by rw[Qd];omega),rfl,q _ I.fresh⟩
theorem tJ (ha:zVd X a ga)(hb:zVd X b gb):PFr X (.BinOp a .Add b pos) (vI ga gb):=by
 refine PE.toR (aG zUf ha hb) ?_
 rintro σ H Q ⟨G0,H0,G,ρ,d,good,hf,k⟩
 unfold vI at hf
 obtain⟨xs,h1,hf⟩:=Qq.mp hf
 obtain⟨ys,h2,hf⟩:=Qq.mp hf
 obtain⟨rfl,h3⟩:=lZ hf
 refine⟨G0,H0,G,ρ,_,good,h1,fun p vs H1 G1 s1 hq rs=>⟨G0,H0,G1,ρ,_,good.step s1,h2,fun q us H2 G2 s2 hq2 rs2=>?_⟩⟩
 refine⟨p,q,vs,us,rfl,rfl,(s1.sub.trans s2.hh).seq hq,s2.sub.seq hq2,?_,fun l hl=>?_⟩
 · rw[←rs.length,←rs2.length,←Qd];exact Ws (wU h3)
 · have s3:=Step.own (o:=.lst (vs++us)) s2.sub hl
   exact k l _ _ G2 ((s1.trans s2).trans s3) ((s1.trans s2).hh.free hl) zN (s2.sub.free hl) ((rs.mono s2.gg).append rs2)
def zY2:List D->Option (List Str)
 | []=>some []
 | .str x::r=>(zY2 r).map fun xs=>x::xs
 | _=>none
theorem zYz {K:PySem.W.Frag}{G:Hp}:∀ {ds:List D} {ys:List Str} {vs:List V},zY2 ds=some ys->Reps K G ds vs->vs=ys.map V.str
 | [],_,_,h,r=>by cases h;rw[yR] at r;rw[r];rfl
 | d::t,_,_,h,r=>by
   unfold zY2 at h
   split at h
   · rename_i h';cases h'
   · rename_i k t' h'
     cases h'
     obtain⟨v,vr,rfl,r1,r2⟩:=zG.mp r
     obtain⟨ks,h1,rfl⟩:=Qt.mp h
     rw[zYz h1 r2,yU.mp r1];rfl
   · cases h
theorem zVm {ns:List Str}:∀ {us:List Value},Vals (ns.map V.str) us->StrsAre us ns:=by
 induction ns with
 | nil=>intro us r;rw[Ea] at r;cases r;exact .nil
 | cons n ns ih =>
   intro us r
   rw[Qx] at r
   cases r with
   | cons r1 r2 =>
     obtain⟨t,e⟩:=r1
     subst e
     exact .cons n t (ih r2)
def zPJ (K:PySem.W.Frag):V->List V->Hp->VK->Prop:=fun x vs H Q=>∃z p ys,x = .str z/\vs=[.ref p]/\SqL K H p (ys.map V.str)/\(ys.map (·.length)).sum+ys.length*z.length<=16777216/\Q (.str (Txt.join z ys)) H
theorem oO:MtR X "str.join" (zPJ X.K):=by
 intro pins s σ H x xs v us Q I rx rv h
 obtain⟨z,p,ys,rfl,rfl,hq,hz,q⟩:=h
 obtain⟨t,rfl⟩:=rx
 obtain⟨u,rfl,ru⟩:=rv.one
 cases ru
 obtain⟨its,r,pl,_⟩:=I.list hq
 exact join_list pl.isList (by simpa using zVm r) hz fun t' k=>⟨.str _,H,I.tok k,⟨t',rfl⟩,q⟩
def uR (fa:Ef)(ga:Lf):Ef:=fun ρ=>(fa ρ).bind fun x=>(ga ρ).bind fun ds=>match x with | .str z=>(zY2 ds).bind fun ys=>if (ys.map (·.length)).sum+ys.length*z.length<=100000 then some (.str (Txt.join z ys)) else none | _=>none
theorem oR (ht:PE X c (tBM X.K "str" (zPJ X.K) (tF X.K fa) (jH (zN4 X.K ga) zWt))):PF X c (uR fa ga):=by
 refine PE.to ht ?_
 rintro σ H Q ⟨G0,H0,G,ρ,d,good,hf,k⟩
 unfold uR at hf
 obtain⟨x,h1,hf⟩:=Qq.mp hf
 obtain⟨ds,h2,hf⟩:=Qq.mp hf
 cases x with
 | str z =>
   dsimp only at hf
   obtain⟨ys,h3,hf⟩:=Qq.mp hf
   split at hf
   · rename_i hz
     cases hf
     refine⟨G0,H0,G,ρ,_,good,h1,fun u H1 G1 s1 r1=>?_⟩
     have r1:=yU.mp r1
     subst r1
     refine⟨rfl,G0,H0,G1,ρ,_,good.step s1,h2,fun q vs H2 G2 s2 hq rs=>?_⟩
     have e:=zYz h3 rs
     subst e
     exact⟨z,q,ys,rfl,rfl,s2.sub.seq hq,Wv hz (by decide),k _ _ G2 (s1.trans s2) (yU.mpr rfl)⟩
   · cases hf
 | _=>cases hf
end
structure FunD (K:PySem.W.Frag)(x qual:Str)(st:Stmt)(f:Addr)(fd:FuncData):Prop where
 ex:∃(oc:Value) (od:Option Addr) (dV kV doc pm:Value) (an:Option Addr) (cdv ct:Value) (osl:Array (Option Value)),
   fd=PySem.W.fnOf x qual (zE st) (zJ st) (zU st) dV kV doc pm an cdv ct/\K.lookup f=some ⟨oc,od,.func fd,osl⟩/\PySem.W.codeIn K cdv qual=true
 kp:PySem.W.keepIn K (.ref f)=true
theorem iQ {K:PySem.W.Frag}{G:Hp}{f:Str}{d:D}:∀ {ns:List Str} {ds:List D} {vs:List V},ns.length=ds.length->Reps K G ds vs->(ns.zip ds).lookup f=some d->∃u,(ns.zip vs).lookup f=some u/\Rep K G d u
 | [],_,_,_,_,h=>by simp at h
 | n::ns,[],_,hl,_,_=>by simp at hl
 | n::ns,e::ds,_,hl,r,h=>by
   obtain⟨v,vr,rfl,r1,r2⟩:=zG.mp r
   rw[List.zip_cons_cons,Wc] at h ⊢
   cases hq:f==n with
   | true=>rw[hq] at h;cases h;exact⟨v,rfl,r1⟩
   | false=>rw[hq] at h;exact iQ (by simpa using hl) r2 h
section
variable {X:Cx} {a c e:Expr} {fa:Ef} {pos p:Pos} {st:Stmt}
def pM (c f:Str)(fa:Ef):Ef:=fun ρ=>(fa ρ).bind fun d=>match d with | .obj c' ns ds=>if c'=c then(ns.zip ds).lookup f else none | _=>none
theorem oJ {C:Addr}{c f:Str}(hC:ClsAt X.K c C)(hcl:Cls X.K C)(hn:NoAttr X.K C f)(ha:PF X a fa)(hb:attributeBase a f X.env (eval a X.env)=eval a X.env:=by rfl):PF X (.Attribute a f pos) (pM c f fa):=by
 refine PE.to (zO3 ha hb) ?_
 rintro σ H Q ⟨G0,H0,G,ρ,d,good,hf,k⟩
 unfold pM at hf
 obtain⟨x,h1,hf2⟩:=Qq.mp hf
 cases x with
 | obj c' ns ds =>
   dsimp only at hf2
   by_cases hc:c'=c
   · rw[Wr hc] at hf2
     subst hc
     refine⟨G0,H0,G,ρ,_,good,h1,fun v H1 G1 s1 r1=>?_⟩
     obtain⟨C',q,dx,vs,e0,rfl,e1,e2,e3⟩:=cR.mp r1
     have ec:=hC.one e0
     subst ec
     obtain⟨u,e4,e5⟩:=iQ e2 e3 hf2
     exact⟨q,_,dx,ns.zip vs,u,rfl,s1.sub _ _ e1,hcl,hn,e4,k _ _ G1 s1 e5⟩
   · rw[Wj hc] at hf2;cases hf2
 | _=>cases hf2
theorem zZ1 {f:Str}{y:V}:∀ {ns:List Str} {vs:List V},ns.length=vs.length->f∉ns->nC f y (ns.zip vs)=(ns++[f]).zip (vs++[y])
 | [],[],_,_=>rfl
 | [],_::_,h,_=>by simp at h
 | _::_,[],h,_=>by simp at h
 | n::ns,v::vs,h,hf=>by
   show(if n=f then _ else(n,v)::nC f y (ns.zip vs))=_
   rw[Wj (fun z=>hf (by rw[z];exact Qc)),zZ1 (by simpa using h) (fun z=>hf (Qi _ z))]
   rfl
def zQm (K:PySem.W.Frag)(C:Addr)(ns:List Str)(g:Lf):TS:=fun DD σ H=>∃(G0 H0 G:Hp) (ρ:List B) (p dx:Addr) (pre:List Str) (us:List V) (xs ds:List D),
 Good K G0 H0 G H σ ρ/\aX ρ/\σ[0]?=some (some (.ref p))/\H p=some (.ins C dx (pre.zip us))/\G p=none/\H0 p=none/\pre.length=us.length/\(pre++ns).Nodup/\(pre++ns).length<=900/\Reps K G xs us/\g ρ=some ds /\
 ∀H' G' vs,Step G0 H0 G' H'->H' p=some (.ins C dx ((pre++ns).zip vs))->G' p=none->Reps K G' (xs++ds) vs->DD.nx σ H'
theorem zUu {C:Addr}:PSs X [] (zQm X.K C [] zS):=by
 intro pins s σ H D I h
 refine zXL pins s σ H D I ?_
 obtain⟨G0,H0,G,ρ,p,dx,pre,us,xs,ds,good,now,hs,hp,gp,h0,hl,nd,hz,rs,hg,k⟩:=h
 cases hg
 rw[Qb] at k
 exact k H G us good.st (by rw[Qb] at *;exact hp) gp (by rw[Qb];exact rs)
theorem pK {C:Addr}{f x:Str}{ns:List Str}{g:Lf}{rest:List Stmt}{pos' p1:Pos}(hcl:Cls X.K C)(hn:NoAttr X.K C f)(hself:X.N[0]?=some x)(hvis:Vis X.env.scope x)(he:PF X e fa)(hr:PSs X rest (zQm X.K C ns g))(hd:(x==("__debug__":Str))=false:=by decide)(hcd:(x==("__classdict__":Str))=false:=by decide)
   (hs:swapsWith e (some (.Attribute (.Name x p1) f pos')) pos.line X.env=pure false:=by rfl):PSs X (.Assign [.Attribute (.Name x p1) f pos'] e pos::rest) (zQm X.K C (f::ns) (zY fa g)):=by
 intro pins s σ H D I h
 refine kK (zPa (nX hself hvis hd hcd) he hs) hr pins s σ H D I ?_
 obtain⟨G0,H0,G,ρ,p,dx,pre,us,xs,ds,good,now,hself,hp,gp,h0,hl,nd,hz,rs,hg,k⟩:=h
 obtain⟨d,dr,h1,h2,rfl⟩:=kF hg
 have hlp:pre.length < 1000:=by rw[Qd] at hz;omega
 have hnp:f∉pre:=fun z=>(Yy.mp nd).2.2 f z f Qc rfl
 have e1:pre++f::ns=(pre++[f])++ns:=by simp
 refine⟨G0,H0,G,ρ,d,good,h1,fun v H1 G1 s1 r1=>⟨.ref p,hself,p,C,dx,pre.zip us,rfl,s1.hh _ _ hp,hcl,hn,?_,?_⟩⟩
 · rw[List.length_zip];omega
 · have hne:H p≠none:=by rw[hp];exact fun z=>nomatch z
   have gp1:G1 p=none:=(s1.new p hne).trans gp
   refine⟨G0,H0,G1,ρ,p,dx,pre++[f],us++[v],xs++[d],dr,(good.step s1).wrX now gp1 h0,now,hself,?_,gp1,h0,by rw[Qd,Qd,hl];rfl,by rw[←e1];exact nd,by rw[←e1];exact hz,(rs.mono s1.gg).snoc r1,h2,fun H' G' vs st q1 q2 q3=>?_⟩
   · rw[zN,zZ1 hl hnp]
   · refine k H' G' vs st (by rw[e1];exact q1) q2 ?_
     rw[show xs++d::dr=(xs++[d])++dr by simp]
     exact q3
end
def spI (K:PySem.W.Frag)(C:Addr)(ns:List Str)(n:Nat)(f:List D->Option (List D)):Sp:=fun vs H Q _=>∃(p dx:Addr) (rest:List V) (G H0:Hp) (ds xs:List D),vs = .ref p::rest/\H=upd (upd H0 dx (.own p)) p (.ins C dx [])/\H0 p=none/\H0 dx=none/\dx≠p/\Same G H0/\Reps K G ds rest/\ds.length=n/\f ds=some xs /\
 ∀H' G' us,Step G H0 G' H'->H' p=some (.ins C dx (ns.zip us))->G' p=none->Reps K G' xs us->Q .non H'
theorem fP {K:PySem.W.Frag}{G H0 H:Hp}(m:Nat):∀ {ds:List D} {vs:List V},Reps K G ds vs->Paired (RB K H0 G H) (vs.map some++List.replicate m none) (ds.map .fz++List.replicate m .no)
 | [],_,h=>by
   rw[yR] at h;subst h
   show Paired _ (List.replicate m none) (List.replicate m B.no)
   induction m with
   | zero=>exact .nil
   | succ n ih=>rw[Wz,Wz];exact .cons .no ih
 | d::r,_,h=>by
   obtain⟨v,vr,rfl,h1,h2⟩:=zG.mp h
   exact .cons (.fz h1) (fP m h2)
theorem cQ (m:Nat)(ds:List D):aX (.no::(ds.map B.fz++List.replicate m B.no)):=by
 constructor
 all_goals
   intro j es h
   cases j with
   | zero=>cases h
   | succ j =>
     rw[Ez] at h
     by_cases hi:j < ds.length
     · rw[Wn (by simpa using hi),Wx] at h
       obtain⟨k,_,h⟩:=Qt.mp h
       cases h
     · rw[Ee (by simpa using hi),En] at h
       split at h<;>cases h
def oB (N:Nat)(ds:List D):List B:=.no::(ds.map .fz++List.replicate (N - (ds.length+1)) .no)
section
variable {P:Program} {w:World} {K:PySem.W.Frag} {mg:Str->Option Value} {base:Heap} {x qual:Str} {st:Stmt} {f C:Addr} {fd:FuncData} {N ps ns:List Str} {k:Nat} {sf:Str}
theorem zUj {g:Lf}(F:Fun K x qual st f fd)(S:FnScope N (sf::ps) (zU st))(hnd:ns.Nodup)(hlen:ns.length<=900)
   (hb:∀(cdv:Value) (A:Around) (outer:List Env) (s:Shared) (H:Hp) (E:XK),Room k (A.deeper (envOfC qual (zU st) s.heap.objs.size f cdv))->PSs (oZ CX0 P w K mg base N qual (zU st) f cdv A outer s H E).nox (zJ st) (zQm K C ns g)) :
   FnOk P w K mg base CX0 (k+1) f fd (sf::ps) (spI K C ns ps.length fun ds=>g (oB N.length ds)):=by
 refine F.ok S (fun vs H Q E h=>?_) (fun cdv A outer s H vs Q E hr h=>⟨_,hb cdv A outer s H E hr,?_⟩)
 · obtain⟨p,dx,rest,G,H0,ds,xs,rfl,_,_,_,_,_,rs,hl,_⟩:=h
   rw[Qo,Qo,←rs.length,hl]
 · obtain⟨p,dx,rest,G,H0,ds,xs,rfl,rfl,h1,h2,h3,sub,rs,hl,hf,k⟩:=h
   have hne:p≠dx:=h3.symm
   have hp1:(upd H0 dx (.own p)) p=none:=by rw[yS hne];exact h1
   have st1:Step G H0 G (upd H0 dx (.own p)):=Step.own sub h2
   have st2:Step G H0 G (upd (upd H0 dx (.own p)) p (.ins C dx [])):=st1.trans (Step.own st1.sub hp1)
   have good:Good K G H0 G (upd (upd H0 dx (.own p)) p (.ins C dx [])) (wW N (.ref p::rest)) (oB N.length ds):=by
     refine⟨st2,?_,fun i j a es es' q1=>absurd q1 ((cQ _ ds).1 i es)⟩
     unfold wW oB
     rw[Qx,Qo,Wd,←rs.length]
     exact .cons .no (fP _ rs)
   refine⟨G,H0,G,_,p,dx,[],[],[],xs,good,cQ _ ds,rfl,zN,sub.free h1,h1,rfl,hnd,hlen,yR.mpr rfl,hf,fun H' G' us s' q1 q2 q3=>k H' G' us s' q1 q2 q3⟩
variable {X:Cx} {a b c e:Expr} {es:List Expr} {fb:Ef} {ga:Lf} {pos p:Pos}
def zZV (c:Str)(ns:List Str)(n:Nat)(f:List D->Option (List D))(g:Lf):Ef:=fun ρ=>(g ρ).bind fun ds=>if ds.length=n then(f ds).bind fun xs=>if ns.length=xs.length then some (.obj c ns xs) else none else none
theorem zU1 {k n:Nat}{C fI:Addr}{fd:FuncData}{ps ns:List Str}{c:Str}{f:List D->Option (List D)}(hC:ClsAt X.K c C)(M:Mk X.K C fI)(F:FnOk X.prog X.w X.K X.mg X.base CX0 k fI fd ps (spI X.K C ns n f))(hr:Room (k+1) X.A)(hm:X.mg c=some (.ref C))(hb:Binds X.K fd ps [])(hg:Gl X c)
   (ha:PFA X (e::es) ga) (hdb:(c==("__debug__":Str))=false:=by decide) (he:starEach (e::es) X.env=(false,eval e X.env)::starEach es X.env:=by rfl) (hpl:(backTo pos (starEach es X.env)).any (·.1)=false:=by rfl) :
   PF X (.Call (.Name c p) (e::es) [] pos) (zZV c ns n f ga):=by
 refine PE.to (zQd (E:=E0) M F hr hg hm hb .nil zU7 ha hdb he hpl) ?_
 rintro σ H Q ⟨G0,H0,G,ρ,d,good,hf,k⟩
 unfold zZV at hf
 obtain⟨ds,h1,hf⟩:=Qq.mp hf
 split at hf
 · rename_i hl
   obtain⟨xs,h2,hf⟩:=Qq.mp hf
   split at hf
   · rename_i hn
     cases hf
     refine⟨G0,H0,G,ρ,_,good,h1,fun vs H1 G1 s1 r1 x dx hx hdx hne=>?_⟩
     refine⟨x,dx,vs++[],G1,H1,ds,xs,rfl,rfl,hx,hdx,hne,s1.sub,by rw[Qb];exact r1,hl,h2,fun H' G' us s' q1 q2 q3=>⟨rfl,?_⟩⟩
     exact k _ _ _ (s1.trans (s'.frz hx q1 q2)) (cR.mpr ⟨C,x,dx,us,hC,rfl,zN,hn,q3.mono (Same.new q2)⟩)
   · cases hf
 · cases hf
def zZi:D->D->Option Bool
 | d,.non=>some (uL d)
 | .bl x,.bl y=>some (x==y)
 | .non,.bl _=>some false
 | .int _,.bl _=>some false
 | .str _,.bl _=>some false
 | .tup _,.bl _=>some false
 | .lst _,.bl _=>some false
 | .obj _ _ _,.bl _=>some false
 | .exc _ _ _,.bl _=>some false
 | _,_=>none
theorem zOI:OpR X (compareOp .Is) (fun x y H Q=>∃k,y = .bl k/\Q (.bl (decide (x = .bl k))) H):=by
 intro pins s σ H x y v u Q I rx ry h
 obtain⟨k,rfl,q⟩:=h
 cases ry
 cases x with
 | bl z=>cases rx;refine is_bool (yF I q ?_);rw[zX0]
 | non=>cases rx;refine Ta (by rfl) (by intro z;cases z) (yF I q (by simp))
 | int i=>obtain⟨t,rfl⟩:=rx;refine Ta (by rfl) (by intro z;cases z) (yF I q (by simp))
 | str i=>obtain⟨t,rfl⟩:=rx;refine Ta (by rfl) (by intro z;cases z) (yF I q (by simp))
 | byt i=>obtain⟨t,rfl⟩:=rx;refine Ta (by rfl) (by intro z;cases z) (yF I q (by simp))
 | flt i=>obtain⟨t,rfl⟩:=rx;refine Ta (by rfl) (by intro z;cases z) (yF I q (by simp))
 | ref i=>cases rx;refine Ta (by rfl) (by intro z;cases z) (yF I q (by simp))
 | ty i=>cases rx;refine Ta (by rfl) (by intro z;cases z) (yF I q (by simp))
theorem zYn:CmR X .Is zZi:=⟨_,zOu.or zOI,fun d d' k G H x y Q h s rx ry q=>by
 have fin:∀(z:Bool) (v:V),d' = .bl z->x=v->k=decide (v = .bl z)->(fun x y H Q=>y=V.non/\Q (.bl (decide (x = .non))) H) x y H Q∨(∃k,y = .bl k/\Q (.bl (decide (x = .bl k))) H):=fun z v e1 e2 e3=>by
   subst e1;subst e2
   exact .inr ⟨z,xF.mp ry,by rw[←e3];exact q H G (.refl s)⟩
 cases d' with
 | non =>
   have hk:uL d=k:=by cases d<;>(cases h;rfl)
   refine .inl ⟨sP.mp ry,?_⟩
   rw[zYM rx,hk];exact q H G (.refl s)
 | bl z =>
   cases d with
   | bl w=>cases h;exact fin z _ rfl (xF.mp rx) (by rw[zX0])
   | non=>cases h;exact fin z _ rfl (sP.mp rx) (by simp)
   | int i=>cases h;exact fin z _ rfl (zD.mp rx) (by simp)
   | str i=>cases h;exact fin z _ rfl (yU.mp rx) (by simp)
   | tup ds=>cases h;obtain⟨p,_,e,_⟩:=xE.mp rx;exact fin z _ rfl e (by simp)
   | lst ds=>cases h;obtain⟨p,_,e,_⟩:=xY.mp rx;exact fin z _ rfl e (by simp)
   | obj _ _ ds=>cases h;obtain⟨_,p,_,_,_,e,_⟩:=cR.mp rx;exact fin z _ rfl e (by simp)
   | exc _ _ ds=>cases h;obtain⟨_,p,_,_,_,e,_⟩:=oU.mp rx;exact fin z _ rfl e (by simp)
 | _=>cases d<;>cases h⟩
def zOO (g:Lf)(f:Ef):Lf:=fun ρ=>(g ρ).bind fun ds=>(f ρ).bind fun n=>match n with | .int k=>if decide (0<=k)&&decide (k<=1000)&&decide (ds.length<=90) then some (List.replicate k.toNat ds).flatten else none | _=>none
theorem zW1 {K:PySem.W.Frag}{G:Hp}{ds:List D}{vs:List V}(h:Reps K G ds vs):∀k:Nat,Reps K G (List.replicate k ds).flatten (List.replicate k vs).flatten
 | 0=>yR.mpr rfl
 | k+1=>by
   rw[Wz,Wz,Tt,Tt]
   exact h.append (zW1 h k)
theorem zOU (ha:PFr X a ga)(hb:PF X b fb):PFr X (.BinOp a .Mult b pos) (zOO ga fb):=by
 refine PE.toR (aG zP3 ha hb) ?_
 rintro σ H Q ⟨G0,H0,G,ρ,d,good,hf,k⟩
 unfold zOO at hf
 obtain⟨xs,h1,hf⟩:=Qq.mp hf
 obtain⟨n,h2,hf⟩:=Qq.mp hf
 cases n with
 | int m =>
   dsimp only at hf
   split at hf
   · rename_i hc
     cases hf
     simp only[Qg,Wh] at hc
     refine⟨G0,H0,G,ρ,_,good,h1,fun p vs H1 G1 s1 hn hp gp rs=>⟨G0,H0,G1,ρ,_,good.step s1,h2,fun q H2 G2 s2 r2=>?_⟩⟩
     have hne:H1 p≠none:=by rw[hp];exact fun z=>nomatch z
     refine⟨p,m,vs,rfl,zD.mp r2,s2.hh _ _ hp,by omega,by omega,?_,fun l hl=>?_⟩
     · rw[←rs.length]
       have:xs.length*m.toNat<=90*1000:=Nat.mul_le_mul hc.2 (by omega)
       exact Wv this (by decide)
     · have s3:=Step.own (o:=.lst (List.replicate m.toNat vs).flatten) s2.sub hl
       exact k l _ _ G2 ((s1.trans s2).trans s3) ((s1.trans s2).hh.free hl) zN (s2.sub.free hl) (zW1 (rs.mono s2.gg) _)
   · cases hf
 | _=>cases hf
def eQ (i:Nat):Tf:=fun ρ=>match ρ[i]? with | some (.ow ds)=>some (!ds.isEmpty) | _=>none
theorem zRX (hu:X.A.units < cLine):OpR X (compareOp .NotEq) (fun x y H Q=>∃l m xs,x = .ref l/\y = .ref m/\SqL X.K H l xs/\SqL X.K H m []/\Q (.bl (!xs.isEmpty)) H):=by
 intro pins s σ H x y v u Q I rx ry h
 obtain⟨l,m,xs,rfl,rfl,hl,hm,q⟩:=h
 cases rx
 cases ry
 obtain⟨its,w1,t1,_⟩:=I.list hl
 obtain⟨jts,w2,t2,_⟩:=I.list hm
 cases w2
 cases xs with
 | nil =>
   cases w1
   have R:=SeqAt.RcNeAt.lists (A:=X.A) (s:=s) (e:=fun _=>true) t1.isList t2.isList rfl hu (fun j h1=>absurd h1 (by simp))
   exact R X.prog X.w X.xe _ ⟨.bl false,H,I,rfl,q⟩
 | cons x r =>
   cases w1 with
   | cons r1 r2 =>
     have R:=Im (A:=X.A) (s:=s) t1.isList t2.isList (by simp) hu
     exact R X.prog X.w X.xe _ ⟨.bl true,H,I,rfl,q⟩
theorem zS1 {k:Nat}(i:Nat)(hr:Room k X.A){x:Str}{p1 p2:Pos}(hN:X.N[i]?=some x:=by rfl)(hv:Vis X.env.scope x:=by first | exact Or.inl rfl | exact Or.inr (Or.inl rfl) | exact Or.inr (Or.inr rfl))(hd:(x==("__debug__":Str))=false:=by decide)(hcd:(x==("__classdict__":Str))=false:=by decide) :
   PFT X (.Compare (.Name x p1) [.NotEq] [.List [] p2] pos) (eQ i):=by
 refine PT.to (cS (zRX hr.units0) (nX hN hv hd hcd) (zRG yJ) (zZ3 _)) ?_
 rintro σ H Q ⟨G0,H0,G,ρ,b,good,hf,k⟩
 unfold eQ at hf
 split at hf
 · rename_i ds hi
   cases hf
   obtain⟨q,vs,e1,e2,e3,e4,e5⟩:=good.addr hi
   refine⟨.ref q,e1,Tb _,fun z hz=>⟨q,z,vs,rfl,rfl,.of (by rw[yS (yK e2 hz)];exact e2),.of zN,_,rfl,?_⟩⟩
   have e:(!vs.isEmpty) = !ds.isEmpty:=by
     have hl:=e5.length
     cases vs with
     | nil=>cases ds with
       | nil=>rfl
       | cons _ _=>simp at hl
     | cons _ _=>cases ds with
       | nil=>simp at hl
       | cons _ _=>rfl
   rw[e]
   exact k _ G (Step.own good.sub hz)
 · cases hf
end
end L2
namespace L2
open PySem PySem.Spec PyProof.Rows
section
variable {prog:Program} {w:World} {A:Around} {E:Value->Shared->Prop} {s:Shared}
theorem zTR {M:Model}{a:Addr}{Q:Option Obj->Shared->Prop}(h:Q (s.heap.get? a) s):wpAny M A (loadIfAlive a) Q E s :=
 fun Γ p _=>by show Sem.wp M Γ (.loadIfAlive a .pure) _ _ p s;rw[Sem.wp_loadIfAlive];exact h
abbrev zZk (h:Heap)(z TI TO T:Addr)(b:Bool):Prop:=h.get? z=some { cls:=.type "zip",dict:=none,data:=.fields #[rawInt T,.bool b,.bool false,.ref TI,.ref TO],slots:=#[] }
theorem zYU {z TI TO T:Addr}{b:Bool}{o:Obj}{Q:Bool->Shared->Prop}(hz:zZk s.heap z TI TO T b)(hT:s.heap.get? T=some o)(hQ:∀h',zZk h' z TI TO T true->(∀c u,c≠z->s.heap.get? c=some u->h'.get? c=some u)->h'.objs.size=s.heap.objs.size->Q false { s with heap:=h' }) :
   wpAny (model prog w) A (Builtin.SmallTypes.ownedTupleIsFree (.ref z)) Q E s:=by
 unfold Builtin.SmallTypes.ownedTupleIsFree
 refine Qe (Ep hz rfl (x:=rawInt T) rfl ?_)
 change wpAny _ _ (loadIfAlive (Int.toNat (T:Int)) >>= _) _ _ _
 refine Qe (zTR ?_)
 rw[Ie,hT]
 change wpAny _ _ (field (.ref z) 1 >>= _) _ _ _
 refine Qe (Ep hz rfl (x:=.bool b) rfl ?_)
 cases b with
 | false =>
   change wpAny _ _ (setField (.ref z) 1 (.bool true) >>= fun _=>pure false) _ _ _
   refine Qe (wpAny_setField_rec hz (by simp) fun h' q1 q2=>Qa (hQ h' q1 (fun c u hc e=>q2.extBut _ _ hc e) q2.1))
 | true =>
   change wpAny _ _ (pure false) _ _ _
   exact Qa (hQ s.heap hz (fun _ _ _ e=>e) rfl)
theorem zTr {z TI TO i1 i2 l1 l2 T:Addr}{b:Bool}{o:Obj}{k:Nat}{xs ys:Array Value}{x y:Value}{Q:Value->Shared->Prop}(D:ZipApart z TI TO i1 i2 l1 l2)
   (hz:zZk s.heap z TI TO T b) (hT:s.heap.get? T=some o) (hTI:IsPair s.heap TI (.ref i1) (.ref i2))
   (h1:s.heap.IsListIter i1 l1 k) (h2:s.heap.IsListIter i2 l2 k) (hl1:s.heap.IsList l1 xs) (hl2:s.heap.IsList l2 ys) (hx:xs[k]?=some x) (hy:ys[k]?=some y)
   (hQ:∀h',zZk h' z TI TO T true->h'.IsListIter i1 l1 (k+1)->h'.IsListIter i2 l2 (k+1)->IsPair h' s.heap.objs.size x y ->
     (∀c o,c≠z->c≠i1->c≠i2->s.heap.get? c=some o->h'.get? c=some o)->Q (.ref s.heap.objs.size) { s with heap:=h' }) :
   wpAny (model prog w) A (Builtin.«zip.__next__» ⟨[.ref z],[]⟩) (fun fin s'=>∃v,fin = .done (.ret v)/\Q v s') E s:=by
 change wpAny _ _ (field (.ref z) 2 >>= _) _ _ _
 refine Qe (Ep hz rfl (x:=.bool false) rfl ?_)
 change wpAny _ _ (field (.ref z) 3 >>= _) _ _ _
 refine Qe (Ep hz rfl (x:=.ref TI) rfl (Qe (Uk hTI rfl ?_)))
 change wpAny _ _ (Builtin.SmallTypes.ownedTupleIsFree (.ref z) >>= _) _ _ _
 refine Qe (zYU hz hT fun g1 z1 k1 e1=>?_)
 simp only[Wb,Te]
 refine Qe ?_
 simp only[←Yx,Ic,List.forIn_nil]
 refine Qe (Qe (Ry ?_))
 change wpAny _ _ (Builtin.SmallTypes.nextOf (.ref i1) >>= _) _ _ _
 refine Qe (Ut (h1.at fun o e=>k1 _ o D.i1z e) (hl1.at fun o e=>k1 _ o D.l1z e) hx fun g2 u1 t2=>Qa (Qa (Qe (Qe (Ry ?_)))))
 change wpAny _ _ (Builtin.SmallTypes.nextOf (.ref i2) >>= _) _ _ _
 refine Qe (Ut ((h2.at fun o e=>k1 _ o D.i2z e).extBut t2.extBut D.i12.symm) ((hl2.at fun o e=>k1 _ o D.l2z e).extBut t2.extBut D.l2i1) hy fun g3 u2 t3=>Qa (Qa (Qa ?_)))
 have esz:g3.objs.size=s.heap.objs.size:=by rw[t3.1,t2.1,e1]
 refine Qe (wpAny_newTuple ?_ (by show 2<=sizeLine;exact Ws (wU (by decide))))
 refine Qa ⟨_,rfl,?_⟩
 have z3:zZk g3 z TI TO T true:=t3.extBut _ _ D.i2z.symm (t2.extBut _ _ D.i1z.symm z1)
 have w1:=u1.extBut t3.extBut D.i12
 change Q (.ref g3.objs.size) { s with heap:=g3.push { cls:=.type "tuple",data:=.seq #[x,y] } }
 have n3:IsPair (g3.push { cls:=.type "tuple",data:=.seq #[x,y] }) g3.objs.size x y:=Qh _ rfl
 rw[esz] at n3 ⊢
 exact hQ _ (Qr _ z3) (w1.at fun o e=>Qr _ e) (u2.at fun o e=>Qr _ e) n3
   fun c o c1 c2 c3 e=>Qr _ (t3.extBut _ _ c3 (t2.extBut _ _ c2 (k1 _ _ c1 e)))
theorem zRU {z TI TO i1 i2 l1 l2 T:Addr}{b:Bool}{o:Obj}{k:Nat}{xs ys:Array Value}{Q:Fin->Shared->Prop}(hh:A.handled=none)(D:ZipApart z TI TO i1 i2 l1 l2)
   (hz:zZk s.heap z TI TO T b) (hT:s.heap.get? T=some o) (hTI:IsPair s.heap TI (.ref i1) (.ref i2))
   (h1:s.heap.IsListIter i1 l1 k) (h2:s.heap.IsListIter i2 l2 k) (hl1:s.heap.IsList l1 xs) (hl2:s.heap.IsList l2 ys) (hend:xs[k]?=none∨ys[k]?=none)
   (hE:∀h' e,(∀c o,c≠z->c≠i1->c≠i2->s.heap.get? c=some o->h'.get? c=some o)->(∃o,h'.get? e=some o/\o.cls = .type "StopIteration")->E (.ref e) { s with heap:=h' }) :
   wpAny (model prog w) A (Builtin.«zip.__next__» ⟨[.ref z],[]⟩) Q E s:=by
 change wpAny _ _ (field (.ref z) 2 >>= _) _ _ _
 refine Qe (Ep hz rfl (x:=.bool false) rfl ?_)
 change wpAny _ _ (field (.ref z) 3 >>= _) _ _ _
 refine Qe (Ep hz rfl (x:=.ref TI) rfl (Qe (Uk hTI rfl ?_)))
 change wpAny _ _ (Builtin.SmallTypes.ownedTupleIsFree (.ref z) >>= _) _ _ _
 refine Qe (zYU hz hT fun g1 z1 k1 e1=>?_)
 simp only[Wb,Te]
 refine Qe ?_
 simp only[←Yx,Ic,List.forIn_nil]
 refine Qe (Qe (Ry ?_))
 change wpAny _ _ (Builtin.SmallTypes.nextOf (.ref i1) >>= _) _ _ _
 cases hx:xs[k]? with
 | none=>exact Qe (wpAny_nextOf_list_end hh (h1.at fun o e=>k1 _ o D.i1z e) (hl1.at fun o e=>k1 _ o D.l1z e) hx fun g2 e t2 he=>hE g2 e (fun c o c1 c2 _ q=>t2 _ _ c2 (k1 _ _ c1 q)) he)
 | some x =>
   have hy:ys[k]?=none:=by rcases hend with q | q;rw[hx] at q;cases q;exact q
   refine Qe (Ut (h1.at fun o e=>k1 _ o D.i1z e) (hl1.at fun o e=>k1 _ o D.l1z e) hx fun g2 u1 t2=>Qa (Qa (Qe (Qe (Ry ?_)))))
   change wpAny _ _ (Builtin.SmallTypes.nextOf (.ref i2) >>= _) _ _ _
   exact Qe (wpAny_nextOf_list_end hh ((h2.at fun o e=>k1 _ o D.i2z e).extBut t2.extBut D.i12.symm) ((hl2.at fun o e=>k1 _ o D.l2z e).extBut t2.extBut D.l2i1) hy fun g3 e t3 he=>hE g3 e (fun c o c1 c2 c3 q=>t3 _ _ c3 (t2.extBut _ _ c2 (k1 _ _ c1 q))) he)
theorem zZZ {z TI TO i1 i2 l1 l2 T:Addr}{b:Bool}{o:Obj}{k:Nat}{xs ys:Array Value}{x y:Value}{Q:Option Value->Shared->Prop}(D:ZipApart z TI TO i1 i2 l1 l2)
   (hz:zZk s.heap z TI TO T b) (hT:s.heap.get? T=some o) (hTI:IsPair s.heap TI (.ref i1) (.ref i2))
   (h1:s.heap.IsListIter i1 l1 k) (h2:s.heap.IsListIter i2 l2 k) (hl1:s.heap.IsList l1 xs) (hl2:s.heap.IsList l2 ys) (hx:xs[k]?=some x) (hy:ys[k]?=some y)
   (hQ:∀h',zZk h' z TI TO T true->h'.IsListIter i1 l1 (k+1)->h'.IsListIter i2 l2 (k+1)->IsPair h' s.heap.objs.size x y ->
     (∀c o,c≠z->c≠i1->c≠i2->s.heap.get? c=some o->h'.get? c=some o)->Q (some (.ref s.heap.objs.size)) { s with heap:=h' }):wpAny (model prog w) A (pyNext (.ref z)) Q E s:=by
 have hT':s.TypeIs (.ref z) "zip":=⟨_,hz,rfl⟩
 unfold pyNext
 exact Qe (wpAny_attempt (wpAny_callSpecial?_slot (name:=Str.ofString "__next__") hT' F.slot_zip_next (wpAny_call_entry F.slot_zip_next hT' F.entry_zip_next (zTr D hz hT hTI h1 h2 hl1 hl2 hx hy fun h' a1 a2 a3 a4 a5=>Qa (hQ h' a1 a2 a3 a4 a5)) (F.args_zip_next_1 _))))
theorem zZw {z TI TO i1 i2 l1 l2 T:Addr}{b:Bool}{o:Obj}{k:Nat}{xs ys:Array Value}{Q:Option Value->Shared->Prop}(hh:A.handled=none)(D:ZipApart z TI TO i1 i2 l1 l2)
   (hz:zZk s.heap z TI TO T b) (hT:s.heap.get? T=some o) (hTI:IsPair s.heap TI (.ref i1) (.ref i2))
   (h1:s.heap.IsListIter i1 l1 k) (h2:s.heap.IsListIter i2 l2 k) (hl1:s.heap.IsList l1 xs) (hl2:s.heap.IsList l2 ys) (hend:xs[k]?=none∨ys[k]?=none)
   (hQ:∀h',(∀c o,c≠z->c≠i1->c≠i2->s.heap.get? c=some o->h'.get? c=some o)->Q none { s with heap:=h' }):wpAny (model prog w) A (pyNext (.ref z)) Q E s:=by
 have hT':s.TypeIs (.ref z) "zip":=⟨_,hz,rfl⟩
 unfold pyNext
 refine Qe (wpAny_attempt (wpAny_callSpecial?_slot (name:=Str.ofString "__next__") hT' F.slot_zip_next (wpAny_call_entry F.slot_zip_next hT' F.entry_zip_next (zRU hh D hz hT hTI h1 h2 hl1 hl2 hend fun h' e hk he=>?_) (F.args_zip_next_1 _))))
 obtain⟨o,q1,q2⟩:=he
 exact Qe (Il (T:="StopIteration") (b:=true) ⟨o,q1,q2⟩ isSubtype_stop (Qa (hQ _ hk)))
end
def ZSt (h:Heap)(n a b S:Addr)(i:Nat):Prop :=
 ((IsZip h (n+4) (n+2) (n+3) .none/\∃p q,IsPair h (n+3) p q)∨∃T f o,zZk h (n+4) (n+2) (n+3) T f/\T∉[n+4,n+2,n+3,n,n+1]/\T≠S/\h.get? T=some o)/\IsPair h (n+2) (.ref n) (.ref (n+1))/\h.IsListIter n a i/\h.IsListIter (n+1) b i
theorem ZSt.keep {h h':Heap}{n a b S:Addr}{i:Nat}(z:ZSt h n a b S i)(k:∀c u,c≠S->h.get? c=some u->h'.get? c=some u)(hS:S∉[n+4,n+2,n+3,n,n+1])(hS3:(n+3)≠S):ZSt h' n a b S i:=by
 have ne:∀c∈[n+4,n+2,n+3,n,n+1],c≠S:=fun c hc z=>hS (z ▸ hc)
 obtain⟨z1,z2,z3,z4⟩:=z
 refine⟨?_,k _ _ (ne _ (by simp)) z2,z3.at fun o e=>k _ o (ne _ (by simp)) e,z4.at fun o e=>k _ o (ne _ (by simp)) e⟩
 rcases z1 with⟨q1,p,q,q2⟩ | ⟨T,f,o,q1,q2,q3,q4⟩
 · exact .inl ⟨k _ _ (ne _ (by simp)) q1,p,q,k _ _ hS3 q2⟩
 · exact .inr ⟨T,f,o,k _ _ (ne _ (by simp)) q1,q2,q3,k _ _ q3 q4⟩
theorem zRv {X:Cx}{pins:List (Addr×Obj)}{σ:St}{H:Hp}{s:Shared}(I:Inv X pins σ H s){c d:Addr}{v:List V}(hf:nN X pins H c)(hd:SqL X.K H d v):d≠c:=fun z=>by
 have e:=hf.1
 rcases hd with(hd | ⟨ob,hd⟩) | hd
 · rw[z,e] at hd;cases hd
 · rw[z,e] at hd;cases hd
 · obtain⟨ob,_,_,hk,_⟩:=hd
   have e3:=I.ok.mod.kin d ob hk
   obtain⟨_,q1,_,q3,_⟩:=hf
   rcases q3 with q3 | q3
   · exact I.ok.noex d ob e3 (z ▸ q3)
   · exact absurd (Wu (Qy (I.ok.bs d ob e3).1) (z ▸ q3)) (Wa _)
theorem zSO {X:Cx}{pins:List (Addr×Obj)}{σ:St}{A:Around}(hh:A.handled=none){n a b S:Addr}{G0 H0:Hp}{ds es:List D}{us ws:List V}{res:Value}{R:Result->Shared->Prop}
   (ha:SqL X.K G0 a us) (ra:Reps X.K G0 ds us) (hb:SqL X.K G0 b ws) (rb:Reps X.K G0 es ws) (hS:S∉[n+4,n+2,n+3,n,n+1]) (hlen:(rF ds es).length<=1000) :
   ∀(k i:Nat) (s:Shared) (H G:Hp) (acc:Array Value) (c:Nat) (vs:List V),Inv X pins σ H s->(∀d∈S::[n+4,n+2,n+3,n,n+1],nN X pins H d)->Step G0 H0 G H->Reps X.K G ((rF ds es).take i) vs->ZSt s.heap n a b S i ->
     s.heap.get? S=some { cls:=.type "list",dict:=none,data:=.seq acc c,slots:=#[] }->Vals vs acc.toList->i+k=(rF ds es).length ->
     (∀s' H' G' acc' c' vs',Inv X pins σ H' s'->Step G0 H0 G' H'->Reps X.K G' (rF ds es) vs'->Vals vs' acc'.toList->s'.heap.get? S=some { cls:=.type "list",dict:=none,data:=.seq acc' c',slots:=#[] }->R (.ok (.ret res)) s') ->
     codeAny (model X.prog X.w) A (.builtin "list.extend.loop" ⟨[.ref S,.ref (n+4),res],[]⟩) R s:=by
 intro k
 have neS:∀c∈[n+4,n+2,n+3,n,n+1],c≠S:=fun c hc z=>hS (z ▸ hc)
 induction k with
 | zero =>
   intro i s H G acc c vs I hf st rv z hs hv hi hR
   refine Tl F.entry_extend_loop ?_
   rw[Ti F.plain_extend_loop _]
   show wpAny _ A.in1 (pyNext (.ref (n+4)) >>= _) _ _ s
   have hqa:=st.sub.seq (st.gg.seq ha)
   have hqb:=st.sub.seq (st.gg.seq hb)
   obtain⟨its,rva,pa,_⟩:=I.list hqa
   obtain⟨jts,rvb,pb,_⟩:=I.list hqb
   have hl:=zXo ds es
   have la:=ra.length
   have lb:=rb.length
   have lva:=rva.length
   have lvb:=rvb.length
   have hend:its.toArray[i]?=none∨jts.toArray[i]?=none:=by
     rcases Nat.lt_or_ge i its.length with q | q
     · exact .inr (by simp;omega)
     · exact .inl (by simp;omega)
   have ap:∀c∈[n+4,n+2,n+3,n,n+1],∀v d,SqL X.K H d v->d≠c:=fun c hc v d q=>zRv I (hf c (Qi _ hc)) q
   have D:ZipApart (n+4) (n+2) (n+3) n (n+1) a b:=⟨zne 2 4 (by decide),zne 3 4 (by decide),zne 0 4 (by decide),zne 1 4 (by decide),zne 2 3 (by decide),zne 2 0 (by decide),zne 2 1 (by decide),zne 3 0 (by decide),zne 3 1 (by decide),zne 0 1 (by decide),ap _ (by simp) us a hqa,ap _ (by simp) us a hqa,ap _ (by simp) us a hqa,ap _ (by simp) us a hqa,ap _ (by simp) ws b hqb,ap _ (by simp) ws b hqb,ap _ (by simp) ws b hqb,ap _ (by simp) ws b hqb⟩
   have fin:∀h':Heap,(∀c o,c∉[n+4,n+2,n+3,n,n+1]->s.heap.get? c=some o->h'.get? c=some o)->R (.ok (.ret res)) { s with heap:=h' }:=fun h' kk=>by
     have I2:Inv X pins σ H { s with heap:=h' }:=I.turnedL (t':=s.toks) kk fun d hd=>hf d (Qi _ hd)
     rw[show(rF ds es).take i=rF ds es from Uy (by omega)] at rv
     exact hR _ H G acc c vs I2 st rv hv (kk _ _ hS hs)
   obtain⟨z1,z2,z3,z4⟩:=z
   refine Qe ?_
   rcases z1 with⟨q1,p,q,q2⟩ | ⟨T,f,o,q1,q2,q3,q4⟩
   · exact wpAny_pyNext_zip_end hh D q1 z2 q2 z3 z4 pa.isList pb.isList hend fun h' hk=>Qa (fin h' fun c o hc e=>hk c o (fun z=>hc (by simp[z])) (fun z=>hc (by simp[z])) (fun z=>hc (by simp[z])) (fun z=>hc (by simp[z])) e)
   · exact zZw hh D q1 q4 z2 z3 z4 pa.isList pb.isList hend fun h' hk=>Qa (fin h' fun c o hc e=>hk c o (fun z=>hc (by simp[z])) (fun z=>hc (by simp[z])) (fun z=>hc (by simp[z])) e)
 | succ k ih =>
   intro i s H G acc c vs I hf st rv z hs hv hi hR
   refine Tl F.entry_extend_loop ?_
   rw[Ti F.plain_extend_loop _]
   show wpAny _ A.in1 (pyNext (.ref (n+4)) >>= _) _ _ s
   have hqa:=st.sub.seq (st.gg.seq ha)
   have hqb:=st.sub.seq (st.gg.seq hb)
   obtain⟨its,rva,pa,_⟩:=I.list hqa
   obtain⟨jts,rvb,pb,_⟩:=I.list hqb
   have ap:∀c∈[n+4,n+2,n+3,n,n+1],∀v d,SqL X.K H d v->d≠c:=fun c hc v d q=>zRv I (hf c (Qi _ hc)) q
   have D:ZipApart (n+4) (n+2) (n+3) n (n+1) a b:=⟨zne 2 4 (by decide),zne 3 4 (by decide),zne 0 4 (by decide),zne 1 4 (by decide),zne 2 3 (by decide),zne 2 0 (by decide),zne 2 1 (by decide),zne 3 0 (by decide),zne 3 1 (by decide),zne 0 1 (by decide),ap _ (by simp) us a hqa,ap _ (by simp) us a hqa,ap _ (by simp) us a hqa,ap _ (by simp) us a hqa,ap _ (by simp) ws b hqb,ap _ (by simp) ws b hqb,ap _ (by simp) ws b hqb,ap _ (by simp) ws b hqb⟩
   have hlt:i < (rF ds es).length:=by omega
   obtain⟨x,y,e1,e2,e3⟩:=zWD (Qs hlt)
   obtain⟨v,f1,r1⟩:=ra.get e1
   obtain⟨u,f2,r2⟩:=rb.get e2
   obtain⟨v',g1,q1⟩:=rva.get f1
   obtain⟨u',g2,q2⟩:=rvb.get f2
   have lac:acc.size=i:=by
     have h1:=hv.length;have h2:=rv.length;rw[Wm] at h2;have h3:acc.toList.length=acc.size:=Eg;omega
   have fin:∀h':Heap,IsPair h' s.heap.objs.size v' u'->ZSt h' n a b S (i+1)->(∀c o,c∉[n+4,n+2,n+3,n,n+1]->s.heap.get? c=some o->h'.get? c=some o)->∀c',(h'.update S (Obj.mapSeq (·.push (.ref s.heap.objs.size)))).get? S=some { cls:=.type "list",dict:=none,data:=.seq (acc.push (.ref s.heap.objs.size)) c',slots:=#[] } ->
       codeAny (model X.prog X.w) A (.builtin "list.extend.loop" ⟨[.ref S,.ref (n+4),res],[]⟩) R { s with heap:=h'.update S (Obj.mapSeq (·.push (.ref s.heap.objs.size))) }:=fun h' p zz kk c' eS=>by
     have I1:Inv X pins σ (upd H s.heap.objs.size (.tup [v,u])) { s with heap:=h' }:=I.turnedNew (t':=s.toks) kk (fun d hd=>hf d (Qi _ hd)) (Ql _) ⟨by show 2<=sizeLine;exact Ws (wU (by decide)),[v',u'],.cons q1 (.cons q2 .nil),⟨_,p,rfl,_,rfl⟩⟩
     have lt:∀d∈S::[n+4,n+2,n+3,n,n+1],d < s.heap.objs.size:=fun d hd=>by
       obtain⟨z1,z2,⟨o3,z3,_⟩,⟨o4,z4,_⟩⟩:=z
       simp only[Qf,Wt,Eb] at hd
       rcases hd with q | q | q | q | q | q
       · rw[q];exact Qy hs
       · rw[q]
         rcases z1 with⟨q1,_⟩ | ⟨T,f,o,q1,_⟩
         · exact Qy q1
         · exact Qy q1
       · rw[q];exact Qy z2
       · rw[q];exact Nat.lt_of_succ_lt (show n+4 < _ from by
           rcases z1 with⟨q1,_⟩ | ⟨T,f,o,q1,_⟩
           · exact Qy q1
           · exact Qy q1)
       · rw[q];exact Qy z3
       · rw[q];exact Qy z4
     have hf1:∀d∈S::[n+4,n+2,n+3,n,n+1],nN X pins (upd H s.heap.objs.size (.tup [v,u])) d:=fun d hd=>⟨by rw[yS (Wy (lt d hd))];exact(hf d hd).1,(hf d hd).2⟩
     have oth:∀c o,c≠S->h'.get? c=some o->(h'.update S (Obj.mapSeq (·.push (.ref s.heap.objs.size)))).get? c=some o:=fun c o hc e=>(Re _ _ (Ne.symm hc)).trans e
     have I2:Inv X pins σ (upd H s.heap.objs.size (.tup [v,u])) { s with heap:=h'.update S (Obj.mapSeq (·.push (.ref s.heap.objs.size))) }:=Inv.turnedL (s:={ s with heap:=h' }) (h':=h'.update S (Obj.mapSeq (·.push (.ref s.heap.objs.size)))) (t':=s.toks) (fp:=[S]) I1 (fun c o hc e=>oth c o (fun z=>hc (by simp[z])) e) fun d hd=>hf1 d (by
       rw[Ey] at hd;rw[hd];exact Qc)
     have st1:=Step.laid (o:=.tup [v,u]) st.sub I.fresh
     have st2:=st.trans st1
     have r3:Rep X.K (upd G s.heap.objs.size (.tup [v,u])) (.tup [x,y]) (.ref s.heap.objs.size):=xE.mpr ⟨_,_,rfl,.of zN,zG.mpr ⟨_,_,rfl,r1.mono st2.gg,zG.mpr ⟨_,_,rfl,r2.mono st2.gg,yR.mpr rfl⟩⟩⟩
     have r4:Reps X.K (upd G s.heap.objs.size (.tup [v,u])) ((rF ds es).take (i+1)) (vs++[.ref s.heap.objs.size]):=by
       rw[List.take_succ_eq_append_getElem hlt,e3]
       exact(rv.mono st1.gg).snoc r3
     exact ih (i+1) _ _ _ _ _ _ I2 hf1 st2 r4 (zz.keep oth hS (neS _ (by simp))) eS (by rw[Array.toList_push];exact hv.snoc rfl) (by omega) hR
   have lsz:acc.size<=1000:=by omega
   have hsl:1001<=sizeLine:=Ws (wU (by decide))
   obtain⟨z1,z2,z3,z4⟩:=z
   refine Qe ?_
   have nT:∀d∈S::[n+4,n+2,n+3,n,n+1],∀u,s.heap.get? d=some u->d≠s.heap.objs.size:=fun d _ u e=>Wy (Qy e)
   rcases z1 with⟨q1,p,q,q2⟩ | ⟨T,f,o,q1,q2,q3,q4⟩
   · refine wpAny_pyNext_zip_item D q1 z2 q2 z3 z4 pa.isList pb.isList (by simpa using g1) (by simpa using g2) fun h' a1 a2 a3 a4 a5 a6 hk=>?_
     have kk:∀c o,c∉[n+4,n+2,n+3,n,n+1]->s.heap.get? c=some o->h'.get? c=some o:=fun c o hc e=>hk c o (fun z=>hc (by simp[z])) (fun z=>hc (by simp[z])) (fun z=>hc (by simp[z])) (fun z=>hc (by simp[z])) e
     have hS':=kk _ _ hS hs
     have zz:ZSt h' n a b S (i+1):=by
       refine⟨.inr ⟨s.heap.objs.size,false,_,a1,fun hm=>?_,fun z=>?_,a5⟩,hk _ _ D.TIz D.TITO D.TIi1 D.TIi2 z2,a3,a4⟩
       · obtain⟨o3,e3,_⟩:=z3
         obtain⟨o4,e4,_⟩:=z4
         simp only[Qf,Wt,Eb] at hm
         rcases hm with z | z | z | z | z
         · exact absurd (z ▸ Qy q1) (Wa _)
         · exact absurd (z ▸ Qy z2) (Wa _)
         · exact absurd (z ▸ Qy q2) (Wa _)
         · exact absurd (z ▸ Qy e3) (Wa _)
         · exact absurd (z ▸ Qy e4) (Wa _)
       · exact absurd (z ▸ Qy hs) (Wa _)
     show wpAny _ A.in1 (updateSeq S (·.push (.ref s.heap.objs.size)) >>= _) _ _ _
     refine Qe (Yf hS' rfl (Qa ⟨Ya F.plain_extend_loop _,fin h' a5 zz kk _ (Eo _ hS' rfl)⟩) ?_ ?_)
     · show acc.size<=sizeLine;omega
     · show(acc.push _).size<=sizeLine+1;rw[Array.size_push];omega
   · refine zZZ D q1 q4 z2 z3 z4 pa.isList pb.isList (by simpa using g1) (by simpa using g2) fun h' a1 a2 a3 a4 hk=>?_
     have kk:∀c o,c∉[n+4,n+2,n+3,n,n+1]->s.heap.get? c=some o->h'.get? c=some o:=fun c o hc e=>hk c o (fun z=>hc (by simp[z])) (fun z=>hc (by simp[z])) (fun z=>hc (by simp[z])) e
     have hS':=kk _ _ hS hs
     have zz:ZSt h' n a b S (i+1):=⟨.inr ⟨T,true,_,a1,q2,q3,kk _ _ q2 q4⟩,hk _ _ D.TIz D.TIi1 D.TIi2 z2,a2,a3⟩
     show wpAny _ A.in1 (updateSeq S (·.push (.ref s.heap.objs.size)) >>= _) _ _ _
     refine Qe (Yf hS' rfl (Qa ⟨Ya F.plain_extend_loop _,fin h' a4 zz kk _ (Eo _ hS' rfl)⟩) ?_ ?_)
     · show acc.size<=sizeLine;omega
     · show(acc.push _).size<=sizeLine+1;rw[Array.size_push];omega
theorem zVL:typeLookup (.type "zip") "__len__"=pure none:=by rw[Up,Yu];kernel_rfl
theorem zXc:typeLookup (.type "zip") "__length_hint__"=pure none:=by rw[Up,Yu];kernel_rfl
theorem zXu {X:Cx}{pins:List (Addr×Obj)}{σ:St}{A:Around}{E:Value->Shared->Prop}{s:Shared}{Q:List Value->Shared->Prop}(hh:A.handled=none){n a b:Addr}{G0 H0:Hp}{ds es:List D}{us ws:List V}
   (ha:SqL X.K G0 a us) (ra:Reps X.K G0 ds us) (hb:SqL X.K G0 b ws) (rb:Reps X.K G0 es ws) (hlen:(rF ds es).length<=1000) (I:Inv X pins σ H0 s) (hs:Same G0 H0) (hf:∀d∈[n+4,n+2,n+3,n,n+1],nN X pins H0 d)
   (z1:IsZip s.heap (n+4) (n+2) (n+3) .none) (z2:IsPair s.heap (n+2) (.ref n) (.ref (n+1))) (z3:IsPair s.heap (n+3) .none .none) (z4:s.heap.IsListIter n a 0) (z5:s.heap.IsListIter (n+1) b 0)
   (hQ:∀(s':Shared) (H' G':Hp) (acc:Array Value) (vs:List V),Inv X pins σ H' s'->Step G0 H0 G' H'->Reps X.K G' (rF ds es) vs->Vals vs acc.toList->Q acc.toList s'):wpAny (model X.prog X.w) A (collect (.ref (n+4))) Q E s:=by
 have lt:∀d∈[n+4,n+2,n+3,n,n+1],d < s.heap.objs.size:=fun d hd=>by
   obtain⟨o4,e4,_⟩:=z4
   obtain⟨o5,e5,_⟩:=z5
   simp only[Qf,Wt,Eb] at hd
   rcases hd with q | q | q | q | q
   · rw[q];exact Qy z1
   · rw[q];exact Qy z2
   · rw[q];exact Qy z3
   · rw[q];exact Qy e4
   · rw[q];exact Qy e5
 have hS:s.heap.objs.size∉[n+4,n+2,n+3,n,n+1]:=fun hm=>Wa _ (lt _ hm)
 have hSI:s.heap.objs.size≠n+4:=fun e=>hS (by rw[e];simp)
 have hT:∀h':Heap,IsZip h' (n+4) (n+2) (n+3) .none->Shared.TypeIs { s with heap:=h' } (.ref (n+4)) "zip":=fun h' q=>⟨_,q,rfl⟩
 unfold collect
 refine Qe (wpAny_runValue (Tl F.entry_proto_collect ?_))
 rw[Ti F.plain_proto_collect _]
 show wpAny _ A.in1 (newList [] >>= fun l=>again (.builtin "list.__iadd__" ⟨[l,.ref (n+4)],[]⟩)) _ _ s
 refine Qe (Yt ?_)
 refine Qa ⟨Ya F.plain_list_iadd _,Tl F.entry_list_iadd ?_⟩
 rw[Ti F.plain_list_iadd _]
 show wpAny _ A.in1 (Builtin.List.listExtendWith (.ref s.heap.objs.size) (.ref (n+4)) (.ref s.heap.objs.size)) _ _ _
 have y1:IsZip (s.heap.push { cls:=.type "list",data:=.seq ([]:List Value).toArray }) (n+4) (n+2) (n+3) .none:=Qr _ z1
 unfold Builtin.List.listExtendWith
 refine Qe (Ia (hT _ y1) ?_)
 have h1:Builtin.List.listSameRef (.ref s.heap.objs.size) (.ref (n+4))=false:=by simp[Builtin.List.listSameRef,hSI]
 have h2:(Value.type "zip"==Value.type "list")=false:=by decide
 have h3:(Value.type "zip"==Value.type "tuple")=false:=by decide
 simp only[h1,h2,h3,Bool.or_false,Wb,Te]
 refine Qe (wpAny_pyIter_zip y1 ?_)
 refine Qe (Ry ?_)
 unfold Builtin.List.listLengthHint
 refine Qe (Yg (hT _ y1) zVL ?_)
 show wpAny _ A.in1 (specialOf (Value.ref (n+4)) (Str.ofString "__length_hint__") >>= _) _ _ _
 refine Qe (Yg (hT _ y1) zXc ?_)
 refine Qa ?_
 show wpAny _ A.in1 (rule "list.extend.makes-room" >>= fun _=>Builtin.List.listTouch (.ref s.heap.objs.size) >>= fun _ =>
   again (.builtin "list.extend.loop" ⟨[.ref s.heap.objs.size,.ref (n+4),.ref s.heap.objs.size],[]⟩)) _ _ _
 refine Qe (wpAny_rule ?_)
 have hS₁:(s.heap.push { cls:=.type "list",data:=.seq ([]:List Value).toArray }).get? s.heap.objs.size=some { cls:=.type "list",data:=.seq ([]:List Value).toArray }:=Qh _ rfl
 refine Qe ?_
 show wpAny _ A.in1 (updateSeq s.heap.objs.size (·.push .none) >>= fun _=>updateSeq s.heap.objs.size (·.pop)) _ _ _
 refine Qe (Yf hS₁ rfl ?_)
 have hS₂:=Eo (Obj.mapSeq (·.push Value.none)) hS₁ rfl
 refine Yf hS₂ rfl ?_
 have hS₃ := Eo (Obj.mapSeq (·.pop)) hS₂ rfl
 have oth:∀b o,b≠s.heap.objs.size->s.heap.get? b=some o ->
     (((s.heap.push { cls:=.type "list",data:=.seq ([]:List Value).toArray }).update s.heap.objs.size (Obj.mapSeq (·.push Value.none))).update s.heap.objs.size (Obj.mapSeq (·.pop))).get? b=some o :=
   fun b o hb e=>(Re _ _ (Ne.symm hb)).trans ((Re _ _ (Ne.symm hb)).trans (Qr _ e))
 have oth':∀b o,s.heap.get? b=some o->_:=fun b o e=>oth b o (Wy (Qy e)) e
 have I3:Inv X pins σ H0 { s with heap:=((s.heap.push { cls:=.type "list",data:=.seq ([]:List Value).toArray }).update s.heap.objs.size (Obj.mapSeq (·.push Value.none))).update s.heap.objs.size (Obj.mapSeq (·.pop)) }:=I.kept (t':=s.toks) oth'
 refine Qa ⟨Ya F.plain_extend_loop _,zSO (S:=s.heap.objs.size) (A:=A) hh ha ra hb rb hS hlen _ 0 _ H0 G0 _ _ [] I3 (fun d hd=>?_) (Step.refl hs) (yR.mpr rfl) ⟨.inl ⟨oth' _ _ z1,_,_,oth' _ _ z3⟩,oth' _ _ z2,z4.at fun o e=>oth' _ o e,z5.at fun o e=>oth' _ o e⟩ hS₃ .nil (Nat.zero_add _) fun s' H' G' acc' c' vs' J st rv hv hg=>?_⟩
 · rcases Qf.mp hd with q | q
   · rw[q];exact I.fpOk (Ql _) (I.hok.fresh (Ql _))
   · exact hf d q
 · show wpAny _ A (load s.heap.objs.size >>= _) _ _ s'
   refine Qe (wpAny_load hg ?_)
   exact Qa (hQ s' H' G' acc' vs' J st rv hv)
open AutoSeq1 (wpAny_loadPart') in
theorem zWV {X:Cx}{pins:List (Addr×Obj)}{σ:St}{A:Around}{E:Value->Shared->Prop}{s:Shared}{Q:Value->Shared->Prop}(hh:A.handled=none){n a b:Addr}{G0 H0:Hp}{ds es:List D}{us ws:List V}
   (ha:SqL X.K G0 a us) (ra:Reps X.K G0 ds us) (hb:SqL X.K G0 b ws) (rb:Reps X.K G0 es ws) (hlen:(rF ds es).length<=1000) (I:Inv X pins σ H0 s) (hs:Same G0 H0) (hf:∀d∈[n+4,n+2,n+3,n,n+1],nN X pins H0 d)
   (z1:IsZip s.heap (n+4) (n+2) (n+3) .none) (z2:IsPair s.heap (n+2) (.ref n) (.ref (n+1))) (z3:IsPair s.heap (n+3) .none .none) (z4:s.heap.IsListIter n a 0) (z5:s.heap.IsListIter (n+1) b 0)
   (hQ:∀(s':Shared) (H' G':Hp) (acc:Array Value) (vs:List V),Inv X pins σ H' s'->Step G0 H0 G' H'->Reps X.K G' (rF ds es) vs->Vals vs acc.toList->Q (.ref s'.heap.objs.size) { s' with heap:=s'.heap.push { cls:=.type "tuple",data:=.seq acc } }) :
   codeAny (model X.prog X.w) A (.call (.builtin "tuple.__new__") ⟨[.type "tuple",.ref (n+4)],[]⟩) (wants Q E) s:=by
 refine codeAny_of_tree ?_
 show wpAny _ A.in1 (do checkBuiltinCall "tuple.__new__" ⟨[.type "tuple",.ref (n+4)],[]⟩;again (.builtin "tuple.__new__" ⟨[.type "tuple",.ref (n+4)],[]⟩)) _ _ s
 refine Qe (wpAny_of_eq (F.newCall_tuple_1 _) (Qa ⟨Ya F.plain_tuple_new _,Tl F.entry_tuple_new ?_⟩))
 rw[Ti F.plain_tuple_new _]
 have hsub:=sub_tuple_self
 have hinit:=init_tuple_lookup
 have hmh:=madeHere_tuple
 have hTI:s.TypeIs (.ref (n+4)) "zip":=⟨_,z1,rfl⟩
 have hh1:A.in1.handled=none:=by simp[hh]
 wp_walk using Ia hTI,zXu (A:=A.in1) hh1 ha ra hb rb hlen I hs hf z1 z2 z3 z4 z5
 intro s' H' G' acc vs J st rv hv
 show wpAny _ _ (Builtin.Tuple.tupleExact acc.toList.toArray >>= fun v=>ret v) _ _ _
 unfold Builtin.Tuple.tupleExact
 have hsl:1001<=sizeLine:=Ws (wU (by decide))
 have h1:=hv.length
 have h2:=rv.length
 have h3:acc.toList.length=acc.size:=Eg
 refine Qe (Yt ?_ (by show acc.toList.toArray.size<=sizeLine;simp only[Array.toArray_toList];omega))
 refine Qa ?_
 have e:acc.toList.toArray=acc:=by simp
 rw[e]
 exact hQ s' H' G' acc vs J st rv hv
theorem zWW {X:Cx}{pins:List (Addr×Obj)}{σ:St}{A:Around}{E:Value->Shared->Prop}{s:Shared}{Q:Value->Shared->Prop}(hh:A.handled=none){n a b:Addr}{G0 H0:Hp}{ds es:List D}{us ws:List V}
   (ha:SqL X.K G0 a us) (ra:Reps X.K G0 ds us) (hb:SqL X.K G0 b ws) (rb:Reps X.K G0 es ws) (hlen:(rF ds es).length<=1000) (I:Inv X pins σ H0 s) (hs:Same G0 H0) (hf:∀d∈[n+4,n+2,n+3,n,n+1],nN X pins H0 d)
   (z1:IsZip s.heap (n+4) (n+2) (n+3) .none) (z2:IsPair s.heap (n+2) (.ref n) (.ref (n+1))) (z3:IsPair s.heap (n+3) .none .none) (z4:s.heap.IsListIter n a 0) (z5:s.heap.IsListIter (n+1) b 0)
   (hQ:∀(s':Shared) (H' G':Hp) (acc:Array Value) (vs:List V),Inv X pins σ H' s'->Step G0 H0 G' H'->Reps X.K G' (rF ds es) vs->Vals vs acc.toList->Q (.ref s'.heap.objs.size) { s' with heap:=s'.heap.push { cls:=.type "tuple",data:=.seq acc } }) :
   wpAny (model X.prog X.w) A (call (.type "tuple") [.ref (n+4)]) Q E s:=by
 refine callType_codes (Q₁:=fun obj s₁=>s₁.TypeIs obj "tuple"/\Q obj s₁) F.called_tuple (F.typeCall_tuple_1 _) F.entry_object_init
   (zWV (by simp[hh]) ha ra hb rb hlen I hs hf z1 z2 z3 z4 z5 fun s' H' G' acc vs J st rv hv=>⟨⟨_,Qh _ rfl,rfl⟩,hQ s' H' G' acc vs J st rv hv⟩) fun obj s₁ h₁=>?_
 exact⟨h₁.1,F.args_object_init_2 obj _,object_init_meets F.called_tuple.init.lookup F.called_tuple.made (by decide) X.prog X.w A.in1 _ s₁ ⟨h₁.1,rfl,h₁.2⟩⟩
section
variable {X:Cx} {a b e:Expr} {fa fb:Ef} {pos p p2:Pos} {st:Stmt}
def zXO (f g:Ef):Ef:=fun ρ=>(f ρ).bind fun x=>(g ρ).bind fun y=>match x,y with | .lst xs,.lst ys=>if (rF xs ys).length<=1000 then some (.tup (rF xs ys)) else none | _,_=>none
theorem zTJ {pos':Pos}(hc:X.calm=true)(hg:Gl X "tuple")(hm:X.mg "tuple"=none)(hg':Gl X "zip")(hm':X.mg "zip"=none)(ha:PF X a fa)(hb:PF X b fb)(hs:starEach [a,b] X.env=[(false,eval a X.env),(false,eval b X.env)]:=by rfl)(hs2:starEach [b] X.env=[(false,eval b X.env)]:=by rfl)
   (hs3:starEach [Expr.Call (.Name "zip" p2) [a,b] [] pos'] X.env=[(false,eval (.Call (.Name "zip" p2) [a,b] [] pos') X.env)]:=by rfl) :
   PF X (.Call (.Name "tuple" p) [.Call (.Name "zip" p2) [a,b] [] pos'] [] pos) (zXO fa fb):=by
 intro pins s σ H Q I q
 obtain⟨G0,H0,G,ρ,d,good,hf,kk⟩:=q
 unfold zXO at hf
 obtain⟨x,h1,hf⟩:=Qq.mp hf
 obtain⟨y,h2,hf⟩:=Qq.mp hf
 cases x with
 | lst xs =>
   cases y with
   | lst ys =>
     dsimp only at hf
     split at hf
     · rename_i hz
       cases hf
       have hA:=zC ha (zC hb yJ (by rw[hs2];rfl)) (by rw[hs,hs2]) pos' pins s σ H (fun vs H'=>∃a b us ws G',vs=[.ref a,.ref b]/\Step G H G' H'/\SqL X.K G' a us/\Reps X.K G' xs us/\SqL X.K G' b ws/\Reps X.K G' ys ws) I
         ⟨G0,H0,G,ρ,_,good,h1,fun v H1 G1 s1 r1=>⟨G0,H0,G1,ρ,_,good.step s1,h2,fun u H2 G2 s2 r2=>by
           obtain⟨a,us,rfl,q1,q2⟩:=xY.mp (r1.mono s2.gg)
           obtain⟨b,ws,rfl,q3,q4⟩:=xY.mp r2
           exact⟨a,b,us,ws,G2,rfl,s1.trans s2,q1,q2,q3,q4⟩⟩⟩
       refine Call_ (mD I hg hm (by rfl) (Ei (rest:=[]) ?_ (by rw[hs3];rfl) (by rfl)))
       rw[hs3]
       refine Ev (Call_ (mD I hg' hm' (by rfl) (Ei (thn hA fun us s1 ⟨vs,H1,I1,r1,l1,l2,ws,zs,G1,e1,st1,q1,q2,q3,q4⟩=>?_) (by rw[hs,hs2]) (by rw[hs2];rfl))))
       subst e1
       obtain⟨u,u',rfl,ru,ru'⟩:=zUO r1
       cases ru
       cases ru'
       obtain⟨its,rv,p1,_⟩:=I1.list (st1.sub.seq q1)
       obtain⟨jts,rv',p2,_⟩:=I1.list (st1.sub.seq q3)
       refine call_zip_2 p1.isList p2.isList fun h' z1 z2 z3 z4 z5 _ hk=>?_
       have I2:Inv X pins σ H1 { s1 with heap:=h' }:=I1.kept (t':=s1.toks) hk
       refine Yq ?_
       refine zWW (I.ok.hd hc) q1 q2 q3 q4 hz I2 st1.sub (fun d hd=>?_) z1 z2 z3 z4 z5 fun s' H' G' acc vs J st rv hv=>?_
       · have hb':s1.heap.objs.size<=d:=by
           simp only[Qf,Wt,Eb] at hd
           rcases hd with z | z | z | z | z<;>(rw[z];first | exact Ql _ | exact Nat.le_add_right _ _)
         exact I1.fpOk hb' (I1.hok.fresh hb')
       · have hl:=rv.length
         have hsl:1001<=sizeLine:=Ws (wU (by decide))
         have I3:Inv X pins σ (upd H' s'.heap.objs.size (.tup vs)) { s' with heap:=s'.heap.push { cls:=.type "tuple",data:=.seq acc } } :=
           J.laid (t':=s'.toks) (fun b o e=>Qr _ e) (Ql _) (show ObjOk X.prog X.w _ _ _ (.tup vs) from⟨by omega,acc.toList,hv,by have:=IsTup.new s'.heap acc;simpa using this⟩)
         have fr:H' s'.heap.objs.size=none:=J.hok.fresh (Ql _)
         have s4:=Step.laid (o:=.tup vs) st.sub fr
         exact⟨.ref s'.heap.objs.size,_,I3,rfl,kk _ _ _ ((st1.trans st).trans s4) (xE.mpr ⟨_,_,rfl,.of zN,rv.mono s4.gg⟩)⟩
     · cases hf
   | _=>cases hf
 | _=>cases hf
def zWE (x:Str)(l:Int):Str:=⟨((Builtin.Str.strSliceIndices (some l) none 2 x.length).filterMap (x.cps[·]?)).toArray⟩
def zVa (f fl fs:Ef):Ef:=fun ρ=>(f ρ).bind fun d=>(xW fl ρ).bind fun l=>(xW fs ρ).bind fun k=>match d,l,k with | .str x,some i,some j=>if j=2/\(zWE x i).length<=lim then some (.str (zWE x i)) else none | _,_,_=>none
theorem zW9 {lo st:Expr}{fl fs:Ef}(ha:PF X a fa)(hl:PF X lo fl)(hst:PF X st fs):PF X (.Subscript a (.Slice (some lo) none (some st) p2) pos) (zVa fa fl fs):=by
 intro pins s σ H Q I q
 obtain⟨G0,H0,G,ρ,d,good,hf,kk⟩:=q
 unfold zVa at hf
 obtain⟨x,h1,hf⟩:=Qq.mp hf
 obtain⟨l,h2,hf⟩:=Qq.mp hf
 obtain⟨k,h3,hf⟩:=Qq.mp hf
 cases x with
 | str z=>cases l with
  | none=>cases hf
  | some i=>cases k with
   | none=>cases hf
   | some j =>
    dsimp only at hf
    split at hf
    · rename_i hj
      obtain⟨rfl,hz⟩:=hj
      cases hf
      refine Subscript_ (thn (ha pins s σ H (fun v H1=>∃G1,Step G H G1 H1/\v = .str z) I ⟨G0,H0,G,ρ,_,good,h1,fun v H1 G1 s1 r1=>⟨G1,s1,yU.mp r1⟩⟩) fun v s1 ⟨x,H1,I1,r1,G1,st1,e1⟩=>?_)
      subst e1
      obtain⟨t,rfl⟩:=r1
      refine wpAny_Slice (thn (uS hl pins s1 σ H1 (fun o H2=>∃G2,Step G H G2 H2/\o=some i) I1 ⟨G0,H0,G1,ρ,_,good.step st1,h2,fun H2 G2 s2=>⟨G2,st1.trans s2,rfl⟩⟩) fun vl s2 ⟨l',H2,I2,pl,G2,st2,e2⟩=>?_)
      subst e2
      rw[evalPart_none]
      refine Qa (thn (uS hst pins s2 σ H2 (fun o H3=>∃G3,Step G H G3 H3/\o=some 2) I2 ⟨G0,H0,G2,ρ,_,good.step st2,h3,fun H3 G3 s3=>⟨G3,st2.trans s3,rfl⟩⟩) fun vk s3 ⟨k',H3,I3,pk,G3,st3,e3⟩=>?_)
      subst e3
      cases pl with
      | int _ ti =>
        cases pk with
        | int _ tk =>
          have I4:Inv X pins σ H3 { s3 with heap:=s3.heap.push { cls:=.type "slice",data:=.fields #[.int i ti,.none,.int 2 tk] } }:=I3.kept (t':=s3.toks) fun b ob q=>Qr _ q
          have fin:∀t' k,EP X pins σ Q (.str (zWE z i) t') { ({ s3 with heap:=s3.heap.push { cls:=.type "slice",data:=.fields #[.int i ti,.none,.int 2 tk] } }:Shared) with toks:=k }:=fun t' k=>⟨.str (zWE z i),H3,I4.tok k,⟨t',rfl⟩,kk _ _ _ st3 (yU.mpr rfl)⟩
          show wpAny (model X.prog X.w) X.A (subscriptTail a (.Slice (some lo) none (some st) p2) (.str z t) (.ref s3.heap.objs.size)) (EP X pins σ Q) X.xe _
          refine tail_any (ops:=[.ref s3.heap.objs.size,.str z t]) (T:="str") (Ye _ z t) F.slot_str_getitem.lookup ?_ (by with_unfolding_all rfl)
          exact Rh (l:=some (i,ti)) (u:=none) (st:=some (2,tk)) ⟨_,Qh _ rfl,rfl,rfl⟩ rfl (show((Made.str (zWE z i)).post _ _) from⟨Ws (wU hz),fin _ _⟩)
    · cases hf
 | _=>cases hf
end
end L2
namespace L2
open PySem PySem.Spec PyProof.Rows
open PySem.W
section
variable {prog:Program} {w:World} {A:Around} {E:Value->Shared->Prop} {h:Heap} {g:Array GenState} {d:Drawn} {t:Nat} {os:OsState} {a C:Addr} {o:Obj} {K:Frag}
theorem zPy {R:Result->Shared->Prop}(X:K.In h)(hx:h.get? a=some o)(hc:o.cls = .ref C)(g3:subIn K (.ref C) (.type "object")=some true)(hq:R (.ok (.ret (.ref C))) ⟨h,g,d,t,os⟩) :
   codeAny (model prog w) A (.call (.builtin "getset_descriptor.__get__") ⟨[.builtin "object.__class__",.ref a,.ref C],[]⟩) R ⟨h,g,d,t,os⟩:=by
 have L3:=looks_subIn (M:=model prog w) X g3
 have hT5:(⟨h,g,d,t,os⟩:Shared).TypeIs (.builtin "object.__class__") "getset_descriptor":=F.typeOf_object_class
 have e8:(".".intercalate ("object.__class__".cutAt '.').dropLast)="object":=F.owner_object_class
 refine Yo F.slot_gs_get.plain F.entry_gs_get (F.slot_gs_get.check _ _ _ _ _ _ _ _ hT5 (F.args_gs_get _ _ _) ?_)
 repeat (any_goals (first | assumption | (with_reducible refine Ww hx ?_;rw[hc]) | wp_step))
 rw[e8]
 refine L3.at ?_
 repeat (any_goals (first | assumption | (with_reducible refine Ww hx ?_;rw[hc]) | wp_step))
 refine⟨Uv _ (by decide +kernel),Tl F.entry_object_class ?_⟩
 repeat (any_goals (first | assumption | (with_reducible refine Ww hx ?_;rw[hc]) | wp_step))
theorem zS2 {tk:Tok}{Q:Fin->Shared->Prop}(X:K.In h)(hx:h.get? a=some o)(hc:o.cls = .ref C)(g2:findIn K (.ref C) "__class__"=some (some (.builtin "object.__class__")))(g3:subIn K (.ref C) (.type "object")=some true)(hq:Q (.done (.ret (.ref C))) ⟨h,g,d,t,os⟩) :
   wpAny (model prog w) A (Builtin.«object.__getattribute__» ⟨[.ref a,.str "__class__" tk],[]⟩) Q E ⟨h,g,d,t,os⟩:=by
 have L2:=looks_findIn (M:=model prog w) X g2
 have hT5:(⟨h,g,d,t,os⟩:Shared).TypeIs (.builtin "object.__class__") "getset_descriptor":=F.typeOf_object_class
 have f5:=F.typeOf_object_class
 have f6:=F.slot_gs_get.lookup
 have f7:=F.slot_gs_set.lookup
 repeat (any_goals (first | assumption | (with_reducible refine Ww hx ?_;rw[hc]) | with_reducible refine L2.at ?_ | wp_step))
 refine zPy X hx hc g3 ?_
 repeat (any_goals (first | assumption | wp_step))
theorem zWq {M:Model}{id:String}{rest:List Value}{Q:Unit->Shared->Prop}{n:String}(X:K.In h)(hx:h.get? a=some o)(hc:o.cls = .ref C)(hk:builtinKind id=some .slot)(hsp:splitId id=some ("BaseException",n))(g4:subIn K (.ref C) (.type "BaseException")=some true)
   (ha:argsOk id ⟨.ref a::rest,[]⟩) (hq:Q () ⟨h,g,d,t,os⟩):wpAny M A (checkBuiltinCall id ⟨.ref a::rest,[]⟩) Q E ⟨h,g,d,t,os⟩:=by
 have L4:=looks_subIn (M:=M) X g4
 simp only[checkBuiltinCall,hk,hsp]
 refine Qe ?_
 unfold isInstance
 repeat (first | (with_reducible refine Ww hx ?_;rw[hc]) | with_reducible refine L4.at ?_ | wp_step)
 cases hsig:Manifest.signature? id with
 | none=>exact Qa hq
 | some sig =>
   simp only[argsOk,hsig] at ha
   show wpAny M A (Bind.checkArgs id sig ⟨.ref a::rest,[]⟩) Q E _
   rw[show Bind.checkArgs id sig ⟨.ref a::rest,[]⟩=pure () from ha]
   exact Qa hq
theorem zWA:builtinKind "BaseException.__getattribute__"=some .slot:=by decide +kernel
theorem zYZ:splitId "BaseException.__getattribute__"=some ("BaseException","__getattribute__"):=by decide +kernel
theorem zQG {tk:Tok}{R:Result->Shared->Prop}(X:K.In h)(hx:h.get? a=some o)(hc:o.cls = .ref C)(g2:findIn K (.ref C) "__class__"=some (some (.builtin "object.__class__")))(g3:subIn K (.ref C) (.type "object")=some true)(g4:subIn K (.ref C) (.type "BaseException")=some true)
   (hq:R (.ok (.ret (.ref C))) ⟨h,g,d,t,os⟩):codeAny (model prog w) A (.call (.builtin "BaseException.__getattribute__") ⟨[.ref a,.str "__class__" tk],[]⟩) R ⟨h,g,d,t,os⟩:=by
 have ha:=F.args_bexc_ga (.ref a) (.str "__class__" tk)
 refine Yo F.excAttr_ValueError.ga.plain F.entry_bexc_ga ?_
 refine zWq (id:="BaseException.__getattribute__") (rest:=[.str "__class__" tk]) X hx hc zWA zYZ g4 ha ?_
 exact zS2 X hx hc g2 g3 hq
theorem zNQ {tk:Tok}{Q:Value->Shared->Prop}(X:K.In h)(hx:h.get? a=some o)(hc:o.cls = .ref C)(g1:findIn K (.ref C) "__getattribute__"=some (some (.builtin "BaseException.__getattribute__")))(g5:findIn K (.ref C) "__getattr__"=some none)(g2:findIn K (.ref C) "__class__"=some (some (.builtin "object.__class__")))(g3:subIn K (.ref C) (.type "object")=some true)(g4:subIn K (.ref C) (.type "BaseException")=some true)
   (hq:Q (.ref C) ⟨h,g,d,t,os⟩):wpAny (model prog w) A (getAttrBy (.ref a) (.str "__class__" tk) false) Q E ⟨h,g,d,t,os⟩:=by
 have L1:=looks_findIn (M:=model prog w) X g1
 have L5:=looks_findIn (M:=model prog w) X g5
 have f3:=F.excAttr_ValueError.ga.bind (.ref a)
 repeat (any_goals (first | assumption | (with_reducible refine Ww hx ?_;rw[hc]) | with_reducible refine L1.at ?_ | with_reducible refine L5.at ?_ | wp_step))
 refine zQG X hx hc g2 g3 g4 ?_
 repeat (any_goals (first | assumption | wp_step))
theorem zQ3 {Q:Option Value->Shared->Prop}(X:K.In h)(hx:h.get? a=some o)(hc:o.cls = .ref C)(g1:findIn K (.ref C) "__getattribute__"=some (some (.builtin "BaseException.__getattribute__")))(g5:findIn K (.ref C) "__getattr__"=some none)(g2:findIn K (.ref C) "__class__"=some (some (.builtin "object.__class__")))(g3:subIn K (.ref C) (.type "object")=some true)(g4:subIn K (.ref C) (.type "BaseException")=some true)
   (hq:Q (some (.ref C)) ⟨h,g,d,t+1,os⟩):wpAny (model prog w) A (getAttr? (.ref a) "__class__") Q E ⟨h,g,d,t,os⟩:=by
 unfold getAttr? getAttrBy?
 repeat (any_goals (first | assumption | with_reducible apply zNQ X hx hc g1 g5 g2 g3 g4 | wp_step))
theorem zXi (hcl:(clsIn K C).isSome=true)(g1:findIn K (.ref C) "__getattribute__"=some (some (.builtin "BaseException.__getattribute__")))(g5:findIn K (.ref C) "__getattr__"=some none)(g2:findIn K (.ref C) "__class__"=some (some (.builtin "object.__class__")))(g3:subIn K (.ref C) (.type "object")=some true)(g4:subIn K (.ref C) (.type "BaseException")=some true) :
   KitX K (.ref a) (.ref C) (fun h=>∃o,h.get? a=some o/\o.cls = .ref C) where
 ty:=fun M h X ⟨o,e1,e2⟩=>by
   intro A' Q' E' s' k q
   unfold typeOf
   obtain⟨h',g',d',t',os'⟩:=s'
   repeat (first | (with_reducible refine Ww (k _ _ e1) ?_;rw[e2]) | wp_step)
   exact q
 it:=fun M h X _=>by
   unfold clsIn at hcl
   split at hcl
   · rename_i c' d' cd' sl' ho
     intro A' Q' E' s' k q
     unfold isType loadHead
     exact Qe (Ow (k _ _ (X _ _ ho)) (Qa q))
   · cases hcl
 ne:=fun h tp dd its n sl X htp=>by
   refine Iy.mpr fun q=>?_
   have e:C=tp:=Value.ref.inj (Eh.mp q)
   subst e
   unfold clsIn at hcl
   split at hcl
   · rename_i c' d' cd' sl' ho
     have z:=(X _ _ ho).symm.trans htp
     cases z
   · cases hcl
 ca:=fun {prog w A E Q s} X p k=>by
   obtain⟨o,e1,e2⟩:=p
   obtain⟨h',g',d',t',os'⟩:=s
   exact zQ3 X e1 e2 g1 g5 g2 g3 g4 k
end
end L2
namespace L2
open PySem PySem.Spec PySem.W
section
variable {prog:Program} {w:World} {A:Around} {E:Value->Shared->Prop} {h:Heap} {g:Array GenState} {d:Drawn} {t:Nat} {os:OsState} {K:Frag}
variable {nm q:Str} {C N:Addr} {bs bm:List Value} {hdct:Bool} {sn:List Str} {sub:List Value} {ab:Bool} {col:Option Bool} {dd:Option Addr} {k0 k1 k2 k3 k5:Option Value}
theorem zRA {M:Model}{rest:List Value}{Q:Unit->Shared->Prop}(X:K.In h)(hC:h.get? C=some (excClassObj nm q C N bs bm hdct sn sub ab col dd k0 k1 k2 k3 k5 "ValueError.__new__"))(hb:bm.contains (.type "ValueError")=true)
   (hq:Q () ⟨h,g,d,t,os⟩):wpAny M A (checkBuiltinCall "ValueError.__new__" ⟨.ref C::rest,[]⟩) Q E ⟨h,g,d,t,os⟩:=by
 have hcont:(Value.ref C::bm).contains (.type "ValueError")=true:=by rw[Ru,hb,Bool.or_true]
 have hstar:=F.excBase_ValueError.noStar
 simp only[checkBuiltinCall,F.excBase_ValueError.newKind,F.excBase_ValueError.newSplit,F.excBase_ValueError.newRow]
 repeat (first | refine Ww hC ?_ | (refine Yh hC ?_;rw[hcont]) | refine wpAny_staticBase_exc hC ?_ | refine wpAny_madeBy_exc hC ?_ | simp only[bne_self_eq_false,Wb,Te] | wp_step)
 exact hq
theorem zO0 {R:Result->Shared->Prop}{rest:List Value}(hC:h.get? C=some (excClassObj nm q C N bs bm hdct sn sub ab col dd k0 k1 k2 k3 k5 "ValueError.__new__"))(hb:bm.contains (.type "ValueError")=true)(hA:bm.contains (.type "AttributeError")=false)(hN:bm.contains (.type "NameError")=false)
   (hq:R (.ok (.ret (.ref (h.objs.size+1)))) ⟨(h.push { cls:=.type "tuple",data:=.seq rest.toArray }).push { cls:=.ref C,data:=.fields #[.ref h.objs.size,.none,.none,.none,.bool false,.none] },g,d,t,os⟩) (hrest:rest.length<=sizeLine) :
   codeAny (model prog w) A (.builtin "ValueError.__new__" ⟨.ref C::rest,[]⟩) R ⟨h,g,d,t,os⟩:=by
 have hends:=F.excBase_ValueError.ends
 have cB:(Value.ref C::bm).contains (.type "ValueError")=true:=by rw[Ru,hb,Bool.or_true]
 have cA:(Value.ref C::bm).contains (.type "AttributeError")=false:=by rw[Ru,hA];rfl
 have cN:(Value.ref C::bm).contains (.type "NameError")=false:=by rw[Ru,hN];rfl
 refine codeAny_builtinAt F.excBase_ValueError.entry ?_
 unfold Builtin.«BaseException.__new__»
 refine wpAt_bind ?_
 show wpAt _ _ _ (stack >>= _) _ _ _
 refine wpAt_bind (wpAt_stack fun p below=>wpAt_of_wpAny ?_)
 wp_walk
 refine wpAt_of_wpAny ?_
 rw[F.excBase_ValueError.owner]
 repeat (first | with_reducible refine wpAny_madeHere_exc F.excBase_ValueError.canon hC ?_ | with_reducible refine Ww hC ?_ | (with_reducible refine Yh hC ?_;first | rw[cB] | rw[cA] | rw[cN]) | wp_step)
 show R _ _
 rw[Tp]
 exact hq
theorem zX6 {Q:Fin->Shared->Prop}{rest:List Value}{fI:Addr}{oI:Obj}(X:K.In h)(hC:h.get? C=some (excClassObj nm q C N bs bm hdct sn sub ab col dd k0 k1 k2 k3 k5 "ValueError.__new__"))(hb:bm.contains (.type "ValueError")=true)(hA:bm.contains (.type "AttributeError")=false)(hN:bm.contains (.type "NameError")=false)
   (hi:findIn K (.ref C) "__init__"=some (some (.ref fI))) (hfI:h.get? fI=some oI) (hfc:oI.cls = .type "function") (hrest:rest.length<=sizeLine)
   (hq:wpAny (model prog w) A (call (.ref fI) (.ref (h.objs.size+1)::rest)) (fun r s'=>r = .none/\Q (.done (.ret (.ref (h.objs.size+1)))) s') E ⟨(h.push { cls:=.type "tuple",data:=.seq rest.toArray }).push { cls:=.ref C,data:=.fields #[.ref h.objs.size,.none,.none,.none,.bool false,.none] },g,d,t,os⟩) :
   wpAny (model prog w) A (Builtin.«type.__call__» ⟨.ref C::rest,[]⟩) Q E ⟨h,g,d,t,os⟩:=by
 repeat (first | with_reducible refine Ww hC ?_ | with_reducible refine wpAny_madeBy_exc hC ?_ | wp_step)
 refine codeAny_call_builtin_code (Uv _ F.excBase_ValueError.quiet) (zRA X hC hb ?_)
 refine zO0 hC hb hA hN ?_ hrest
 show wpAny _ _ _ _ _ _
 have keep:∀b o,h.get? b=some o->((h.push { cls:=.type "tuple",data:=.seq rest.toArray }).push { cls:=.ref C,data:=.fields #[.ref h.objs.size,.none,.none,.none,.bool false,.none] }).get? b=some o:=fun b o e=>Qr _ (Qr _ e)
 have hC₁:=keep _ _ hC
 have L1:=(looks_findIn (M:=model prog w) X hi).keeps keep
 have hget:((h.push { cls:=.type "tuple",data:=.seq rest.toArray }).push { cls:=.ref C,data:=.fields #[.ref h.objs.size,.none,.none,.none,.bool false,.none] }).get? (h.objs.size+1)=some
     { cls:=.ref C,data:=.fields #[.ref h.objs.size,.none,.none,.none,.bool false,.none] }:=by heap_get
 have hcC:(Value.ref C::bm).contains (.ref C)=true:=by simp
 unfold isInstance
 repeat (first | with_reducible refine Ww hget ?_ | (with_reducible refine Yh hC₁ ?_;rw[hcC]) | wp_step)
 show wpAny _ _ (typeLookup (.ref C) _) _ _ _
 refine L1.at ?_
 refine Ry (Qe ?_)
 unfold bindSpecial
 refine Qe (Ia (T:="function") ⟨_,keep _ _ hfI,hfc⟩ ?_)
 rw[Wr (by decide)]
 refine Qa (Qe (Eu hq (fun r s' hr=>?_) fun _ _ x=>x))
 obtain⟨rfl,hQ⟩:=hr
 wp_walk
 exact hQ
theorem zQe {Q:Value->Shared->Prop}{rest:List Value}{fI:Addr}{oI:Obj}(X:K.In h)(hC:h.get? C=some (excClassObj nm q C N bs bm hdct sn sub ab col dd k0 k1 k2 k3 k5 "ValueError.__new__"))(hb:bm.contains (.type "ValueError")=true)(hA:bm.contains (.type "AttributeError")=false)(hN:bm.contains (.type "NameError")=false)
   (hi:findIn K (.ref C) "__init__"=some (some (.ref fI))) (hfI:h.get? fI=some oI) (hfc:oI.cls = .type "function") (hrest:rest.length<=sizeLine)
   (hq:wpAny (model prog w) (A.under (.builtin "type.__call__" ⟨.ref C::rest,[]⟩)) (call (.ref fI) (.ref (h.objs.size+1)::rest)) (fun r s'=>r = .none/\Q (.ref (h.objs.size+1)) s') E ⟨(h.push { cls:=.type "tuple",data:=.seq rest.toArray }).push { cls:=.ref C,data:=.fields #[.ref h.objs.size,.none,.none,.none,.bool false,.none] },g,d,t,os⟩) :
   wpAny (model prog w) A (call (.ref C) rest) Q E ⟨h,g,d,t,os⟩:=by
 have f1:=tc_lookup
 have f2:=tc_bind (.ref C)
 have hT:(⟨h,g,d,t,os⟩:Shared).TypeIs (.ref C) "type":=⟨_,hC,rfl⟩
 refine Iw (codeAny_of_tree ?_)
 show wpAny _ _ (callAny (.ref C) _) _ _ _
 repeat (any_goals (first | assumption | with_reducible refine Ww hC ?_ | wp_step))
 refine⟨rfl,?_⟩
 exact codeAny_call_builtin_at (Uv _ (by decide +kernel)) entry_typeCall (wpAny_check_type_call_sub hC (zX6 X hC hb hA hN hi hfI hfc hrest hq))
end
end L2
namespace L2
open PySem PySem.Spec PySem.W
open Builtin Builtin.ObjectAttr
def sV:List Value->Bool
 | []=>false
 | v::r=>(v::r)==[.type "ValueError",.type "Exception",.type "BaseException",.type "object"]||match v with | .ref _=>sV r | _=>false
theorem fT (self:Value):∀l:List Value,sV l=true->refuseLoop self "__setattr__" l=pure ()
 | [],e=>by cases e
 | v::r,e=>by
   unfold sV at e
   rcases Bool.or_eq_true_iff.mp e with q | q
   · rw[Eh.mp q];exact F.store_ValueError.passes self
   · cases v with
     | ref a=>rw[Oe];exact fT self r q
     | _=>cases q
section
variable {prog:Program} {w:World} {A:Around} {E:Value->Shared->Prop} {h:Heap} {g:Array GenState} {d:Drawn} {t:Nat} {os:OsState} {K:Frag}
variable {nm q:Str} {C N x:Addr} {bs bm:List Value} {sn:List Str} {sub:List Value} {ab:Bool} {col:Option Bool} {dd:Option Addr} {k0 k1 k2 k3 k5:Option Value} {newId:String} {name:Str} {v:Value} {o:Obj}
theorem zSE {M:Model}{id owner n:String}{rest:List Value}{Q:Unit->Shared->Prop}(X:K.In h)(hx:h.get? x=some o)(hc:o.cls = .ref C)(hk:builtinKind id=some .slot)(hsp:splitId id=some (owner,n))(g4:subIn K (.ref C) (.type owner)=some true)
   (ha:argsOk id ⟨.ref x::rest,[]⟩) (hq:Q () ⟨h,g,d,t,os⟩):wpAny M A (checkBuiltinCall id ⟨.ref x::rest,[]⟩) Q E ⟨h,g,d,t,os⟩:=by
 have L4:=looks_subIn (M:=M) X g4
 simp only[checkBuiltinCall,hk,hsp]
 refine Qe ?_
 unfold isInstance
 repeat (first | (with_reducible refine Ww hx ?_;rw[hc]) | with_reducible refine L4.at ?_ | wp_step)
 cases hsig:Manifest.signature? id with
 | none=>exact Qa hq
 | some sig =>
   simp only[argsOk,hsig] at ha
   show wpAny M A (Bind.checkArgs id sig ⟨.ref x::rest,[]⟩) Q E _
   rw[show Bind.checkArgs id sig ⟨.ref x::rest,[]⟩=pure () from ha]
   exact Qa hq
theorem zS4 {tk:Tok}{Q:Fin->Shared->Prop}(X:K.In h)(hC:h.get? C=some (excClassObj nm q C N bs bm true sn sub ab col dd k0 k1 k2 k3 k5 newId))(hp:sV bm=true)(hna:findIn K (.ref C) name=some none)
   (hx:h.get? x=some o) (hc:o.cls = .ref C) (hnc:∀c,o.data ≠ .cls c) (hdn:o.dict=none)
   (hq:∀h' tk',h'.get? x=some { cls:=o.cls,dict:=some h.objs.size,data:=o.data,slots:=o.slots }->h'.Ns1 h.objs.size (fun y=>if y=name then some v else none)->(∀b u,b≠x->h.get? b=some u->h'.get? b=some u)->Q (.done (.ret .none)) ⟨h',g,d,tk',os⟩) :
   wpAny (model prog w) A (Builtin.«object.__setattr__» ⟨[.ref x,.str name tk,v],[]⟩) Q E ⟨h,g,d,t,os⟩:=by
 have hpass:=fT (.ref x) bm hp
 have L1:=looks_findIn (M:=model prog w) X hna
 unfold Builtin.«object.__setattr__»
 repeat (first | rw[refuse_eq] | (rw[Oe,hpass]) | (with_reducible refine Ww hx ?_;rw[hc]) | with_reducible refine wpAny_mroOf_exc hC ?_ | with_reducible refine L1.at ?_ | wp_step)
 rw[hdn,Wj (by simp[typeHasDict])]
 split
 · rename_i hcd
   cases hcd
 split
 · rename_i c hcd
   exact absurd hcd (hnc c)
 · have hx₁:(h.push { cls:=.type "dict",data:=.dict #[] }).get? x=some o:=Qr _ hx
   have hxs:x≠h.objs.size:=Wy (Qy hx)
   refine Qe (wpAny_alloc' (Qe (wpAny_update' hx₁ (Qa ?_))))
   have hgd:((h.push { cls:=.type "dict",data:=.dict #[] }).update x fun o=>{ cls:=o.cls,dict:=some h.objs.size,data:=o.data,slots:=o.slots }).get? h.objs.size=some { cls:=.type "dict",data:=.dict #[] } :=
     (Heap.get?_update_ne _ _ _ _ hxs.symm).trans (Heap.get?_push_at rfl rfl)
   have hnd:((h.push { cls:=.type "dict",data:=.dict #[] }).update x fun o=>{ cls:=o.cls,dict:=some h.objs.size,data:=o.data,slots:=o.slots }).Ns h.objs.size (fun _=>none) :=
     ⟨_,#[],_,hgd,rfl,fun e he=>absurd he (by simp),fun _=>rfl⟩
   show wpAny _ _ (storeInDict h.objs.size (.str name tk) name v) _ _ _
   unfold storeInDict newKeyGuard
   refine Qe (Qa (Qe (wpAny_nsSet1 (Heap.Ns1.of_empty hnd) fun h' hn' hs=>?_)))
   obtain⟨oD,esD,epD,hoD,hdD,hcD⟩:=hn'.count (Within.cons name v Within.nil)
   refine Qe (Ig hoD (by rw[hdD];exact Ih (Wv hcD (by rw[Qo,Rq,Ro];omega))) ?_)
   wp_walk
   refine hq h' _ ?_ hn' fun b u hbx hb=>(hs.2 b (Wy (Qy hb))).trans ((Heap.get?_update_ne _ _ _ _ hbx).trans (Qr _ hb))
   refine(hs.2 x hxs).trans (Eo _ hx₁ ?_)
   have hfr:=(Yc.mp hx).2
   obtain⟨oc,od,odt,osl⟩:=o
   cases odt<;>first | rfl | exact hfr
theorem zQL {tk:Tok}{Q:Fin->Shared->Prop}{dx:Addr}{mA:Str->Option Value}{ns:List Str}(X:K.In h)(hC:h.get? C=some (excClassObj nm q C N bs bm true sn sub ab col dd k0 k1 k2 k3 k5 newId))(hp:sV bm=true)(hna:findIn K (.ref C) name=some none)
   (hx:h.get? x=some o) (hc:o.cls = .ref C) (hdx:o.dict=some dx) (hne:dx≠x) (hns:h.Ns1 dx mA) (hw:Within mA ns) (hsz:ns.length<=1000)
   (hq:∀h' tk',h'.Ns1 dx (fun y=>if y=name then some v else mA y)->(∀b u,b≠dx->h.get? b=some u->h'.get? b=some u)->Q (.done (.ret .none)) ⟨h',g,d,tk',os⟩) :
   wpAny (model prog w) A (Builtin.«object.__setattr__» ⟨[.ref x,.str name tk,v],[]⟩) Q E ⟨h,g,d,t,os⟩:=by
 have hpass:=fT (.ref x) bm hp
 have L1:=looks_findIn (M:=model prog w) X hna
 have hsl:1001<=sizeLine:=Ws (wU (by decide))
 unfold Builtin.«object.__setattr__»
 repeat (first | rw[refuse_eq] | (rw[Oe,hpass]) | (with_reducible refine Ww hx ?_;rw[hc]) | with_reducible refine wpAny_mroOf_exc hC ?_ | with_reducible refine L1.at ?_ | wp_step)
 rw[hdx]
 refine Qa ?_
 show wpAny _ _ (storeInDict dx (.str name tk) name v) _ _ _
 unfold storeInDict newKeyGuard
 refine Qe (Qa (Qe (wpAny_nsSet1 hns fun h' hn' hs=>?_)))
 obtain⟨oD,esD,epD,hoD,hdD,hcD⟩:=hn'.count (Within.cons name v hw)
 refine Qe (Ig hoD (by rw[hdD];exact Ih (Wv hcD (by rw[Qo];omega))) ?_)
 wp_walk
 exact hq h' _ hn' fun b u hb e=>(hs.2 b hb).trans e
theorem zVb {Q:Unit->Shared->Prop}(X:K.In h)(hx:h.get? x=some o)(hc:o.cls = .ref C)(g1:findIn K (.ref C) "__setattr__"=some (some (.builtin "object.__setattr__")))(g3:subIn K (.ref C) (.type "object")=some true)
   (hq:∀A':Around,wpAny (model prog w) A' (Builtin.«object.__setattr__» ⟨[.ref x,.str name t,v],[]⟩) (fun fin s'=>∃h' tk',fin = .done (.ret .none)/\s'=⟨h',g,d,tk',os⟩/\Q () ⟨h',g,d,tk',os⟩) (fun _ _=>False) ⟨h,g,d,t+1,os⟩) :
   wpAny (model prog w) A (setAttr (.ref x) name v) Q E ⟨h,g,d,t,os⟩:=by
 have L1:=looks_findIn (M:=model prog w) X g1
 have f3:=F.store_ValueError.slot.bind (.ref x)
 have ha:=F.store_ValueError.args (.ref x) (.str name t) v
 unfold setAttr callSpecial? specialOf
 repeat (any_goals (first | assumption | (with_reducible refine Ww hx ?_;rw[hc]) | with_reducible refine L1.at ?_ | wp_step))
 refine Yo F.store_ValueError.slot.plain F.store_ValueError.entry ?_
 refine zSE (id:="object.__setattr__") (owner:="object") (rest:=[.str name t,v]) X hx hc F.store_ValueError.kind F.store_ValueError.split g3 ha ?_
 refine Eu (hq _) (fun fin s' z=>?_) fun _ _ z=>z.elim
 obtain⟨h',tk',rfl,rfl,z⟩:=z
 exact Qa (Qa z)
variable {a dx:Addr} {mA:Str->Option Value}
theorem zR8 {tk:Tok}{Q:Fin->Shared->Prop}(X:K.In h)(hC:h.get? C=some (excClassObj nm q C N bs bm true sn sub ab col dd k0 k1 k2 k3 k5 newId))(hx:h.get? a=some o)(hc:o.cls = .ref C)(hnc:∀c,o.data ≠ .cls c)(hna:findIn K (.ref C) name=some none)(hdx:o.dict=some dx)(hns:h.Ns1 dx mA)(hv:mA name=some v)(hq:Q (.done (.ret v)) ⟨h,g,d,t,os⟩) :
   wpAny (model prog w) A (Builtin.«object.__getattribute__» ⟨[.ref a,.str name tk],[]⟩) Q E ⟨h,g,d,t,os⟩:=by
 have L2:=looks_findIn (M:=model prog w) X hna
 have hn:=hns.ns
 unfold Builtin.«object.__getattribute__»
 repeat (first | (with_reducible refine Ww hx ?_;rw[hc]) | with_reducible refine L2.at ?_ | wp_step)
 split
 · rename_i c hcd
   exact absurd hcd (hnc c)
 unfold instanceDict
 repeat (first | (with_reducible refine Ww hx ?_;rw[hc]) | with_reducible refine Ww hC ?_ | wp_step)
 rw[hdx]
 repeat (first | (with_reducible refine wpAny_nsGet hn ?_;rw[hv]) | wp_step)
 exact hq
theorem zQX {tk:Tok}{R:Result->Shared->Prop}(X:K.In h)(hC:h.get? C=some (excClassObj nm q C N bs bm true sn sub ab col dd k0 k1 k2 k3 k5 newId))(hx:h.get? a=some o)(hc:o.cls = .ref C)(hnc:∀c,o.data ≠ .cls c)(hna:findIn K (.ref C) name=some none)(g4:subIn K (.ref C) (.type "BaseException")=some true)(hdx:o.dict=some dx)(hns:h.Ns1 dx mA)(hv:mA name=some v)
   (hq:R (.ok (.ret v)) ⟨h,g,d,t,os⟩):codeAny (model prog w) A (.call (.builtin "BaseException.__getattribute__") ⟨[.ref a,.str name tk],[]⟩) R ⟨h,g,d,t,os⟩:=by
 have ha:=F.args_bexc_ga (.ref a) (.str name tk)
 refine Yo F.excAttr_ValueError.ga.plain F.entry_bexc_ga ?_
 refine zWq (id:="BaseException.__getattribute__") (rest:=[.str name tk]) X hx hc zWA zYZ g4 ha ?_
 exact zR8 X hC hx hc hnc hna hdx hns hv hq
theorem zQq {Q:Value->Shared->Prop}{b:Bool}(X:K.In h)(hC:h.get? C=some (excClassObj nm q C N bs bm true sn sub ab col dd k0 k1 k2 k3 k5 newId))(hx:h.get? a=some o)(hc:o.cls = .ref C)(hnc:∀c,o.data ≠ .cls c)(g1:findIn K (.ref C) "__getattribute__"=some (some (.builtin "BaseException.__getattribute__")))(g5:findIn K (.ref C) "__getattr__"=some none)
   (hna:findIn K (.ref C) name=some none) (g4:subIn K (.ref C) (.type "BaseException")=some true) (hdx:o.dict=some dx) (hns:h.Ns1 dx mA) (hv:mA name=some v) (hh:handedOut v=pure v)
   (hq:Q v ⟨h,g,d,t+1,os⟩):wpAny (model prog w) A (getAttr (.ref a) name b) Q E ⟨h,g,d,t,os⟩:=by
 have L1:=looks_findIn (M:=model prog w) X g1
 have L5:=looks_findIn (M:=model prog w) X g5
 have f3:=F.excAttr_ValueError.ga.bind (.ref a)
 have hx0:(b&&onTheHeap (Value.builtin "BaseException.__getattribute__"))=false:=by cases b<;>rfl
 unfold getAttr getAttrBy
 repeat (any_goals (first | assumption | (with_reducible refine Ww hx ?_;rw[hc]) | with_reducible refine L1.at ?_ | with_reducible refine L5.at ?_ | wp_step))
 refine zQX X hC hx hc hnc hna g4 hdx hns hv ?_
 repeat (any_goals (first | assumption | wp_step))
end
end L2
namespace L2
open PySem PySem.Spec PyProof.Rows
structure XKit (K:PySem.W.Frag)(C:Addr):Prop where
 cl:(PySem.W.clsIn K C).isSome=true
 ga:PySem.W.findIn K (.ref C) "__getattribute__"=some (some (.builtin "BaseException.__getattribute__"))
 gt:PySem.W.findIn K (.ref C) "__getattr__"=some none
 gc:PySem.W.findIn K (.ref C) "__class__"=some (some (.builtin "object.__class__"))
 so:PySem.W.subIn K (.ref C) (.type "object")=some true
 sb:PySem.W.subIn K (.ref C) (.type "BaseException")=some true
def zV5 (K:PySem.W.Frag)(C:Addr):Prop:=∃nm q N bs bm sn sub ab col dd k0 k1 k2 k3 k5,K.lookup C=some (excClassObj nm q C N bs bm true sn sub ab col dd k0 k1 k2 k3 k5 "ValueError.__new__")/\sV bm=true
theorem tH (v:Value)(hv:∀a,v ≠ .ref a):∀ {l:List Value},sV l=true->l.contains v=[Value.type "ValueError",.type "Exception",.type "BaseException",.type "object"].contains v
 | [],e=>by cases e
 | u::r,e=>by
   unfold sV at e
   rcases Bool.or_eq_true_iff.mp e with q | q
   · rw[Eh.mp q]
   · cases u with
     | ref a =>
       rw[Ru,tH v hv q,Wl.mpr (hv a),Bool.false_or]
     | _=>cases q
def zZ4 (K:PySem.W.Frag)(C:Addr):Bool:=PySem.W.isClsIn K C&&(PySem.W.findIn K (.ref C) "__getattribute__"==some (some (.builtin "BaseException.__getattribute__")))&&(PySem.W.findIn K (.ref C) "__getattr__"==some none) &&
 (PySem.W.findIn K (.ref C) "__class__"==some (some (.builtin "object.__class__")))&&(PySem.W.subIn K (.ref C) (.type "object")==some true)&&(PySem.W.subIn K (.ref C) (.type "BaseException")==some true)
theorem kD {K:PySem.W.Frag}{C:Addr}(h:zZ4 K C=true):XKit K C:=by
 unfold zZ4 at h
 simp only[Qg,Eh] at h
 obtain⟨⟨⟨⟨⟨h1,h2⟩,h3⟩,h4⟩,h5⟩,h6⟩:=h
 exact⟨h1,h2,h3,h4,h5,h6⟩
def aJ (K:PySem.W.Frag)(C:Addr):Bool:=match K.lookup C with
 | some ⟨.type "type",_,.cls cd,sl⟩=>(match cd.mro,sl.toList with
   | .ref C'::bm,[_,_,_,_,some (.builtin n),_]=>C'==C&&n=="ValueError.__new__" && !cd.hasDel&&cd.hasDict&&sV bm
   | _,_=>false)
 | _=>false
theorem jY {K:PySem.W.Frag}{C:Addr}(q:aJ K C=true):zV5 K C:=by
 unfold aJ at q
 split at q
 · rename_i dd cd sl ho
   split at q
   · rename_i C' bm k0 k1 k2 k3 n k5 hm hs
     simp only[Qg,Eh,Iu] at q
     obtain⟨⟨⟨⟨rfl,rfl⟩,hdel⟩,hdt⟩,ht⟩:=q
     obtain⟨nm,bs,mro,ns,qn,hd,sn,sub,ab,col,del⟩:=cd
     dsimp only at hm hdel hdt
     subst hm hdel hdt
     have hsl:sl=#[k0,k1,k2,k3,some (.builtin "ValueError.__new__"),k5]:=by
       obtain⟨l⟩:=sl
       simp only at hs
       rw[hs]
     subst hsl
     exact⟨nm,qn,ns,bs,bm,sn,sub,ab,col,dd,k0,k1,k2,k3,k5,ho,ht⟩
   · cases q
 · cases q
def IsxOk (K:PySem.W.Frag)(v:Value):List (Str×Bool)->Prop
 | []=>True
 | (c,b)::r=>(∃C,ClsAt K c C/\XKit K C/\PySem.W.kitOne K (.ref C) v=some b)/\IsxOk K v r
theorem IsxOk.at {K:PySem.W.Frag}{v:Value}:∀ {tb:List (Str×Bool)} {c:Str} {b:Bool},IsxOk K v tb->tb.lookup c=some b->∃C,ClsAt K c C/\XKit K C/\PySem.W.kitOne K (.ref C) v=some b
 | [],_,_,_,h=>by cases h
 | (n,x)::r,c,b,⟨h1,h2⟩,h=>by
   rw[Wc] at h
   cases hq:c==n with
   | true =>
     rw[hq] at h;cases h
     have e:=Eh.mp hq
     subst e
     exact h1
   | false=>rw[hq] at h;exact h2.at h
def kZ (K:PySem.W.Frag)(v:Value)(l:List (Addr×Bool)):Bool:=l.all fun x=>PySem.W.kitOne K (.ref x.1) v==some x.2
theorem cO {K:PySem.W.Frag}{v:Value}:IsxOk K v []:=True.intro
theorem vT {K:PySem.W.Frag}{v:Value}{C:Addr}{c:Str}{b:Bool}{r:List (Addr×Bool)}{tb:List (Str×Bool)}(ca:ClsAt K c C)(k:XKit K C)(h:kZ K v ((C,b)::r)=true)(rest:kZ K v r=true->IsxOk K v tb):IsxOk K v ((c,b)::tb):=by
 unfold kZ at h
 rw[Yp,Qg] at h
 exact⟨⟨C,ca,k,Eh.mp h.1⟩,rest h.2⟩
section
variable {X:Cx} {a b c e:Expr} {fa:Ef} {ga:Lf} {ta:Tf} {pos p:Pos}
theorem zWO {v:Value}{vv:V}(hv:∀u,RelV vv u->u=v){tb:List (Str×Bool)}(h:IsxOk X.K v tb):CallR X (.builtin "isinstance") (fun xs H Q=>∃x G c ns ds b,xs=[x,vv]/\Same G H/\Rep X.K G (.exc c ns ds) x/\tb.lookup c=some b/\Q (.bl b) H):=by
 intro pins s σ H xs us Q I r hh
 obtain⟨x,G,c,ns,ds,b,rfl,sub,rx,ht,q⟩:=hh
 obtain⟨u,u',rfl,ru,ru'⟩:=zUO r
 have e:=hv _ ru'
 subst e
 obtain⟨C,hC,hk,ho⟩:=h.at ht
 obtain⟨C',a,od,vs,h0,rfl,h1,_⟩:=oU.mp rx
 have ec:=hC.one h0
 subst ec
 cases ru
 obtain⟨⟨fs,h2⟩,_⟩:=(show ObjOk X.prog X.w H s.heap a (.ext _) from I.hok a _ (sub _ _ h1))
 exact Rb (zXi hk.cl hk.ga hk.gt hk.gc hk.so hk.sb) I.kIn ⟨_,h2,rfl⟩ ho (fun z=>nomatch z) fun tk=>⟨.bl b,H,I.tok tk,rfl,q⟩
def bP (tb:List (Str×Bool))(fa:Ef):Ef:=fun ρ=>(fa ρ).bind fun d=>match d with | .exc c _ _=>(tb.lookup c).map .bl | _=>none
theorem zRn {e:Expr}{v:Value}{vv:V}{tb:List (Str×Bool)}(h:PE X e (tCB (fun xs H Q=>∃x G c ns ds b,xs=[x,vv]/\Same G H/\Rep X.K G (.exc c ns ds) x/\tb.lookup c=some b/\Q (.bl b) H) (jH (tF X.K fa) (jH (tC vv) zWt)))):PF X e (bP tb fa):=by
 refine PE.to h ?_
 rintro σ H Q ⟨G0,H0,G,ρ,d,good,hf,k⟩
 unfold bP at hf
 obtain⟨x,h1,hf⟩:=Qq.mp hf
 cases x with
 | exc c ns ds =>
   obtain⟨b,h2,rfl⟩:=Qt.mp hf
   exact⟨G0,H0,G,ρ,_,good,h1,fun v H1 G1 s1 r1=>⟨v,G1,c,ns,ds,b,rfl,s1.sub,r1,h2,k _ _ G1 s1 (xF.mpr rfl)⟩⟩
 | _=>cases hf
theorem zVu {DN:Str}{DA:Addr}{tb:List (Str×Bool)}{p1:Pos}(hok:IsxOk X.K (.ref DA) tb)(hmD:X.mg DN=some (.ref DA))(hgD:Gl X DN)(hg:Gl X "isinstance")(hm:X.mg "isinstance"=none)(h:PF X a fa)
   (hd:(DN==("__debug__":Str))=false:=by decide) (hs:starEach [a,.Name DN p1] X.env=[(false,eval a X.env),(false,eval (.Name DN p1) X.env)]:=by rfl):PF X (.Call (.Name "isinstance" p) [a,.Name DN p1] [] pos) (bP tb fa) :=
 zRn (v:=.ref DA) (vv:=.ref DA) (rD (zWO (vv:=.ref DA) (fun _ z=>z) hok) hg hm (by rfl) (zC h (zC (mK (v:=.ref DA) hgD hmD rfl hd) yJ) (by rw[hs];rfl)) (by decide) (by decide) (by rw[hs];rfl) (by rfl))
theorem zPT {T:Str}{TT:String}{tb:List (Str×Bool)}{p1:Pos}(hT:bootBuiltins T=some (.type TT))(hok:IsxOk X.K (.type TT) tb)(hmT:X.mg T=none)(hgT:Gl X T)(hg:Gl X "isinstance")(hm:X.mg "isinstance"=none)(h:PF X a fa)
   (hn:T≠"__name__":=by decide) (hd:(T==("__debug__":Str))=false:=by decide) (hs:starEach [a,.Name T p1] X.env=[(false,eval a X.env),(false,eval (.Name T p1) X.env)]:=by rfl):PF X (.Call (.Name "isinstance" p) [a,.Name T p1] [] pos) (bP tb fa) :=
 zRn (v:=.type TT) (vv:=.ty TT) (rD (zWO (vv:=.ty TT) (fun _ z=>z) hok) hg hm (by rfl) (zC h (zC (zUt (v:=.ty TT) hgT hmT hT rfl hn hd) yJ) (by rw[hs];rfl)) (by decide) (by decide) (by rw[hs];rfl) (by rfl))
def XfOk (K:PySem.W.Frag)(f:Str):List Str->Prop
 | []=>True
 | c::r=>(∃C,ClsAt K c C/\XKit K C/\zV5 K C/\NoAttr K C f)/\XfOk K f r
theorem XfOk.at {K:PySem.W.Frag}{f:Str}:∀ {cs:List Str} {c:Str},XfOk K f cs->c∈cs->∃C,ClsAt K c C/\XKit K C/\zV5 K C/\NoAttr K C f
 | [],_,_,h=>by cases h
 | n::r,c,⟨h1,h2⟩,h=>by
   rcases Qf.mp h with e | e
   · subst e;exact h1
   · exact h2.at e
theorem zNS {pins:List (Addr×Obj)}{σ:St}{H:Hp}{s:Shared}{a C:Addr}{od:Option Addr}{fs:List (Str×V)}{f:Str}{v:V}{A:Around}{E:Value->Shared->Prop}{Q:Value->Shared->Prop}{b:Bool}(I:Inv X pins σ H s)(e:H a=some (.ext (Xe C a od)))(xd:XD H od fs)
   (k:XKit X.K C) (o:zV5 X.K C) (n:NoAttr X.K C f) (l:fs.lookup f=some v) (h:∀u s',Inv X pins σ H s'->RelV v u->Q u s'):wpAny (model X.prog X.w) A (getAttr (.ref a) f b) Q E s:=by
 cases od with
 | none =>
   have z:fs=[]:=xd
   subst z
   cases l
 | some dx =>
   obtain⟨⟨g,h2⟩,_⟩:=(show ObjOk X.prog X.w H s.heap a (.ext _) from I.hok a _ e)
   obtain⟨⟨mA,h3,r⟩,_⟩:=(show ObjOk X.prog X.w H s.heap dx (.ext _) from I.hok dx _ xd)
   obtain⟨u,hu,ru⟩:=RelO.some_of (v:=v) (o:=mA f) (by rw[←l];exact r f)
   obtain⟨nm,q,N,bs,bm,sn,sub,ab,col,dd,k0,k1,k2,k3,k5,hk,hr⟩:=o
   obtain⟨hh,g',d',t',os'⟩:=s
   exact zQq I.kIn (I.kIn _ _ hk) h2 rfl (fun c z=>nomatch z) k.ga k.gt n k.sb rfl h3 hu (PySem.W.handedOut_of (zYK ru)) (h u _ (I.tok _) ru)
def tXF (K:PySem.W.Frag)(ta:TE)(f:Str):TE:=fun σ H Q=>ta σ H fun x H1=>∃a C od fs v,x = .ref a/\H1 a=some (.ext (Xe C a od))/\XD H1 od fs/\XKit K C/\zV5 K C/\NoAttr K C f/\fs.lookup f=some v/\Q v H1
theorem zQi {f:Str}{ta:TE}(he:PE X e ta)(hb:attributeBase e f X.env (eval e X.env)=eval e X.env):PE X (.Attribute e f pos) (tXF X.K ta f):=by
 intro pins s σ H Q I h
 refine zUq hb (thn (he pins s σ H _ I h) fun u s1 ⟨x,H1,I1,rx,a,C,od,fs,v,ex,ea,xd,k,o,n,l,q⟩=>?_)
 subst ex
 obtain rfl:u=Value.ref a:=rx
 exact zNS I1 ea xd k o n l fun u' s2 I2 ru=>⟨v,H1,I2,ru,q⟩
def zWy (cs:List Str)(f:Str)(fa:Ef):Ef:=fun ρ=>(fa ρ).bind fun d=>match d with | .exc c ns ds=>if cs.contains c then(ns.zip ds).lookup f else none | _=>none
theorem zX8 {cs:List Str}{f:Str}(hok:XfOk X.K f cs)(ha:PF X a fa)(hb:attributeBase a f X.env (eval a X.env)=eval a X.env:=by rfl):PF X (.Attribute a f pos) (zWy cs f fa):=by
 refine PE.to (zQi ha hb) ?_
 rintro σ H Q ⟨G0,H0,G,ρ,d,good,hf,k⟩
 unfold zWy at hf
 obtain⟨x,h1,hf2⟩:=Qq.mp hf
 cases x with
 | exc c ns ds =>
   dsimp only at hf2
   split at hf2
   · rename_i hc
     obtain⟨C,hC,kit,ob,na⟩:=hok.at (Yi.mp hc)
     refine⟨G0,H0,G,ρ,_,good,h1,fun v H1 G1 s1 r1=>?_⟩
     obtain⟨C',q,od,vs,e0,rfl,e1,e2,e3,e4⟩:=oU.mp r1
     have ec:=hC.one e0
     subst ec
     obtain⟨u,e5,e6⟩:=iQ e3 e4 hf2
     exact⟨q,_,od,ns.zip vs,u,rfl,s1.sub _ _ e1,e2.mono s1.sub,kit,ob,na,e5,k _ _ G1 s1 e6⟩
   · cases hf2
 | _=>cases hf2
theorem Xd.mono {dx:Addr}{fs:List (Str×V)}(h1 h2:Heap)(x:Xd dx fs h1)(k:∀o,h1.get? dx=some o->h2.get? dx=some o):Xd dx fs h2:=by
 obtain⟨mA,n,r⟩:=x
 exact⟨mA,n.at k,r⟩
theorem Xe.mono {C a:Addr}{od:Option Addr}(h1 h2:Heap)(x:Xe C a od h1)(k:∀o,h1.get? a=some o->h2.get? a=some o):Xe C a od h2:=by
 obtain⟨f,e⟩:=x
 exact⟨f,k _ e⟩
theorem aA {f:Str}:∀ {fs:List (Str×V)},fs.lookup f≠none->f∈fs.map (·.1)
 | [],h=>absurd rfl h
 | (n,v)::r,h=>by
   rw[Wc] at h
   cases hq:f==n with
   | true=>rw[Eh.mp hq];exact Qc
   | false=>rw[hq] at h;exact Qi _ (aA h)
structure XSt (K:PySem.W.Frag)(C:Addr):Prop where
 kit:XKit K C
 ob:zV5 K C
 sa:PySem.W.findIn K (.ref C) "__setattr__"=some (some (.builtin "object.__setattr__"))
def XW (H G H0:Hp)(p:Addr):Option Addr->List (Str×V)->Prop
 | none,fs=>fs=[]
 | some dx,fs=>H dx=some (.ext (Xd dx fs))/\G dx=none/\H0 dx=none/\dx≠p
structure XMk (K:PySem.W.Frag)(C f:Addr):Prop where
 ob:zV5 K C
 init:PySem.W.findIn K (.ref C) "__init__"=some (some (.ref f))
 fn:PySem.W.isFn K (.ref f)=true
 kp:PySem.W.keepIn K (.ref C)=true
theorem zSZ {K:PySem.W.Frag}{h:Heap}{f:Addr}(X:K.In h)(e:PySem.W.isFn K (.ref f)=true):∃o,h.get? f=some o/\o.cls = .type "function":=by
 unfold PySem.W.isFn PySem.W.typeIn at e
 obtain⟨o,ho,hc⟩:=Qt.mp (Eh.mp e)
 exact⟨o,X _ _ ho,hc⟩
def uD (c:Str)(ns:List Str)(n:Nat)(f:List D->Option (List D))(g:Lf):Ef:=fun ρ=>(g ρ).bind fun ds=>if ds.length=n/\n<=1000 then(f ds).bind fun xs=>if ns.length=xs.length then some (.exc c ns xs) else none else none
end
def aV (h:Heap)(e:Addr)(v:Value):Prop:=v = .none∨∃T oT ts,v = .ref T/\T≠e/\h.get? T=some oT/\oT.data = .fields ts/\ts[3]?=some .none
structure Flew (fs:List Addr)(e:Addr)(c:Value)(od:Option Addr)(vs:Array Value)(sl:Array (Option Value))(h h':Heap):Prop where
 obj:h'.get? e=some { cls:=c,dict:=od,data:=.fields (vs.setIfInBounds 1 (.ref h.objs.size)),slots:=sl }
 ne:h.objs.size≠e
 head:∃oT ts,h'.get? h.objs.size=some oT/\oT.data = .fields ts/\ts[3]?=some .none
 keep:∀b o,h.get? b=some o->b≠e->b∉fs->some (Value.ref b)≠vs[1]?->h'.get? b=some o
 slot:∀b o,h.get? b=some o->b≠e->b∈fs->some (Value.ref b)≠vs[1]?->∃z,h'.get? b=some { o with slots:=z }
section
variable {M:Model} {A:Around} {E:Value->Shared->Prop} {s:Shared}
theorem uB {a:Addr}{c x:Value}{od:Option Addr}{vs:Array Value}{sl:Array (Option Value)}{k:Nat}{Q:Unit->Shared->Prop}(ho:s.heap.get? a=some { cls:=c,dict:=od,data:=.fields vs,slots:=sl })(hk:k < vs.size)
   (h:∀h',h'.get? a=some { cls:=c,dict:=od,data:=.fields (vs.setIfInBounds k x),slots:=sl }->Heap.SameBut a s.heap h'->Q () { s with heap:=h' }):wpAny M A (setField (.ref a) k x) Q E s :=
 wpAny_setField ho rfl hk (h _ (Eo _ ho rfl) (Heap.SameBut.update ..))
theorem zYG {base:Heap}{env:Env}{outer:List Env}{L e:Addr}{c:Value}{od:Option Addr}{vs:Array Value}{sl:Array (Option Value)}{hd:Value}{nx:Bool}{Q:Unit->Shared->Prop}
   (hfr:A.frames=some (env::outer)) (hl:s.heap.FunFrames base (env::outer)) (hf:env.frame=some L)
   (he:s.heap.get? e=some { cls:=c,dict:=od,data:=.fields vs,slots:=sl }) (hsz:1 < vs.size)
   (h:∀h',(h'.get? e=some { cls:=c,dict:=od,data:=.fields (vs.setIfInBounds 1 (.ref s.heap.objs.size)),slots:=sl }/\s.heap.objs.size≠e/\∃oT ts,h'.get? s.heap.objs.size=some oT/\oT.data = .fields ts/\ts[3]?=some .none) ->
     (∀b o,s.heap.get? b=some o->b≠e->b∉frs (env::outer)->h'.get? b=some o)->(∀b o,s.heap.get? b=some o->b≠e->b∈frs (env::outer)->∃z,h'.get? b=some { o with slots:=z })->Q () { s with heap:=h' }) :
   wpAny M A (do let a ←frameOf env;let pl ←entryPlaceOf L nx;let b ←EntryCells.newEntry hd a .none (rawInt L) .none pl;setField (.ref e) 1 b) (fun _ s'=>wpAny M A (setFlight (.ref e) none) Q E s') E s:=by
 have ne:e∉frs (env::outer):=fun z=>by
   obtain⟨_,o,q,n⟩:=hl.mem z
   rw[he] at q
   cases q
   exact n vs rfl
 refine Qe (wpAny_frameOf_fun hfr hl hf fun g1 k1=>Qe (wpAny_entryPlaceOf fun pl hp=>?_))
 unfold EntryCells.newEntry newFields
 refine Qe (Yt ?_ (hp.sizeOk5 _ _ _ _ _))
 have e1:g1.get? e=some { cls:=c,dict:=od,data:=.fields vs,slots:=sl }:=(k1.2.1 e ne).trans he
 have ln:g1.objs.size≠e:=fun z=>Wa _ (z ▸ Qy e1)
 have hsz3:3 < ([hd,.ref L,.none,rawInt L,.none]++(if pl.isEmpty then List.replicate 6 Value.none else pl)).toArray.size:=by
   rw[Qp,Qd];show 3 < 5+_;omega
 generalize hts:([hd,.ref L,.none,rawInt L,.none]++(if pl.isEmpty then List.replicate 6 Value.none else pl)).toArray=ts at hsz3
 have e2:(g1.push { cls:=.type "traceback",data:=.fields ts }).get? e=some { cls:=c,dict:=od,data:=.fields vs,slots:=sl }:=Qr _ e1
 have t2:(g1.push { cls:=.type "traceback",data:=.fields ts }).get? g1.objs.size=some { cls:=.type "traceback",dict:=none,data:=.fields ts,slots:=#[] }:=Qh _ rfl
 refine uB e2 hsz fun g3 e3 k3=>?_
 have t3:g3.get? g1.objs.size=some { cls:=.type "traceback",dict:=none,data:=.fields ts,slots:=#[] }:=k3.extBut _ _ ln t2
 unfold setFlight
 refine Qe (Ep e3 rfl (x:=.ref g1.objs.size) (by simp[hsz]) ?_)
 rw[Wr (by simp)]
 refine uB t3 hsz3 fun g4 t4 k4=>h g4 (by rw[←k1.1];exact⟨k4.extBut _ _ (fun z=>ln z.symm) e3,ln,_,_,t4,rfl,by simp[hsz3]⟩) (fun b o q n1 n2=>?_) fun b o q n1 n2=>?_
 · have q1:g1.get? b=some o:=(k1.2.1 b n2).trans q
   exact k4.extBut _ _ (Wy (Qy q1)) (k3.extBut _ _ n1 (Qr _ q1))
 · obtain⟨w,q1⟩:=k1.2.2 b o q
   exact⟨w,k4.extBut _ _ (Wy (Qy q1)) (k3.extBut _ _ n1 (Qr _ q1))⟩
theorem zZL {base:Heap}{env:Env}{outer:List Env}{L e:Addr}{c v:Value}{od:Option Addr}{vs:Array Value}{sl:Array (Option Value)}{Q:Unit->Shared->Prop}
   (hfr:A.frames=some (env::outer)) (hl:s.heap.FunFrames base (env::outer)) (hf:env.frame=some L)
   (he:s.heap.get? e=some { cls:=c,dict:=od,data:=.fields vs,slots:=sl }) (hv:vs[1]?=some v) (hh:aV s.heap e v)
   (h:∀h',Flew (frs (env::outer)) e c od vs sl s.heap h'->Q () { s with heap:=h' }):wpAny M A (noteFrame (.ref e) env) (fun _ s'=>wpAny M A (setFlight (.ref e) none) Q E s') E s:=by
 have hsz:1 < vs.size:=(Er.mp hv).1
 unfold noteFrame
 simp only[hf]
 refine Qe (Ep he rfl hv ?_)
 rcases hh with rfl | ⟨T,oT,ts,rfl,ne,hT,hdT,h3⟩
 · rw[Wj (by decide)]
   exact zYG hfr hl hf he hsz fun h' a1 a2 a3=>h h' ⟨a1.1,a1.2.1,a1.2.2,fun b o q n1 n2 _=>a2 b o q n1 n2,fun b o q n1 n2 _=>a3 b o q n1 n2⟩
 · rw[Wr (by simp)]
   refine Qe (Ep hT hdT h3 ?_)
   rw[Wj (show ¬((Value.none==rawInt L)=true) by simp[rawInt])]
   obtain⟨cT,dT,daT,slT⟩:=oT
   dsimp only at hdT
   subst hdT
   refine Qe (uB hT (Er.mp h3).1 fun g1 t1 k1=>?_)
   have up:∀b o,b≠T->s.heap.get? b=some o->g1.get? b=some o:=fun b o z q=>k1.extBut _ _ z q
   have nT:∀b o,s.heap.get? b=some o->(∀vs,o.data ≠ .fields vs)->b≠T:=fun b o q n z=>by
     rw[z,hT] at q
     cases q
     exact n ts rfl
   refine zYG hfr (hl.of_keeps fun b o q n=>⟨o,up b o (nT b o q n) q,rfl⟩) hf (up _ _ (fun z=>ne z.symm) he) hsz fun h' a1 a2 a3=>?_
   have es:g1.objs.size=s.heap.objs.size:=k1.1
   dsimp only at a1
   rw[es] at a1
   exact h h' ⟨a1.1,a1.2.1,a1.2.2,fun b o q n1 n2 n3=>a2 b o (up b o (fun z=>n3 (by rw[hv,z])) q) n1 n2,fun b o q n1 n2 n3=>a3 b o (up b o (fun z=>n3 (by rw[hv,z])) q) n1 n2⟩
theorem zWT {base:Heap}{env:Env}{outer:List Env}{L e:Addr}{c v:Value}{od:Option Addr}{vs:Array Value}{sl:Array (Option Value)}{Q:Unit->Shared->Prop}
   (hfr:A.frames=some (env::outer)) (hl:s.heap.FunFrames base (env::outer)) (hf:env.frame=some L)
   (he:s.heap.get? e=some { cls:=c,dict:=od,data:=.fields vs,slots:=sl }) (hv:vs[1]?=some v) (hh:aV s.heap e v)
   (h:∀h',Flew (frs (env::outer)) e c od vs sl s.heap h'->Q () { s with heap:=h' }):wpAny M A (leaving env (.ref e)) Q E s:=Qe (zZL hfr hl hf he hv hh h)
theorem zWS {a T:Addr}{o oT:Obj}{vs ts:Array Value}{Q:Unit->Shared->Prop}(ho:s.heap.get? a=some o)(hd:o.data = .fields vs)(hv:vs[1]?=some (.ref T))(hT:s.heap.get? T=some oT)(hdT:oT.data = .fields ts)(h3:ts[3]?=some .none)
   (h:∀h',(∀b u,s.heap.get? b=some u->h'.get? b=some u)->Q () { s with heap:=h' }):wpAny M A (setFlight (.ref a) none) Q E s:=by
 unfold setFlight
 refine Qe (Ep ho hd hv ?_)
 rw[Wr (by simp)]
 obtain⟨cT,dT,daT,slT⟩:=oT
 dsimp only at hdT
 subst hdT
 refine uB hT (Er.mp h3).1 fun g q1 q2=>h g fun b u q=>?_
 by_cases hb:b=T
 · subst hb
   rw[hT] at q
   cases q
   rw[q1]
   have:ts.setIfInBounds 3 ((none:Option Addr).elim Value.none fun f=>rawInt f)=ts:=by
     apply Array.ext_getElem?
     intro k
     rw[Array.getElem?_setIfInBounds]
     split
     · rename_i z
       subst z
       split
       · exact h3.symm
       · rename_i z;rw[Array.getElem?_eq_none (by omega)]
     · rfl
   rw[this]
 · exact q2.extBut _ _ hb q
end
structure Fly (h:Heap)(H:Hp)(h0:Heap)(C a:Addr):Prop where
 ob:∃vs v,h.get? a=some { cls:=.ref C,dict:=none,data:=.fields vs,slots:=#[] }/\vs[1]?=some v/\aV h a v/\∀T,v = .ref T->H T=none/\h0.get? T=none
 free:H a=none
 new:h0.get? a=none
theorem zZN {α:Type}(p:α->Bool):∀(l:List α) (i:Nat),(∀x,l[i]?=some x->p x=false)->(l.eraseIdx i).find? p=l.find? p
 | [],_,_=>rfl
 | x::r,0,h=>by
   have q:=h x rfl
   rw[List.eraseIdx_cons_zero,Yj,q]
 | x::r,i+1,h=>by
   rw[Tz,Yj,Yj,zZN p r i fun y e=>h y (by simpa using e)]
theorem zRY {k:Value}{x y:Str}(h:k.isStr x=true)(ne:y≠x):k.isStr y=false:=by
 cases k<;>simp_all [Value.isStr]
 rename_i z t
 intro q
 exact ne q.symm
section
variable {M:Model} {A:Around} {E:Value->Shared->Prop} {s:Shared}
theorem zPx {a:Addr}{m:Str->Option Value}{n:Str}{Q:Bool->Shared->Prop}(hn:s.heap.Ns a m)
   (hQ:∀h' m',h'.Ns a m'->(∀x,x≠n->m' x=m x)->Heap.SameBut a s.heap h'->Q (m n).isSome { s with heap:=h' }):wpAny M A (nsDel a n) Q E s:=by
 obtain⟨⟨c,d,dt,sl⟩,es,ep,ho,hd,hk,hm⟩:=id hn
 dsimp only at hd
 subst hd
 have noref:es.any (·.refKey)=false:=Array.any_eq_false'.mpr fun e he=>by
   obtain⟨w,t,q⟩:=hk e he
   simp[DictEntry.refKey,q]
 have hh:nsHas n ⟨c,d,.dict es ep,sl⟩=pure (es.any (·.key.isStr n)):=by
   rw[nsHas_eq]
   unfold nsHasByArray
   show(if (es.any fun x=>x.key.isStr n)=true then _ else _)=_
   cases es.any fun x=>x.key.isStr n<;>simp[noref]
 have hs:(m n).isSome=es.any (·.key.isStr n):=by
   rw[←hm n]
   unfold nsFind findBy
   rw[Option.isSome_map,Tj,Array.find?_isSome,Array.any_eq_true']
 unfold nsDel
 refine Qe (Ow ho ?_)
 rw[hh]
 refine Qe (Qa ?_)
 rw[←hs]
 cases hb:(m n).isSome with
 | false =>
   have:=hQ s.heap m hn (fun _ _=>rfl) (.refl ..)
   rw[hb] at this
   exact Qa this
 | true =>
   refine Qe (wpAny_updatePart ho (Qa ?_))
   rw[hb] at hs
   obtain⟨k,hk1,hk2⟩:=Array.any_eq_true'.mp hs.symm
   cases hi:es.findIdx? (·.key.isStr n) with
   | none =>
     have:=Array.findIdx?_eq_none_iff.mp hi k hk1
     rw[this] at hk2;cases hk2
   | some i =>
     have hd':Obj.dropName n ⟨c,d,.dict es ep,sl⟩=⟨c,d,.dict (es.eraseIdxIfInBounds i) (ep+1),sl⟩:=by
       rw[Obj.dropName_eq];unfold Obj.dropNameByArray;dsimp only;rw[hi]
     have hg:=Eo (Obj.dropName n) ho (by rw[hd'];rfl)
     rw[hd'] at hg
     have:=hQ _ (nsFind (es.eraseIdxIfInBounds i)) ⟨_,_,_,hg,rfl,hk.erase i,fun _=>rfl⟩ (fun x ne=>?_) (Heap.SameBut.update ..)
     · rw[hb] at this;exact this
     · rw[←hm x]
       unfold nsFind findBy
       congr 1
       have hi2:=Array.findIdx?_eq_some_iff_getElem.mp hi
       obtain⟨hlt,hp,_⟩:=hi2
       rw[←Ux,←Ux,show(es.eraseIdxIfInBounds i).toList=es.toList.eraseIdx i by simp[Array.eraseIdxIfInBounds,hlt]]
       refine zZN _ _ _ fun y e=>zRY (x:=n) ?_ ne
       rw[Qs (by simpa using hlt)] at e
       cases e
       simpa using hp
variable {X:Cx} {pins:List (Addr×Obj)} {σ:St} {H:Hp}
theorem Inv.gone {i:Nat}{n:Str}{h':Heap}{m m':Str->Option Value}{t':Nat}(I:Inv X pins σ H s)(hN:X.N.Nodup)(hi:X.N[i]?=some n)(hm:s.heap.Ns X.env.locals m)(hm':h'.Ns X.env.locals m')(e:∀x,x≠n->m' x=m x)(sb:Heap.SameBut X.env.locals s.heap h') :
   Inv X pins (σ.set i none) H { s with heap:=h',toks:=t' }:=by
 have keep:∀b o,b≠X.env.locals->s.heap.get? b=some o->h'.get? b=some o:=fun b o ne q=>sb.extBut _ _ ne q
 have neL:∀b o,X.s₀.heap.get? b=some o->b≠X.env.locals:=fun b o q=>Wy (Wu (Qy q) I.ok.above)
 obtain⟨m0,hn0,hl⟩:=I.loc
 have em:∀x,m0 x=m x:=fun x=>by
   obtain⟨o,es,ep,q1,q2,_,q3⟩:=hn0
   obtain⟨o',es',ep',r1,r2,_,r3⟩:=hm
   rw[q1] at r1;cases r1
   rw[q2] at r2;cases r2
   rw[←q3,←r3]
 refine⟨I.ok,I.os,I.bare,⟨fun b o q n hb hx=>keep b o (neL b o q) (I.base.keep b o q n hb hx),fun b o q n hb hx=>?_,I.base.free,fun b o q hx=>?_,I.base.tups,I.base.frzs,I.base.tbls⟩,⟨m',hm',fun j x v hj hσ hv=>?_⟩,fun x c q=>?_,I.free,I.freeC,fun p hp=>?_,fun b o q=>?_,?_⟩
 · obtain⟨z,y⟩:=I.base.slot b o q n hb hx
   exact⟨z,keep b _ (neL b o q) y⟩
 · obtain⟨z,y⟩:=I.base.there b o q hx
   exact⟨z,keep b _ (neL b o q) y⟩
 · have ji:j≠i:=fun z=>by
     subst z
     by_cases hl':j < σ.length
     · rw[Es hl'] at hσ;cases hσ
     · rw[Ri (by rw[Rc];omega)] at hσ;cases hσ
   rw[Wi (Ne.symm ji)] at hσ
   obtain⟨u,r,lk⟩:=hl j x v hj hσ hv
   have xn:x≠n:=fun z=>ji (by
     subst z
     exact(List.getElem?_inj (Qj.mp hj).1 hN).mp (hj.trans hi.symm))
   refine⟨u,r,?_⟩
   rcases lk with⟨k1,k2⟩ | ⟨k1,c,k2,ob,k3,k4⟩
   · exact .inl ⟨k1,by rw[e x xn,←em];exact k2⟩
   · exact .inr ⟨k1,c,k2,ob,keep c ob (I.cne x c k2) k3,k4⟩
 · obtain⟨v,ob,k1,k2⟩:=I.cell x c q
   exact⟨v,ob,keep c ob (I.cne x c q) k1,k2⟩
 · obtain⟨p1,p2,p3,p4⟩:=I.pin p hp
   exact⟨keep _ _ p3 p1,p2,p3,p4⟩
 · refine(I.hok b o q).stay (fun b' u hb' q'=>keep b' u (fun z=>?_) q') (fun _ z=>z) (fun _ _ z=>z)
   have fr:=I.free
   rcases hb' with y | y
   · rw[←z,y,q] at fr;cases fr
   · rw[←z,y] at fr;cases fr
 · rw[Rc];exact I.len
theorem zTz {M:Model}{A:Around}{E:Value->Shared->Prop}{i:Nat}{n:Str}{pos:Pos}{Q:Unit->Shared->Prop}(I:Inv X pins σ H s)(hN:X.N.Nodup)(hi:X.N[i]?=some n)(hk:X.env.kindOf n=some .local)(hx:Loc X.env.scope n)
   (h:∀s',Inv X pins (σ.set i none) H s'->Q () s') (hf:X.fn n=true∨X.env.scope.names.lookup n=some .local):wpAny M A (do bindName X.env n .none;unbindBehindTheSuite X.env n pos) Q E s:=by
 refine Qe (wpAny_bindName (eZ (v:=.non) I hN hi hx rfl (fun s1 I1 _=>?_) hf))
 have hp:(X.env.scope.kind == .class||(X.env.scope.kind == .module&&X.env.locals != X.env.globals))=false:=by rw[I.ok.kind];rfl
 obtain⟨m1,hn1,hl1⟩:=I1.loc
 unfold unbindBehindTheSuite
 refine wpAny_onRaise ?_
 unfold unbindName
 refine Qe (wpAny_point (Qe ?_))
 unfold deleteName
 simp only[hk,hp]
 rw[Wj (by decide)]
 have hii:i < σ.length:=by rw[I.len];exact(Qj.mp hi).1
 obtain⟨u,_,lk⟩:=hl1 i n .non hi (Es hii) (.inl (show X.env.scope.names.lookup n=some .local from hk))
 have hs:(m1 n).isSome=true:=by
   rcases lk with⟨_,k2⟩ | ⟨k1,_⟩
   · rw[k2];rfl
   · rw[hk] at k1;rcases k1 with z | z<;>cases z
 refine Qe (zPx hn1 fun h2 m2 q1 q2 q3=>?_)
 rw[hs]
 rw[Wj (by decide)]
 refine Qa (wpAny_point ?_)
 have J:=I1.gone (t':=s1.toks) hN hi hn1 q1 q2 q3
 rw[List.set_set] at J
 exact h _ J
end
abbrev Cx.marked (X:Cx)(a:Addr)(R:Value->Shared->Prop):Cx:={ X with A:=X.A.mark (some (.ref a)),calm:=false,xe:=R }
theorem Cx.Ok.marked {X:Cx}(ok:X.Ok)(a:Addr)(R:Value->Shared->Prop):(X.marked a R).Ok :=
 ⟨ok.mod,ok.kind,ok.glob,ok.blt,ok.above,ok.inj,ok.has,ok.cab,(fun z=>by cases z),ok.frames,ok.stk,ok.exf,ok.bs,ok.bsz,ok.noex,ok.exfs,ok.funs,ok.frf⟩
theorem Inv.marked {X:Cx}{pins:List (Addr×Obj)}{σ:St}{H:Hp}{s:Shared}(I:Inv X pins σ H s)(a:Addr)(R:Value->Shared->Prop):Inv (X.marked a R) pins σ H s:=⟨I.ok.marked a R,I.os,I.bare,I.base,I.loc,I.cell,I.free,I.freeC,I.pin,I.hok,I.len⟩
theorem Inv.unmarked {X:Cx}{pins:List (Addr×Obj)}{σ:St}{H:Hp}{s:Shared}{a:Addr}{R:Value->Shared->Prop}(ok:X.Ok)(I:Inv (X.marked a R) pins σ H s):Inv X pins σ H s:=⟨ok,I.os,I.bare,I.base,I.loc,I.cell,I.free,I.freeC,I.pin,I.hok,I.len⟩
theorem aH {M:Model}{A:Around}{st:Stmt}{env:Env}{Q:Flow->Shared->Prop}{R:Value->Shared->Prop}{s:Shared}(h:wpAny M A (exec st env) (fun _ _=>False) R s):wpAny M A (execs [st] env) Q R s:=Rk (Eu h (fun _ _ z=>z.elim) fun _ _ z=>z)
section
variable {a:Expr} {es:List Expr} {st:Stmt}
theorem Good.setNo {K:PySem.W.Frag}{G0 H0 G H:Hp}{σ:St}{ρ:List B}(g:Good K G0 H0 G H σ ρ)(i:Nat):Good K G0 H0 G H (σ.set i none) (ρ.set i .no):=by
 refine⟨g.st,Paired.set .no i g.vals,fun j k a ds es h1 h2 h3 h4=>?_⟩
 have nj:j≠i:=fun z=>by
   subst z
   by_cases hl:j < ρ.length
   · rw[Es hl] at h1;cases h1
   · rw[Ri (by rw[Rc];omega)] at h1;cases h1
 have nk:k≠i:=fun z=>by
   subst z
   by_cases hl:k < ρ.length
   · rw[Es hl] at h2;cases h2
   · rw[Ri (by rw[Rc];omega)] at h2;cases h2
 rw[Wi (Ne.symm nj)] at h1 h3
 rw[Wi (Ne.symm nk)] at h2 h4
 exact g.apart j k a ds es h1 h2 h3 h4
end
section
structure Z3 (z TI TO i1 i2 i3 l1 l2 l3:Addr):Prop where
 TIz:TI≠z
 TOz:TO≠z
 i1z:i1≠z
 i2z:i2≠z
 i3z:i3≠z
 TITO:TI≠TO
 TIi1:TI≠i1
 TIi2:TI≠i2
 TIi3:TI≠i3
 TOi1:TO≠i1
 TOi2:TO≠i2
 TOi3:TO≠i3
 i12:i1≠i2
 i13:i1≠i3
 i23:i2≠i3
 a1:l1≠z
 a2:l1≠TO
 a3:l1≠i1
 a4:l1≠i2
 a5:l1≠i3
 b1:l2≠z
 b2:l2≠TO
 b3:l2≠i1
 b4:l2≠i2
 b5:l2≠i3
 c1:l3≠z
 c2:l3≠TO
 c3:l3≠i1
 c4:l3≠i2
 c5:l3≠i3
end
section
variable {prog:Program} {w:World} {A:Around} {E:Value->Shared->Prop} {s:Shared}
theorem zVc:typeLookup (.type "list_reverseiterator") "__len__"=pure none:=by rw[Up,Yu];kernel_rfl
theorem zR9:typeLookup (.type "list_reverseiterator") "__length_hint__"=pure (some (.builtin "list_reverseiterator.__length_hint__")):=by rw[Up,Yu];kernel_rfl
theorem zRT {it l:Addr}{i:Int}{Q:Bool->Shared->Prop}(hit:s.heap.IsRevIter it l i)(h:Q false s):wpAny (model prog w) A (Builtin.List.listLengthHint (.ref it)) Q E s:=by
 unfold Builtin.List.listLengthHint
 refine Qe (Yg hit.typeIs zVc ?_)
 refine Tx (fun hab=>absurd hab (by decide)) (fun _=>?_)
 refine Tx (fun hab=>absurd hab (by decide)) (fun _=>?_)
 refine Qe (Yg hit.typeIs zR9 ?_)
 generalize hid:("list_reverseiterator.__length_hint__":String)=id0
 wp_delta
 rw[show splitId id0=some ("list_reverseiterator","__length_hint__") from by subst hid;decide +kernel]
 subst hid
 refine Qe (Il (T:="list_reverseiterator") (b:=true) hit.typeIs (by rw[isSubtype_type];kernel_rfl) ?_)
 refine Tx (fun hab=>absurd hab (by decide)) (fun _=>?_)
 refine Tx (fun _=>?_) (fun hab=>absurd (by decide +kernel) hab)
 refine Tx (fun hab=>absurd hab (by decide +kernel)) (fun _=>?_)
 exact Qa h
theorem zVB {R:Result->Shared->Prop}{it l S:Addr}{items:Array Value}{res:Value}{c₀:Nat}(hh:A.handled=none)(hit:s.heap.IsRevIter it l ((items.size:Int) - 1))(hl:s.heap.IsList l items)(hli:l≠it)(hSi:S≠it)(hSl:S≠l)(hlen:items.size<=sizeLine)
   (hS:s.heap.get? S=some { cls:=.type "list",data:=.seq #[] c₀ })
   (hR:∀h' tk acc' c',(∀b o,b≠S->b≠it->s.heap.get? b=some o->h'.get? b=some o)->h'.get? S=some { cls:=.type "list",dict:=none,data:=.seq acc' c',slots:=#[] } ->
     ItemsOf (fun i v=>items[items.size - 1 - i]?=some v) acc' items.size->R (.ok (.ret res)) { s with heap:=h',toks:=tk }) :
   wpAny (model prog w) A.in1 (Builtin.List.listExtendWith (.ref S) (.ref it) res)
     (fun fin s'=>match fin with | .done f=>R (.ok f) s' | .again c'=>c'.quiet=true/\codeAny (model prog w) A c' R s') (fun e s'=>R (.error e) s') s:=by
 have hSf:S∉[it,l]:=fun hm=>by
   rcases Qf.mp hm with e | hm
   · exact hSi e
   · exact hSl (Ey.mp hm)
 have W:=(Walks.listRev (prog:=prog) (w:=w) (A:=A.in1) hh it l hli items).toS
 unfold Builtin.List.listExtendWith
 refine Qe (Ia hit.typeIs ?_)
 have h1:Builtin.List.listSameRef (.ref S) (.ref it)=false:=by simp[Builtin.List.listSameRef,hSi]
 have h2:(Value.type "list_reverseiterator"==Value.type "list")=false:=by decide
 have h3:(Value.type "list_reverseiterator"==Value.type "tuple")=false:=by decide
 simp only[h1,h2,h3,Bool.or_false,Wb,Te]
 refine Qe (wpAny_pyIter_revIter hit ?_)
 refine Qe (Ry (zRT hit ?_))
 refine Tx (fun hab=>absurd hab (by decide +kernel)) (fun _=>Qa ⟨Ya F.plain_extend_loop _,?_⟩)
 refine codeAny_extend_loopS W hlen S hSf res items.size 0 _ #[] c₀ rfl (Tb _) ⟨Tb _,by simpa using hit,hl⟩ hS (ItemsOf.nil _) fun s' acc' c' hm hS' hacc=>?_
 rw[Moved.eq_with hm]
 refine hR s'.heap s'.toks acc' c' (fun b o hb hb' e=>hm.heap b o (fun hmem=>?_) e) hS' hacc
 rcases Qf.mp hmem with e' | hmem
 · exact hb e'
 · exact hb' (Ey.mp hmem)
theorem zZg {R:Result->Shared->Prop}{it l S:Addr}{items:Array Value}(hh:A.handled=none)(hit:s.heap.IsRevIter it l ((items.size:Int) - 1))(hl:s.heap.IsList l items)(hli:l≠it)(hSi:S≠it)(hSl:S≠l)(hlen:items.size<=sizeLine)
   (hS:s.heap.get? S=some { cls:=.type "list",data:=.seq #[] })
   (hR:∀h' tk acc' c',(∀b o,b≠S->b≠it->s.heap.get? b=some o->h'.get? b=some o)->h'.get? S=some { cls:=.type "list",dict:=none,data:=.seq acc' c',slots:=#[] } ->
     ItemsOf (fun i v=>items[items.size - 1 - i]?=some v) acc' items.size->R (.ok (.ret .none)) { s with heap:=h',toks:=tk }) :
   wpAny (model prog w) A.in1 (Builtin.«list.__init__» ⟨[.ref S,.ref it],[]⟩)
     (fun fin s'=>match fin with | .done f=>R (.ok f) s' | .again c'=>c'.quiet=true/\codeAny (model prog w) A c' R s') (fun e s'=>R (.error e) s') s:=by
 show wpAny _ _ (do let old ←Builtin.List.listItems (.ref S);Builtin.List.listUpdate (.ref S) (fun _=>#[]);letGo old.toList.reverse;Builtin.List.listExtendWith (.ref S) (.ref it) .none) _ _ s
 refine Qe ?_
 unfold Builtin.List.listItems
 refine Qe (Uk hS rfl (Qa ?_))
 show wpAny _ _ (updateSeq S (fun _=>#[]) >>= fun _=>letGo (#[]:Array Value).toList.reverse >>= fun _=>Builtin.List.listExtendWith (.ref S) (.ref it) .none) _ _ s
 refine Qe (Yf hS rfl ?_)
 have hS₂:=Eo (Obj.mapSeq (fun _=>(#[]:Array Value))) hS rfl
 have oth:∀b o,b≠S->s.heap.get? b=some o->(s.heap.update S (Obj.mapSeq (fun _=>(#[]:Array Value)))).get? b=some o :=
   fun b o hb e=>(Re _ _ (Ne.symm hb)).trans e
 refine Qe (wpAny_letGo ?_)
 refine zVB hh (hit.at fun o e=>oth _ _ (Ne.symm hSi) e) (hl.at fun o e=>oth _ _ (Ne.symm hSl) e) hli hSi hSl hlen hS₂ fun h' tk acc' c' hk hS' hacc=>?_
 exact hR h' tk acc' c' (fun b o hb hb' e=>hk b o hb hb' (oth b o hb e)) hS' hacc
theorem zZj {Q:Value->Shared->Prop}{it l:Addr}{items:Array Value}(hh:A.handled=none)(hit:s.heap.IsRevIter it l ((items.size:Int) - 1))(hl:s.heap.IsList l items)(hli:l≠it)(hlen:items.size<=sizeLine)
   (hQ:∀h' tk acc' c',(∀b o,b≠it->s.heap.get? b=some o->h'.get? b=some o) ->
     h'.get? s.heap.objs.size=some { cls:=.type "list",dict:=none,data:=.seq acc' c',slots:=#[] }->ItemsOf (fun i v=>items[items.size - 1 - i]?=some v) acc' items.size->Q (.ref s.heap.objs.size) { s with heap:=h',toks:=tk }) :
   wpAny (model prog w) A (call (.type "list") [.ref it]) Q E s:=by
 refine callType_codes (Q₁:=fun obj s₁=>obj = .ref s.heap.objs.size/\s₁={ s with heap:=s.heap.push { cls:=.type "list",data:=.seq #[] } }) F.called_list (F.typeCall_list_1 _) F.entry_list_init
   (code_list_new _ ⟨rfl,rfl⟩) fun obj s₁ h₁=>?_
 obtain⟨rfl,rfl⟩:=h₁
 have hS:(s.heap.push { cls:=.type "list",data:=.seq #[] }).get? s.heap.objs.size=some { cls:=.type "list",data:=.seq #[] }:=Qh _ rfl
 have n1:s.heap.objs.size≠it:=fun z=>by obtain⟨o,e,_⟩:=hit;exact absurd (Qy e) (by rw[z];exact Wa _)
 have n2:s.heap.objs.size≠l:=fun z=>by obtain⟨o,e,_⟩:=hl;exact absurd (Qy e) (by rw[z];exact Wa _)
 refine⟨⟨_,hS,rfl⟩,F.args_list_init_2 _ _,zZg (A:=A.in1) hh (hit.at fun o e=>Qr _ e) (hl.at fun o e=>Qr _ e) hli n1 n2 hlen hS fun h' tk acc' c' hk hS' hacc=>?_⟩
 exact⟨rfl,hQ h' tk acc' c' (fun b o hb e=>hk b o (Wy (Qy e)) hb (Qr _ e)) hS' hacc⟩
theorem zTF {its acc:List Value}(h:ItemsOf (fun i v=>its.toArray[its.toArray.size - 1 - i]?=some v) acc.toArray its.toArray.size):acc=its.reverse:=by
 obtain⟨h1,h2⟩:=h
 simp only[Qp] at h1 h2
 refine List.ext_getElem (by rw[h1,List.length_reverse]) fun i hi hi'=>?_
 have q:=h2 i acc[i] (by simp[hi])
 rw[List.getElem_reverse]
 simp only[List.getElem?_toArray] at q
 rw[Qs (by omega)] at q
 exact(Wo q).symm
theorem Reps.reverse {K:PySem.W.Frag}{G:Hp}:∀ {ds:List D} {vs:List V},Reps K G ds vs->Reps K G ds.reverse vs.reverse
 | [],_,h=>by rw[yR] at h;subst h;exact yR.mpr rfl
 | d::r,_,h=>by
   obtain⟨v,vr,rfl,h1,h2⟩:=zG.mp h
   rw[Ym,Ym]
   exact h2.reverse.snoc h1
variable {X:Cx} {a b e:Expr} {es:List Expr} {ga:Lf} {pos p:Pos}
def zVw (g:Lf):Lf:=fun ρ=>(g ρ).map List.reverse
theorem zVt {p2 pos':Pos}(hc:X.calm=true)(hg:Gl X "list")(hm:X.mg "list"=none)(hg':Gl X "reversed")(hm':X.mg "reversed"=none)(h:zVd X a ga)(hs:starEach [a] X.env=[(false,eval a X.env)]:=by rfl)
   (hs3:starEach [Expr.Call (.Name "reversed" p2) [a] [] pos'] X.env=[(false,eval (.Call (.Name "reversed" p2) [a] [] pos') X.env)]:=by rfl) :
   PFr X (.Call (.Name "list" p) [.Call (.Name "reversed" p2) [a] [] pos'] [] pos) (zVw ga):=by
 intro pins s σ H Q I q
 obtain⟨G0,H0,G,ρ,es,good,hf,kk⟩:=q
 unfold zVw at hf
 obtain⟨ds,h1,rfl⟩:=Qt.mp hf
 have hA:=zC h yJ (by rw[hs];rfl) pos' pins s σ H (fun vs H'=>∃l us G',vs=[.ref l]/\Step G H G' H'/\SqL X.K G' l us/\Reps X.K G' ds us) I
   ⟨G0,H0,G,ρ,_,good,h1,fun l us H1 G1 s1 q1 q2=>⟨l,us,G1,rfl,s1,q1,q2⟩⟩
 refine Call_ (mD I hg hm (by rfl) (Ei (rest:=[]) ?_ (by rw[hs3];rfl) (by rfl)))
 rw[hs3]
 refine Ev (Call_ (mD I hg' hm' (by rfl) (Ei (thn hA fun us s1 ⟨vs,H1,I1,r1,l,ws,G1,e1,st1,q1,q2⟩=>?_) (by rw[hs];rfl) (by rfl))))
 subst e1
 obtain⟨u,rfl,ru⟩:=nH r1
 cases ru
 obtain⟨its,rv,p1,hz⟩:=I1.list (st1.sub.seq q1)
 have hll:l < s1.heap.objs.size:=by obtain⟨o,e,_⟩:=p1.isList;exact Qy e
 refine call_reversed_list p1.isList ?_
 refine Yq ?_
 have hrev:(s1.heap.push (revObj l ((its.toArray.size:Int) - 1))).IsRevIter s1.heap.objs.size l ((its.toArray.size:Int) - 1):=⟨_,Qh _ rfl,rfl,rfl⟩
 refine zZj (I.ok.hd hc) hrev (p1.isList.at fun o e=>Qr _ e) (Wy hll) (by rw[Qp];exact rv.length ▸ hz) fun h' tk acc c' hk hS hacc=>?_
 have hsz:(s1.heap.push (revObj l ((its.toArray.size:Int) - 1))).objs.size=s1.heap.objs.size+1:=Tp ..
 have hacc':acc.toList=its.reverse:=zTF (acc:=acc.toList) (by simpa using hacc)
 have hT:s1.heap.objs.size<=(s1.heap.push (revObj l ((its.toArray.size:Int) - 1))).objs.size:=by rw[hsz];exact Yw _
 have fr:H1 (s1.heap.push (revObj l ((its.toArray.size:Int) - 1))).objs.size=none:=I1.hok.fresh hT
 have I3:=I1.laid (t':=tk) (h':=h') (a:=(s1.heap.push (revObj l ((its.toArray.size:Int) - 1))).objs.size) (o:=.lst ws.reverse) (fun b o e=>hk b o (Wy (Qy e)) (Qr _ e)) hT
   (show ObjOk X.prog X.w _ h' _ (.lst ws.reverse) from⟨by rw[List.length_reverse];exact hz,acc.toList,c',by rw[hacc'];exact rv.reverse,hS⟩)
 exact⟨.ref _,_,I3,rfl,kk _ ws.reverse _ G1 (st1.trans (Step.own st1.sub fr)) (st1.hh.free fr) zN (st1.sub.free fr) q2.reverse⟩
end
section
variable {X:Cx}
theorem vR {st:Stmt}:PFS X st (fun _=>none):=by
 intro pins s σ H D I q
 obtain⟨G0,H0,G,ρ,o,good,hf,k⟩:=q
 cases hf
end
end L2
namespace Att
open PySem PySem.W PySem.Spec PyProof.Rows
end Att
namespace Att
open PySem PySem.W PySem.Calls PyProof.Rows
end Att
namespace L2
open PySem PySem.Spec PyProof.Rows
def IsyOk (K:PySem.W.Frag)(its:List Value):List (Str×Bool)->Prop
 | []=>True
 | (c,b)::r=>(∃C,ClsAt K c C/\XKit K C/\PySem.W.kitAny K (.ref C) its=some b)/\IsyOk K its r
theorem IsyOk.at {K:PySem.W.Frag}{its:List Value}:∀ {tb:List (Str×Bool)} {c:Str} {b:Bool},IsyOk K its tb->tb.lookup c=some b->∃C,ClsAt K c C/\XKit K C/\PySem.W.kitAny K (.ref C) its=some b
 | [],_,_,_,h=>by cases h
 | (n,x)::r,c,b,⟨h1,h2⟩,h=>by
   rw[Wc] at h
   cases hq:c==n with
   | true =>
     rw[hq] at h;cases h
     have e:=Eh.mp hq
     subst e
     exact h1
   | false=>rw[hq] at h;exact h2.at h
def zXm (K:PySem.W.Frag)(its:List Value)(l:List (Addr×Bool)):Bool:=l.all fun x=>PySem.W.kitAny K (.ref x.1) its==some x.2
theorem zQA {K:PySem.W.Frag}{its:List Value}:IsyOk K its []:=True.intro
theorem zZ0 {K:PySem.W.Frag}{its:List Value}{C:Addr}{c:Str}{b:Bool}{r:List (Addr×Bool)}{tb:List (Str×Bool)}(ca:ClsAt K c C)(k:XKit K C)(h:zXm K its ((C,b)::r)=true)(rest:zXm K its r=true->IsyOk K its tb):IsyOk K its ((c,b)::tb):=by
 unfold zXm at h
 rw[Yp,Qg] at h
 exact⟨⟨C,ca,k,Eh.mp h.1⟩,rest h.2⟩
def dN (cs:List Addr):List V:=cs.map .ref
def zYx (cs:List Addr):List Value:=cs.map .ref
theorem zYw:∀ {cs:List Addr} {us:List Value},Vals (dN cs) us->us=zYx cs
 | [],_,h=>by cases h;rfl
 | c::r,_,h=>by
   cases h with
   | cons h1 h2 =>
     have e:=zYw h2
     subst e
     cases h1
     rfl
def tCs (vs:List V):TA:=fun _ H Q=>Q vs H
section
variable {X:Cx} {a b c e:Expr} {es:List Expr} {fa:Ef} {pos p:Pos}
theorem zTs:PA X [] (tCs (dN [])):=yJ
theorem zZ2 {C:Addr}{cs:List Addr}(h:PE X e (tC (.ref C)))(hr:PA X es (tCs (dN cs)))(hs:starEach (e::es) X.env=(false,eval e X.env)::starEach es X.env:=by rfl):PA X (e::es) (tCs (dN (C::cs))):=zC h hr hs
theorem zS9 {cs:List Addr}{tb:List (Str×Bool)}(h:IsyOk X.K (zYx cs) tb):CallR X (.builtin "isinstance") (fun xs H Q=>∃x G c ns ds b q,xs=[x,.ref q]/\Rd H q (.tup (dN cs))/\Same G H/\Rep X.K G (.exc c ns ds) x/\tb.lookup c=some b/\Q (.bl b) H):=by
 intro pins s σ H xs us Q I r hh
 obtain⟨x,G,c,ns,ds,b,q,rfl,hq,sub,rx,ht,k⟩:=hh
 obtain⟨u,u',rfl,ru,ru'⟩:=zUO r
 cases ru'
 obtain⟨C,hC,hk,ho⟩:=h.at ht
 obtain⟨C',a,od,vs,h0,rfl,h1,_⟩:=oU.mp rx
 have ec:=hC.one h0
 subst ec
 cases ru
 obtain⟨⟨fs,h2⟩,_⟩:=(show ObjOk X.prog X.w H s.heap a (.ext _) from I.hok a _ (sub _ _ h1))
 obtain⟨its,rv,⟨o,t1,t2,n,t3⟩,_⟩:=I.tuple (.inl hq)
 have ei:=zYw rv
 subst ei
 obtain⟨oc,od',oda,osl⟩:=o
 cases t2
 cases t3
 exact PySem.W.kia_tup (zXi hk.cl hk.ga hk.gt hk.gc hk.so hk.sb) I.kIn ⟨_,h2,rfl⟩ t1 ho (fun z=>nomatch z) fun tk=>⟨.bl b,H,I.tok tk,rfl,k⟩
theorem zPf {cs:List Addr}{tb:List (Str×Bool)}{k1:Nat}{p1:Pos}(hok:IsyOk X.K (zYx cs) tb)(hcs:PA X es (tCs (dN cs)))(hl:cs.length<=1000)(hg:Gl X "isinstance")(hm:X.mg "isinstance"=none)(h:PF X a fa)
   (hs:starEach [a,.Tuple es k1 p1] X.env=[(false,eval a X.env),(false,eval (.Tuple es k1 p1) X.env)]:=by rfl):PF X (.Call (.Name "isinstance" p) [a,.Tuple es k1 p1] [] pos) (bP tb fa):=by
 refine PE.to (rD (zS9 (cs:=cs) hok) hg hm (by rfl) (zC h (zC (zRM (x1:=k1) hcs) yJ) (by rw[hs];rfl)) (by decide) (by decide) (by rw[hs];rfl) (by rfl)) ?_
 rintro σ H Q ⟨G0,H0,G,ρ,d,good,hf,k⟩
 unfold bP at hf
 obtain⟨x,h1,hf⟩:=Qq.mp hf
 cases x with
 | exc c ns ds =>
   obtain⟨b,h2,rfl⟩:=Qt.mp hf
   refine⟨G0,H0,G,ρ,_,good,h1,fun v H1 G1 s1 r1=>⟨?_,fun q hq=>?_⟩⟩
   · rw[Ro,dN,Qu];omega
   · have s2:=Step.laid (o:=.tup (dN cs)) s1.sub hq
     exact⟨v,_,c,ns,ds,b,q,rfl,.of zN,s2.sub,r1.mono s2.gg,h2,k _ _ _ (s1.trans s2) (xF.mpr rfl)⟩
 | _=>cases hf
end
section
theorem zOQ {X:Cx}:∀e s,¬X.nox.xe e s:=fun _ _ z=>z
variable {e:Expr}
def ExOk (K:PySem.W.Frag)(Y:Addr):List Str->Prop
 | []=>True
 | c::r=>(∃C,ClsAt K c C/\PySem.W.exmOne K (.ref C) (.ref Y)=some true)/\ExOk K Y r
theorem ExOk.at {K:PySem.W.Frag}{Y:Addr}:∀ {cs:List Str} {c:Str},ExOk K Y cs->cs.contains c=true->∃C,ClsAt K c C/\PySem.W.exmOne K (.ref C) (.ref Y)=some true
 | [],c,_,h=>by cases h
 | n::r,c,⟨h1,h2⟩,h=>by
   rw[Ru,Rv] at h
   rcases h with h | h
   · have e:=Eh.mp h
     subst e
     exact h1
   · exact h2.at h
theorem PFSs.nox {X:Cx}{sts:List Stmt}{g:Sf}(h:PFSs X.nox sts g):PFSs X sts g:=fun pins s σ H D I hw =>
 Eu (h pins s σ H D (I.wish _) hw) (fun _ _ q=>q.unwish) fun _ _ z=>False.elim z
end
structure FlyV (h:Heap)(H:Hp)(h0:Heap)(C a:Addr)(od:Option Addr):Prop where
 ob:∃vs v,h.get? a=some { cls:=.ref C,dict:=od,data:=.fields vs,slots:=#[] }/\vs[1]?=some v/\aV h a v/\∀T,v = .ref T->H T=none/\h0.get? T=none
 tr:H a=some (.ext (Xe C a od))
 new:h0.get? a=none
def CXv (P:Program)(w:World):CXT:=fun outer H s E e s'=>∃C a od H',e = .ref a/\s'.os=s.os/\AllBare s'.gens/\Un (frs outer) [] H H' s.heap s'.heap/\HOk P w H' s'.heap/\FlyV s'.heap H' s.heap C a od/\E (.ref a) none H'
section
variable {P:Program} {w:World} {K:PySem.W.Frag} {mg:Str->Option Value} {base:Heap} {N:List Str} {qual:Str} {scope:Scope} {f:Addr} {cd:Value} {A:Around} {outer:List Env} {s₀ s:Shared} {H₀ H:Hp} {E:XK} {pins:List (Addr×Obj)} {σ:St} {C a:Addr} {od:Option Addr}
theorem zYg {h:Heap}{vs:Array Value}(e:h.get? a=some { cls:=.ref C,dict:=od,data:=.fields vs,slots:=#[] }):ObjOk P w H h a (.ext (Xe C a od)):=by
 exact⟨⟨vs,e⟩,⟨_,e⟩,fun h1 h2 x k=>Xe.mono h1 h2 x k⟩
theorem zSy (I:Inv (oZ (CXv P w) P w K mg base N qual scope f cd A outer s₀ H₀ E) pins σ H s)(fl:FlyV s.heap H s₀.heap C a od)(hE:E (.ref a) none H) :
   (oZ (CXv P w) P w K mg base N qual scope f cd A outer s₀ H₀ E).xe (.ref a) s:=by
 obtain⟨vs,v,ho,hv,hh,hT⟩:=fl.ob
 have hfr:=I.ok.frames
 have hst:=I.stack
 have hfree:=I.stkFree
 show wpAny (model P w) (A.deeper (envOfC qual scope s₀.heap.objs.size f cd)) (leaving (envOfC qual scope s₀.heap.objs.size f cd) (.ref a)) _ _ s
 refine zWT (base:=base) hfr hst rfl ho hv hh fun h' fw=>?_
 have old:∀b o,s₀.heap.get? b=some o->b≠a/\some (Value.ref b)≠vs[1]?/\b≠s₀.heap.objs.size:=fun b o q=>by
   refine⟨fun z=>?_,fun z=>?_,fun z=>Wa _ (z ▸ Qy q)⟩
   · rw[z,fl.new] at q;cases q
   · rw[hv] at z
     have:=(hT b (Wo z).symm).2
     rw[this] at q;cases q
 have inF:∀b,b∈frs (envOfC qual scope s₀.heap.objs.size f cd::outer)↔b=s₀.heap.objs.size∨b∈frs outer:=fun b=>by
   show b∈List.filterMap (·.frame) (_::outer)↔_
   rw[Tg]
   show b∈s₀.heap.objs.size::frs outer↔_
   exact Qf
 have U:=I.base
 refine⟨C,a,od,H,rfl,I.os,I.bare,⟨fun b o q n hb hx=>?_,fun b o q n hb hx=>?_,fun b o q n hx=>U.free b o q n hx,fun b o q hx=>?_,U.tups,U.frzs,U.tbls⟩,fun b o q=>?_,⟨⟨_,_,fw.obj,by rw[Rn (Er.mp hv).1],.inr ?_,fun T z=>?_⟩,fl.tr,fl.new⟩,hE⟩
 · obtain⟨n1,n2,n3⟩:=old b o q
   exact fw.keep b o (U.keep b o q n hb hx) n1 (fun z=>((inF b).mp z).elim n3 hb) n2
 · obtain⟨n1,n2,n3⟩:=old b o q
   obtain⟨z,q1⟩:=U.slot b o q n hb hx
   obtain⟨z',q2⟩:=fw.slot b _ q1 n1 ((inF b).mpr (.inr hb)) n2
   exact⟨z',q2⟩
 · obtain⟨n1,n2,n3⟩:=old b o q
   obtain⟨o1,q1⟩:=U.there b o q hx
   by_cases hb:b∈frs (envOfC qual scope s₀.heap.objs.size f cd::outer)
   · obtain⟨z,q2⟩:=fw.slot b o1 q1 n1 hb n2
     exact⟨_,q2⟩
   · exact⟨o1,fw.keep b o1 q1 n1 hb n2⟩
 · by_cases hba:b=a
   · subst hba
     rw[fl.tr] at q
     cases q
     exact zYg fw.obj
   refine(I.hok b o q).stay (fun b' u hb' q'=>?_) (fun _ z=>z) (fun _ _ z=>z)
   have tr:H b'≠none:=by
     rcases hb' with z | z
     · rw[z,q];exact fun y=>nomatch y
     · rw[z];exact fun y=>nomatch y
   refine fw.keep b' u q' (fun z=>?_) (fun z=>tr (hfree b' z)) fun z=>?_
   · rcases hb' with y | y
     · exact hba (y.symm.trans z)
     · rw[z,fl.tr] at y;cases y
   rw[hv] at z
   exact tr (hT b' (Wo z).symm).1
 · obtain⟨oT,ts,h1,h2,h3⟩:=fw.head
   exact⟨_,oT,ts,rfl,fw.ne,h1,h2,h3⟩
 · cases z
   refine⟨I.fresh,?_⟩
   cases y:s₀.heap.get? s.heap.objs.size with
   | none=>rfl
   | some o=>exact absurd (Qy y) (Nat.not_lt.mpr I.sz)
theorem zOi {E':XK}(h:∀(a:Addr) (H:Hp),E' (.ref a) none H->E (.ref a) none H):qU (CXv P w) (oZ (CXv P w) P w K mg base N qual scope f cd A outer s₀ H₀ E) E':=by
 intro pins σ H s e s' I hx
 obtain⟨C,a,od,H',rfl,os,bare,un,hok,fl,he⟩:=hx
 have I':Inv (oZ (CXv P w) P w K mg base N qual scope f cd A outer s₀ H₀ E) pins σ H' s':=I.call' (ch:=[]) os un hok bare (fun b z=>absurd z (by simp))
 obtain⟨vs,v,ho,hv,hh,hT⟩:=fl.ob
 have back:∀b,s.heap.get? b=none->s₀.heap.get? b=none:=fun b z=>by
   cases y:s₀.heap.get? b with
   | none=>rfl
   | some o =>
     obtain⟨o',q⟩:=I.base.there b o y (fun z=>nomatch (show b∈([]:List Addr) from z))
     rw[z] at q;cases q
 exact zSy I' ⟨⟨vs,v,ho,hv,hh,fun T z=>⟨(hT T z).1,back T (hT T z).2⟩⟩,fl.tr,back a fl.new⟩ (h a H' he)
end
def Xn (C a:Addr)(od:Option Addr):Heap->Prop:=fun h=>∃fs,h.get? a=some { cls:=.ref C,dict:=od,data:=.fields fs }/\fs[1]?=some .none
theorem Xn.mono {C a:Addr}{od:Option Addr}(h1 h2:Heap)(x:Xn C a od h1)(k:∀o,h1.get? a=some o->h2.get? a=some o):Xn C a od h2:=by
 obtain⟨f,e,q⟩:=x
 exact⟨f,k _ e,q⟩
section
variable {X:Cx} {a b c e:Expr} {fa:Ef} {ta:Tf} {pos p:Pos} {st:Stmt}
def zPN (H:Hp)(a C:Addr)(f:Str)(y:V)(R:Hp->Prop):Option Addr->Prop
 | none=>∀dx,H dx=none->dx≠a->R (upd (upd H dx (.ext (Xd dx [(f,y)]))) a (.ext (Xn C a (some dx))))
 | some dx=>dx≠a/\∃fs,H dx=some (.ext (Xd dx fs))/\fs.length < 1000/\R (upd H dx (.ext (Xd dx (nC f y fs))))
def zML (K:PySem.W.Frag)(ta tv:TE)(f:Str):TS:=fun D σ H=>tv σ H fun y H1=>ta σ H1 fun x H2=>∃a C od,x = .ref a/\H2 a=some (.ext (Xn C a od))/\XSt K C/\NoAttr K C f/\zPN H2 a C f y (fun H3=>D.nx σ H3) od
theorem zQK {pins:List (Addr×Obj)}{σ:St}{H:Hp}{s:Shared}{a C:Addr}{od:Option Addr}{f:Str}{y:V}{u:Value}{A:Around}{E:Value->Shared->Prop}{R:Hp->Prop}{Q:Unit->Shared->Prop}(I:Inv X pins σ H s)(e:H a=some (.ext (Xn C a od)))(k:XSt X.K C)(n:NoAttr X.K C f)(ry:RelV y u)
   (h:zPN H a C f y R od)
   (hq:∀H' s',Inv X pins σ H' s'->R H'->Q () s'):wpAny (model X.prog X.w) A (setAttr (.ref a) f u) Q E s:=by
 obtain⟨⟨g,h2,hg1⟩,_⟩:=(show ObjOk X.prog X.w H s.heap a (.ext _) from I.hok a _ e)
 obtain⟨nm,q,N,bs,bm,sn,sub,ab,col,dd,k0,k1,k2,k3,k5,hk,hr⟩:=k.ob
 cases od with
 | none =>
   have sz:s.heap.objs.size<=s.heap.objs.size:=Ql _
   have fr:H s.heap.objs.size=none:=I.hok.fresh sz
   have hne:s.heap.objs.size≠a:=(yK e fr).symm
   have hR:=h _ fr hne
   obtain⟨hh,g',d',t',os'⟩:=s
   refine zVb I.kIn h2 rfl k.sa k.kit.so fun A'=>zS4 I.kIn (I.kIn _ _ hk) hr n h2 rfl (fun c z=>nomatch z) rfl fun h' tk' e1 e2 e3=>⟨h',tk',rfl,rfl,?_⟩
   obtain⟨oD,eD⟩:∃o,h'.get? hh.objs.size=some o:=let ⟨o,_,_,e',_⟩:=e2;⟨o,e'⟩
   have pD:(hh.push oD).get? hh.objs.size=some oD:=Qh hh (Yc.mp eD).2
   have rel:∀f',RelO ([(f,y)].lookup f') (if f'=f then some u else none):=fun f'=>by
     by_cases z:f'=f
     · subst z;rw[Wr rfl,Wc,Td];exact ry
     · rw[Wj z,Wc,Wl.mpr z];exact True.intro
   have I1:=I.laid (a:=hh.objs.size) (o:=.ext (Xd hh.objs.size [(f,y)])) (h':=hh.push oD) (t':=tk') (fun b v z=>Qr _ z) sz
     ⟨⟨_,e2.at fun o z=>by rw[eD] at z;cases z;exact pD,rel⟩,⟨_,pD⟩,Xd.mono⟩
   have ea:upd H hh.objs.size (.ext (Xd hh.objs.size [(f,y)])) a=some (.ext (Xn C a none)):=by rw[yS hne.symm];exact e
   have I2:=I1.write (x:=a) (e:=a) (o:=.ext (Xn C a (some hh.objs.size))) (h':=h') (t':=tk') (by rw[ea];exact True.intro) (.inl rfl) (fun b v hb z=>by
     by_cases hs:b=hh.objs.size
     · subst hs
       have z:(hh.push oD).get? hh.objs.size=some v:=z
       rw[pD] at z;cases z;exact eD
     · have z:(hh.push oD).get? b=some v:=z
       refine e3 b v hb ?_
       obtain⟨z1,z2⟩:=Yc.mp z
       have hlt:b < hh.objs.size:=by
         have q:=Qy z
         rw[Tp] at q
         exact Nat.lt_of_le_of_ne (Nat.le_of_lt_succ q) hs
       refine Yc.mpr ⟨?_,z2⟩
       rw[←z1]
       cases hh
       simp[Heap.push,Array.getElem?_push_lt,hlt,Array.getElem?_push,Wy hlt]) ⟨_,e1⟩ ⟨⟨_,e1,hg1⟩,⟨_,e1⟩,Xn.mono⟩
   exact hq _ _ I2 hR
 | some dx =>
   obtain⟨hne,fs,ed,hl,hR⟩:=h
   obtain⟨⟨mA,h3,r⟩,_⟩:=(show ObjOk X.prog X.w H s.heap dx (.ext _) from I.hok dx _ ed)
   have hw:PySem.Within mA (fs.map (·.1)):=fun z hz=>aA fun q=>hz (RelO.none_of (by rw[←q];exact r z))
   obtain⟨hh,g',d',t',os'⟩:=s
   refine zVb I.kIn h2 rfl k.sa k.kit.so fun A'=>zQL I.kIn (I.kIn _ _ hk) hr n h2 rfl rfl hne h3 hw (by rw[Qu];omega) fun h' tk' e2 e3=>⟨h',tk',rfl,rfl,?_⟩
   obtain⟨oD,eD⟩:∃o,h'.get? dx=some o:=let ⟨o,_,_,e',_⟩:=e2;⟨o,e'⟩
   refine hq _ _ (I.write (x:=dx) (e:=dx) (o:=.ext (Xd dx (nC f y fs))) (h':=h') (t':=tk') (by rw[ed];exact True.intro) (.inl rfl) e3 ⟨_,eD⟩ ⟨⟨_,e2,fun f'=>?_⟩,⟨_,eD⟩,Xd.mono⟩) hR
   rw[kN]
   by_cases z:f'=f
   · rw[Wr z,Wr z];exact ry
   · rw[Wj z,Wj z];exact r f'
theorem zRO {o value:Expr}{f:Str}{ta tv:TE}{pos':Pos}(ha:PE X o ta)(hv:PE X value tv)(hs:swapsWith value (some (.Attribute o f pos')) pos.line X.env=pure false):PS X (.Assign [.Attribute o f pos'] value pos) (zML X.K ta tv f):=by
 intro pins s σ H D I h
 refine Iq (thn (hv pins s σ H _ I h) fun u s1 ⟨y,H1,I1,ry,q⟩=>thn (ha pins s1 σ H1 _ I1 q) fun ov s2 ⟨x,H2,I2,rx,a,C,od,ex,ea,c,n,q2⟩=>?_) hs
 subst ex
 obtain rfl:ov=Value.ref a:=rx
 exact zQK (R:=fun H3=>D.nx σ H3) I2 ea c n ry q2 fun H3 s3 I3 q3=>⟨σ,_,I3,q3⟩
def zUy (K:PySem.W.Frag)(C:Addr)(ns:List Str)(g:Lf):TS:=fun DD σ H=>∃(G0 H0 G:Hp) (ρ:List B) (p:Addr) (od:Option Addr) (pre:List Str) (us:List V) (xs ds:List D),
 Good K G0 H0 G H σ ρ/\aX ρ/\σ[0]?=some (some (.ref p))/\H p=some (.ext (Xn C p od))/\G p=none/\H0 p=none/\XW H G H0 p od (pre.zip us)/\pre.length=us.length/\(pre++ns).Nodup/\(pre++ns).length<=900/\Reps K G xs us/\g ρ=some ds /\
 ∀H' G' vs od',Step G0 H0 G' H'->H' p=some (.ext (Xn C p od'))->G' p=none->XW H' G' H0 p od' ((pre++ns).zip vs)->Reps K G' (xs++ds) vs->DD.nx σ H'
theorem zZ7 {C:Addr}:PSs X [] (zUy X.K C [] zS):=by
 intro pins s σ H D I h
 refine zXL pins s σ H D I ?_
 obtain⟨G0,H0,G,ρ,p,od,pre,us,xs,ds,good,now,hs,hp,gp,h0,xw,hl,nd,hz,rs,hg,k⟩:=h
 cases hg
 rw[Qb] at k
 exact k H G us od good.st hp gp xw (by rw[Qb];exact rs)
theorem nA {C:Addr}{f x:Str}{ns:List Str}{g:Lf}{rest:List Stmt}{pos' p1:Pos}(hcl:XSt X.K C)(hn:NoAttr X.K C f)(hself:X.N[0]?=some x)(hvis:Vis X.env.scope x)(he:PF X e fa)(hr:PSs X rest (zUy X.K C ns g))(hd:(x==("__debug__":Str))=false:=by decide)(hcd:(x==("__classdict__":Str))=false:=by decide)
   (hs:swapsWith e (some (.Attribute (.Name x p1) f pos')) pos.line X.env=pure false:=by rfl):PSs X (.Assign [.Attribute (.Name x p1) f pos'] e pos::rest) (zUy X.K C (f::ns) (zY fa g)):=by
 intro pins s σ H D I h
 refine kK (zRO (nX hself hvis hd hcd) he hs) hr pins s σ H D I ?_
 obtain⟨G0,H0,G,ρ,p,od,pre,us,xs,ds,good,now,hself,hp,gp,h0,xw,hl,nd,hz,rs,hg,k⟩:=h
 obtain⟨d,dr,h1,h2,rfl⟩:=kF hg
 have hlp:pre.length < 1000:=by rw[Qd] at hz;omega
 have hnp:f∉pre:=fun z=>(Yy.mp nd).2.2 f z f Qc rfl
 have e1:pre++f::ns=(pre++[f])++ns:=by simp
 refine⟨G0,H0,G,ρ,d,good,h1,fun v H1 G1 s1 r1=>⟨.ref p,hself,p,C,od,rfl,s1.hh _ _ hp,hcl,hn,?_⟩⟩
 have hne:H p≠none:=by rw[hp];exact fun z=>nomatch z
 have gp1:G1 p=none:=(s1.new p hne).trans gp
 have good1:=good.step s1
 have fin:∀H' G' vs od',Step G0 H0 G' H'->H' p=some (.ext (Xn C p od'))->G' p=none->XW H' G' H0 p od' (((pre++[f])++ns).zip vs)->Reps X.K G' ((xs++[d])++dr) vs->D.nx σ H':=fun H' G' vs od' st q1 q2 q3 q4=>by
   refine k H' G' vs od' st q1 q2 (by rw[e1];exact q3) ?_
   rw[show xs++d::dr=(xs++[d])++dr by simp]
   exact q4
 cases od with
 | none =>
   intro dx hdx hdp
   have hg1:G1 dx=none:=good1.sub.free hdx
   have hh0:H0 dx=none:=good1.st.hh.free hdx
   have ez:pre=[]/\us=[]:=by
     have z:pre.zip us=[]:=xw
     cases pre with
     | nil=>cases us with
       | nil=>exact⟨rfl,rfl⟩
       | cons _ _=>cases hl
     | cons _ _=>cases us with
       | nil=>cases hl
       | cons _ _=>cases z
   obtain⟨rfl,rfl⟩:=ez
   refine⟨G0,H0,G1,ρ,p,some dx,[]++[f],[]++[v],xs++[d],dr,(good1.wrX now hg1 hh0).wrX now gp1 h0,now,hself,zN,gp1,h0,⟨by rw[yS hdp,zN];rfl,hg1,hh0,hdp⟩,rfl,by rw[←e1];exact nd,by rw[←e1];exact hz,(rs.mono s1.gg).snoc r1,h2,fin⟩
 | some dx =>
   obtain⟨x1,x2,x3,x4⟩:=xw
   have hned:H dx≠none:=by rw[x1];exact fun z=>nomatch z
   have gd1:G1 dx=none:=(s1.new dx hned).trans x2
   refine⟨x4,pre.zip us,s1.hh _ _ x1,by rw[List.length_zip];omega,?_⟩
   refine⟨G0,H0,G1,ρ,p,some dx,pre++[f],us++[v],xs++[d],dr,good1.wrX now gd1 x3,now,hself,by rw[yS x4.symm];exact s1.hh _ _ hp,gp1,h0,⟨by rw[zN,zZ1 hl hnp],gd1,x3,x4⟩,by rw[Qd,Qd,hl];rfl,by rw[←e1];exact nd,by rw[←e1];exact hz,(rs.mono s1.gg).snoc r1,h2,fin⟩
end
def spN (K:PySem.W.Frag)(C:Addr)(ns:List Str)(n:Nat)(f:List D->Option (List D)):Sp:=fun vs H Q _=>∃(p:Addr) (rest:List V) (G H0:Hp) (ds xs:List D),vs = .ref p::rest/\H=upd H0 p (.ext (Xn C p none))/\H0 p=none/\Same G H0/\Reps K G ds rest/\ds.length=n/\f ds=some xs /\
 ∀H' G' us od',Step G H0 G' H'->H' p=some (.ext (Xn C p od'))->G' p=none->XW H' G' H0 p od' (ns.zip us)->Reps K G' xs us->Q .non H'
section
variable {P:Program} {w:World} {K:PySem.W.Frag} {mg:Str->Option Value} {base:Heap} {x qual:Str} {st:Stmt} {f C:Addr} {fd:FuncData} {N ps ns:List Str} {k:Nat} {sf:Str}
theorem bY {g:Lf}(F:Fun K x qual st f fd)(S:FnScope N (sf::ps) (zU st))(hnd:ns.Nodup)(hlen:ns.length<=900)
   (hb:∀(cdv:Value) (A:Around) (outer:List Env) (s:Shared) (H:Hp) (E:XK),Room k (A.deeper (envOfC qual (zU st) s.heap.objs.size f cdv))->PSs (oZ CX0 P w K mg base N qual (zU st) f cdv A outer s H E).nox (zJ st) (zUy K C ns g)) :
   FnOk P w K mg base CX0 (k+1) f fd (sf::ps) (spN K C ns ps.length fun ds=>g (oB N.length ds)):=by
 refine F.ok S (fun vs H Q E h=>?_) (fun cdv A outer s H vs Q E hr h=>⟨_,hb cdv A outer s H E hr,?_⟩)
 · obtain⟨p,rest,G,H0,ds,xs,rfl,_,_,_,rs,hl,_⟩:=h
   rw[Qo,Qo,←rs.length,hl]
 · obtain⟨p,rest,G,H0,ds,xs,rfl,rfl,h1,sub,rs,hl,hf,k⟩:=h
   have st2:Step G H0 G (upd H0 p (.ext (Xn C p none))):=Step.own sub h1
   have good:Good K G H0 G (upd H0 p (.ext (Xn C p none))) (wW N (.ref p::rest)) (oB N.length ds):=by
     refine⟨st2,?_,fun i j a es es' q1=>absurd q1 ((cQ _ ds).1 i es)⟩
     unfold wW oB
     rw[Qx,Qo,Wd,←rs.length]
     exact .cons .no (fP _ rs)
   refine⟨G,H0,G,_,p,none,[],[],[],xs,good,cQ _ ds,rfl,zN,sub.free h1,h1,rfl,rfl,hnd,hlen,yR.mpr rfl,hf,fun H' G' us od' s' q1 q2 q3 q4=>k H' G' us od' s' q1 q2 q3 q4⟩
variable {X:Cx}
theorem zTk {CX:CXT}{k:Nat}{f C:Addr}{fd:FuncData}{ps:List Str}{sp:Sp}{E:XK}{pins:List (Addr×Obj)}{σ:St}{H:Hp}{s:Shared}{Q:VK}{us:List Value}{vs:List V}(M:XMk X.K C f)(F:FnOk X.prog X.w X.K X.mg X.base CX k f fd ps sp)(hr:Room (k+1) X.A)(hb:Binds X.K fd ps [])
   (hx:qU CX X E) (I:Inv X pins σ H s) (r:Vals vs us) (hlen:vs.length<=1000)
   (h:∀x,H x=none->s.heap.get? x=none->sp (.ref x::vs) (upd H x (.ext (Xn C x none))) (fun v H2=>v = .non/\Q (.ref x) H2) E) :
   wpAny (model X.prog X.w) X.A (call (.ref C) us) (EP X pins σ Q) X.xe s:=by
 have nw:s.heap.get? (s.heap.objs.size+1)=none:=by
   cases y:s.heap.get? (s.heap.objs.size+1) with
   | none=>rfl
   | some o=>exact absurd (Qy y) (Nat.not_lt.mpr (Yw _))
 have hq:=h (s.heap.objs.size+1) (I.hok.fresh (Yw _)) nw
 obtain⟨nm,q,N,bs,bm,sn,sub,ab,col,dd,k0,k1,k2,k3,k5,hk,hrf⟩:=M.ob
 obtain⟨oI,hoI,hfc⟩:=zSZ I.kIn M.fn
 have hsl:1001<=sizeLine:=Ws (wU (by decide))
 have hl0:=r.length
 have I2:Inv X pins σ (upd H (s.heap.objs.size+1) (.ext (Xn C (s.heap.objs.size+1) none))) { s with heap:=(s.heap.push { cls:=.type "tuple",data:=.seq us.toArray }).push { cls:=.ref C,data:=.fields #[.ref s.heap.objs.size,.none,.none,.none,.bool false,.none] } }:=by
   have e2:((s.heap.push { cls:=.type "tuple",data:=.seq us.toArray }).push { cls:=.ref C,data:=.fields #[.ref s.heap.objs.size,.none,.none,.none,.bool false,.none] }).get? (s.heap.objs.size+1)=some { cls:=.ref C,data:=.fields #[.ref s.heap.objs.size,.none,.none,.none,.bool false,.none] }:=by
     have:=Qh (s.heap.push { cls:=.type "tuple",data:=.seq us.toArray }) (o:={ cls:=.ref C,data:=.fields #[.ref s.heap.objs.size,.none,.none,.none,.bool false,.none] }) rfl
     rwa[Tp] at this
   exact I.laid (t':=s.toks) (fun b u z=>Qr _ (Qr _ z)) (Yw _) ⟨⟨_,e2,rfl⟩,⟨_,e2⟩,Xn.mono⟩
 have r2:Vals (V.ref (s.heap.objs.size+1)::vs) (Value.ref (s.heap.objs.size+1)::us):=.cons rfl r
 have hl:(Value.ref (s.heap.objs.size+1)::us++[]).length=ps.length:=by
   rw[Qb,←r2.length,F.len _ _ _ _ hq]
 have hbt:=hb _ (Value.ref (s.heap.objs.size+1)::us) I2.kIn hl
 rw[Qb] at hbt
 have hb1:bm.contains (.type "ValueError")=true:=by rw[tH _ (fun a z=>by cases z) hrf];decide
 have hb2:bm.contains (.type "AttributeError")=false:=by rw[tH _ (fun a z=>by cases z) hrf];decide
 have hb3:bm.contains (.type "NameError")=false:=by rw[tH _ (fun a z=>by cases z) hrf];decide
 have run:=F.run _ X.stack _ _ ⟨Value.ref (s.heap.objs.size+1)::us,[]⟩ (Value.ref (s.heap.objs.size+1)::us) _ _ E (hr.make C us []) (I2.env0.make C us []) hbt r2 hq
 have fin:wpAny (model X.prog X.w) (X.A.under (.builtin "type.__call__" ⟨.ref C::us,[]⟩)) (call (.ref f) (.ref (s.heap.objs.size+1)::us)) (fun r s'=>r = .none/\EP X pins σ Q (.ref (s.heap.objs.size+1)) s') X.xe { s with heap:=(s.heap.push { cls:=.type "tuple",data:=.seq us.toArray }).push { cls:=.ref C,data:=.fields #[.ref s.heap.objs.size,.none,.none,.none,.bool false,.none] } }:=by
   refine Iw (Yl run fun r s' hq'=>?_)
   cases r with
   | error e=>exact hx pins σ _ _ e s' I2 hq'
   | ok fl =>
     cases fl with
     | ret u =>
       obtain⟨v,H',I3,rv,ev,q3⟩:=I2.after hq'
       subst ev
       exact⟨rv,⟨V.ref (s.heap.objs.size+1),H',I3,rfl,q3⟩⟩
     | next=>exact False.elim hq'
     | brk=>exact False.elim hq'
     | cont=>exact False.elim hq'
 obtain⟨hh,g',d',t',os'⟩:=s
 exact zQe I.kIn (I.kIn _ _ hk) hb1 hb2 hb3 M.init hoI hfc (by omega) fin
end
theorem Step.wrV {G H G' H':Hp}{p:Addr}{o:HO}(s:Step G H G' H')(hp:H p=none)(g':G' p=none):Step G H G' (upd H' p o) :=
 ⟨fun b u e=>by rw[yS (yK e hp)];exact s.hh b u e,s.gg,fun b u e=>by rw[yS (yK e g')];exact s.sub b u e,s.new⟩
def cK (X:Cx)(E:XK):Prop:=∀(pins:List (Addr×Obj)) (σ:St) (H:Hp) (s:Shared) (C a:Addr) (od:Option Addr),Inv X pins σ H s->FlyV s.heap H X.s₀.heap C a od->E (.ref a) none H->X.xe (.ref a) s
section
variable {P:Program} {w:World} {K:PySem.W.Frag} {mg:Str->Option Value} {base:Heap} {N:List Str} {qual:Str} {scope:Scope} {f:Addr} {cd:Value} {A:Around} {outer:List Env} {s₀:Shared} {H₀:Hp} {E:XK}
theorem mT:cK (oZ (CXv P w) P w K mg base N qual scope f cd A outer s₀ H₀ E) E:=fun pins σ H s C a od I fl hE=>zSy I fl hE
theorem cL:qU (CXv P w) (oZ (CXv P w) P w K mg base N qual scope f cd A outer s₀ H₀ E) E:=zOi fun _ _ h=>h
end
section
variable {M:Model} {A:Around} {E:Value->Shared->Prop} {s:Shared} {env:Env} {nm q:Str} {C N:Addr} {bs bm:List Value} {hdct:Bool} {sn:List Str} {sub:List Value} {ab:Bool} {col:Option Bool} {dd:Option Addr} {k0 k1 k2 k3 k5:Option Value} {newId:String}
theorem zTA {x:Sem Value}{Q:Flow->Shared->Prop}(hbase:bm.contains (.type "BaseException")=true)(hh:A.handled=none)
   (h:wpAny M A x (fun v s₁=>∃e od fs,v = .ref e/\s₁.heap.get? C=some (excClassObj nm q C N bs bm hdct sn sub ab col dd k0 k1 k2 k3 k5 newId) /\
     s₁.heap.get? e=some { cls:=.ref C,dict:=od,data:=.fields fs }/\fs[1]?=some .none/\E (.ref e) s₁) E s) :
   wpAny M A (raiseStmt env (some x) none) Q E s:=by
 have hcB:(Value.ref C::bm).contains (.type "BaseException")=true:=by rw[Ru,hbase,Bool.or_true]
 unfold raiseStmt
 refine Qe (Eu h (fun v s₁ h₁=>?_) fun _ _ x=>x)
 obtain⟨e,od,fs,rfl,hC,he,hf,hE⟩:=h₁
 obtain⟨hp,g,d,tk,os⟩:=s₁
 repeat (first | with_reducible refine Ep he rfl hf ?_ | with_reducible refine Ww he ?_ | with_reducible refine Ww hC ?_ | (with_reducible refine Yh hC ?_;rw[hcB]) | wp_step)
 exact wpAny_raiseNew_none hh hE
end
def tVS (K:PySem.W.Frag)(E:XK)(x:Ef):TS:=fun _ σ H=>∃G0 H0 G ρ t,Good K G0 H0 G H σ ρ/\x ρ=some t/\∀a H' G',Step G0 H0 G' H'->Rep K G' t (.ref a)->E (.ref a) none H'
def PVS (X:Cx)(E:XK)(st:Stmt)(x:Ef):Prop:=PS X st (tVS X.K E x)
def zWp (X:Cx)(E:XK)(sts:List Stmt)(x:Ef):Prop:=PSs X sts (tVS X.K E x)
def tVE (K:PySem.W.Frag)(E:XK)(x:Ef):TE:=fun σ H _=>∃G0 H0 G ρ t,Good K G0 H0 G H σ ρ/\x ρ=some t/\∀a H' G',Step G0 H0 G' H'->Rep K G' t (.ref a)->E (.ref a) none H'
def PVE (X:Cx)(E:XK)(e:Expr)(x:Ef):Prop:=PE X e (tVE X.K E x)
def spV (K:PySem.W.Frag)(n:Nat)(d:List D->Option D)(x:List D->Option D):Sp:=fun vs H Q E=>∃G ds,Same G H/\Reps K G ds vs/\ds.length=n /\
 ((∃r,d ds=some r/\∀v H' G',Step G H G' H'->Rep K G' r v->Q v H')∨∃t,x ds=some t/\∀a H' G',Step G H G' H'->Rep K G' t (.ref a)->E (.ref a) none H')
def nU:Ef:=fun _=>none
def vIf (tt:Tf)(xa xb:Ef):Ef:=fun ρ=>(tt ρ).bind fun c=>if c=true then xa ρ else xb ρ
def oY (x:Ef)(f:Sf)(y:Ef):Ef:=fun ρ=>match x ρ with
 | some t=>some t
 | none=>(f ρ).bind fun o=>match o with | .nx ρ'=>y ρ' | _=>none
def fnV (n:Nat)(x:Ef):List D->Option D:=fun ds=>x (qX n ds)
section
variable {X:Cx} {E:XK} {a b e:Expr} {es:List Expr} {ga:Lf} {tt:Tf} {f:Sf} {x y xa xb:Ef} {pos p cpos:Pos} {st:Stmt} {sts rest:List Stmt}
theorem rE {k n:Nat}{C fI:Addr}{fd:FuncData}{ps ns:List Str}{c:Str}{f:List D->Option (List D)}(hC:ClsAt X.K c C)(M:XMk X.K C fI)(F:FnOk X.prog X.w X.K X.mg X.base CX0 k fI fd ps (spN X.K C ns n f))(hx:X.ex=[])(hr:Room (k+1) X.A)(hm:X.mg c=some (.ref C))(hb:Binds X.K fd ps [])(hg:Gl X c)(hc:X.calm=true)(th:cK X E)(ha:PFA X (e::es) ga)
   (hdb:(c==("__debug__":Str))=false:=by decide) (he:starEach (e::es) X.env=(false,eval e X.env)::starEach es X.env:=by rfl) (hpl:(backTo cpos (starEach es X.env)).any (·.1)=false:=by rfl) :
   PVS X E (.Raise (some (.Call (.Name c p) (e::es) [] cpos)) none pos) (uD c ns n f ga):=by
 intro pins s σ H D I h
 obtain⟨G0,H0,G,ρ,t,good,hf,kk⟩:=h
 unfold uD at hf
 obtain⟨ds,h1,hf⟩:=Qq.mp hf
 split at hf
 · rename_i hl
   obtain⟨hl,hn1⟩:=hl
   obtain⟨xs,h2,hf⟩:=Qq.mp hf
   split at hf
   · rename_i hn
     cases hf
     obtain⟨nm,q,N,bs,bm,sn,sub,ab,col,dd,k0,k1,k2,k3,k5,hk,hrf⟩:=M.ob
     have hb1:bm.contains (.type "BaseException")=true:=by rw[tH _ (fun a z=>by cases z) hrf];decide
     rw[arm_exec_Raise]
     refine Qe (Uq (zTA (C:=C) (nm:=nm) (q:=q) (N:=N) (bs:=bs) (bm:=bm) (hdct:=true) (sn:=sn) (sub:=sub) (ab:=ab) (col:=col) (dd:=dd) (k0:=k0) (k1:=k1) (k2:=k2) (k3:=k3) (k5:=k5) (newId:="ValueError.__new__") hb1 (I.ok.hd hc) ?_))
     refine Qe (thn ?_ fun v s1 q=>Qe (Uq (Qa q)))
     refine Rl (kH I hg hm ?_ hdb)
     refine Yz (h₀:=X.base) I.ok.mod.kin M.kp (thn (ha cpos pins s σ H (fun vs H1=>∃G1,Step G H G1 H1/\Reps X.K G1 ds vs) I ⟨G0,H0,G,ρ,ds,good,h1,fun vs H1 G1 s1 r1=>⟨G1,s1,r1⟩⟩) fun us s1 ⟨vs,H1,I1,r,G1,st1,r1⟩=>⟨I1.kIn,?_⟩) he hpl
     rw[We]
     refine thn (zTk (E:=E0) (Q:=fun v H2=>∃x G' us od',v = .ref x/\H1 x=none/\s1.heap.get? x=none/\Step G1 H1 G' H2/\H2 x=some (.ext (Xn C x od'))/\G' x=none/\XW H2 G' H1 x od' (ns.zip us)/\Reps X.K G' xs us) M F hr hb zU7 I1 r (by rw[←r1.length];omega) fun x hx nw=>⟨x,vs,G1,H1,ds,xs,rfl,rfl,hx,st1.sub,r1,hl,h2,fun H' G' us od' s' q1 q2 q3 q4=>⟨rfl,x,G',us,od',rfl,hx,nw,s',q1,q2,q3,q4⟩⟩) fun v s2 ⟨v',H2,I2,rv,x,G',us',od',ev,hx1,nw,s',q1,q2,q3,q4⟩=>?_
     subst ev
     obtain rfl:v=Value.ref x:=rv
     obtain⟨⟨fs,e,hf1⟩,_⟩:=(show ObjOk X.prog X.w H2 s2.heap x (.ext _) from I2.hok x _ q1)
     have I3:Inv X pins σ (upd H2 x (.ext (Xe C x od'))) s2:=I2.write (x:=x) (e:=x) (o:=.ext (Xe C x od')) (h':=s2.heap) (t':=s2.toks) (by rw[q1];exact True.intro) (.inl rfl) (fun b u _ z=>z) ⟨_,e⟩ (zYg e)
     refine⟨x,od',fs,rfl,I2.kIn _ _ hk,e,hf1,th pins σ _ s2 C x od' I3 ⟨⟨fs,_,e,hf1,.inl rfl,fun T z=>nomatch z⟩,zN,?_⟩ ?_⟩
     · cases z:X.s₀.heap.get? x with
       | none=>rfl
       | some o =>
         obtain⟨u,y⟩:=I1.base.there x o z (by rw[hx];simp)
         rw[nw] at y;cases y
     · have sw:Step G1 H1 G' (upd H2 x (.ext (Xe C x od'))):=s'.wrV hx1 q2
       cases od' with
       | none =>
         exact kk _ _ _ (good.st.trans (st1.trans (sw.frz hx1 zN q2))) (oU.mpr ⟨C,x,none,us',hC,rfl,zN,q3,hn,q4.mono (Same.new q2)⟩)
       | some dx =>
         obtain⟨y1,y2,y3,y4⟩:=q3
         have sa:=sw.frz y3 ((yS y4).trans y1) y2
         have gx:upd G' dx (.ext (Xd dx (ns.zip us'))) x=none:=by rw[yS y4.symm];exact q2
         have sb:=sa.frz hx1 zN gx
         refine kk _ _ _ (good.st.trans (st1.trans sb)) (oU.mpr ⟨C,x,some dx,us',hC,rfl,zN,?_,hn,(q4.mono (Same.new y2)).mono (Same.new gx)⟩)
         show upd (upd G' dx _) x _ dx=_
         rw[yS y4,zN]
   · cases hf
 · cases hf
theorem dR (ht:PFT X a tt)(h1:zWp X E sts xa)(h2:zWp X E rest xb):PVS X E (.If a sts rest pos) (vIf tt xa xb):=by
 intro pins s σ H D I h
 obtain⟨G0,H0,G,ρ,t,good,hq,k⟩:=h
 obtain⟨v,hv,hq⟩:=Qq.mp hq
 refine zPI ht h1 h2 pins s σ H D I ⟨G0,H0,G,ρ,v,good,hv,fun H1 G1 st=>?_⟩
 cases v with
 | true =>
   rw[Wr rfl] at hq
   exact⟨G0,H0,G1,ρ,t,good.step st,hq,k⟩
 | false =>
   rw[Wj (by decide)] at hq
   exact⟨G0,H0,G1,ρ,t,good.step st,hq,k⟩
theorem fX:PVS X E st nU:=fun pins s σ H D I h=>by
 obtain⟨_,_,_,_,_,_,z,_⟩:=h;cases z
theorem uP (h:PVS X E st x):zWp X E (st::rest) x:=by
 intro pins s σ H D I q
 refine kK (u:=fun _ _ _=>False) h (fun pins s σ H D I z=>z.elim) pins s σ H D I ?_
 exact q
theorem uC (h1:PVS X E st x)(hf:PFS X st f)(h2:zWp X E rest y):zWp X E (st::rest) (oY x f y):=by
 intro pins s σ H D I q
 obtain⟨G0,H0,G,ρ,t,good,hq,k⟩:=q
 unfold oY at hq
 split at hq
 · rename_i t' hx
   cases hq
   exact uP h1 pins s σ H D I ⟨G0,H0,G,ρ,t,good,hx,k⟩
 · obtain⟨o,ho,hq⟩:=Qq.mp hq
   split at hq
   · rename_i ρ'
     exact kK hf h2 pins s σ H D I ⟨G0,H0,G,ρ,.nx ρ',good,ho,fun σ' H' G' sg g'=>⟨G0,H0,G',ρ',t,g',hq,k⟩⟩
   · cases hq
theorem zOw (h:PVE X E e x):PVS X E (.Return (some e) pos) x:=fun pins s σ H D I q=>zXR h pins s σ H D I q
theorem zSs (i:Nat){y:Str}{pos':Pos}(hN:X.N.Nodup)(he:PVE X E e x)(hi:X.N[i]?=some y:=by rfl)(hx:Loc X.env.scope y:=by first | exact .inl rfl | exact .inr rfl)(hs:swapsWith e (some (.Name y pos')) pos.line X.env=pure false:=by rfl)
   (hf:X.fn y=true∨X.env.scope.names.lookup y=some .local:=by first | exact .inl rfl | exact .inr rfl):PVS X E (.Assign [.Name y pos'] e pos) x :=
 fun pins s σ H D I h=>aB hN hi hx he hs hf pins s σ H D I h
theorem gS {k n:Nat}{fad:Addr}{fd:FuncData}{ps:List Str}{y:Str}{d xf:List D->Option D}(F:FnOk X.prog X.w X.K X.mg X.base (CXv X.prog X.w) k fad fd ps (spV X.K n d xf))(hp:qU (CXv X.prog X.w) X E)(hr:Room k X.A)(hm:X.mg y=some (.ref fad))(hk:PySem.W.keepIn X.K (.ref fad)=true)(hb:Binds X.K fd ps [])(hg:Gl X y)
   (ha:PFA X (e::es) ga) (hdb:(y==("__debug__":Str))=false:=by decide) (he:starEach (e::es) X.env=(false,eval e X.env)::starEach es X.env:=by rfl) (hpl:(backTo pos (starEach es X.env)).any (·.1)=false:=by rfl) :
   PVE X E (.Call (.Name y p) (e::es) [] pos) (zI n xf ga):=by
 intro pins s σ H Q I h
 obtain⟨G0,H0,G,ρ,t,good,hq,k⟩:=h
 unfold zI at hq
 obtain⟨ds,h1,hq⟩:=Qq.mp hq
 split at hq
 · rename_i hl
   refine gH (E:=E) F hr hg hm hk hb .nil hp ha hdb he hpl pins s σ H Q I ⟨G0,H0,G,ρ,_,good,h1,fun vs H1 G1 s1 r1=>?_⟩
   show spV X.K n d xf (vs++[]) H1 Q E
   rw[Qb]
   exact⟨G1,ds,s1.sub,r1,hl,.inr ⟨t,hq,fun a H' G' st r=>k a H' G' (good.st.trans (s1.trans st)) r⟩⟩
 · cases hq
theorem xO {k n:Nat}{fad:Addr}{fd:FuncData}{ps:List Str}{y:Str}{d xf:List D->Option D}(F:FnOk X.prog X.w X.K X.mg X.base (CXv X.prog X.w) k fad fd ps (spV X.K n d xf))(hr:Room k X.A)(hm:X.mg y=some (.ref fad))(hk:PySem.W.keepIn X.K (.ref fad)=true)(hb:Binds X.K fd ps [])(hg:Gl X y)
   (ha:PFA X (e::es) ga) (hdb:(y==("__debug__":Str))=false:=by decide) (he:starEach (e::es) X.env=(false,eval e X.env)::starEach es X.env:=by rfl) (hpl:(backTo pos (starEach es X.env)).any (·.1)=false:=by rfl) :
   PF X (.Call (.Name y p) (e::es) [] pos) (zI n d ga):=by
 refine PE.to (gH (E:=E0) F hr hg hm hk hb .nil (fun pins σ H s e s' I h=>by obtain⟨_,_,_,_,_,_,_,_,_,_,z⟩:=h;exact z.elim) ha hdb he hpl) ?_
 rintro σ H Q ⟨G0,H0,G,ρ,r,good,hf,k⟩
 unfold zI at hf
 obtain⟨ds,h1,hf⟩:=Qq.mp hf
 split at hf
 · rename_i hl
   refine⟨G0,H0,G,ρ,_,good,h1,fun vs H1 G1 s1 r1=>?_⟩
   show spV X.K n d xf (vs++[]) H1 Q E0
   rw[Qb]
   exact⟨G1,ds,s1.sub,r1,hl,.inl ⟨r,hf,fun v H' G' st rr=>k v H' G' (s1.trans st) rr⟩⟩
 · cases hf
end
section
variable {P:Program} {w:World} {K:PySem.W.Frag} {mg:Str->Option Value} {base:Heap} {x qual:Str} {st:Stmt} {f:Addr} {fd:FuncData} {N ps:List Str} {k:Nat}
theorem fL {body:Sf}{xb:Ef}(F:Fun K x qual st f fd)(S:FnScope N ps (zU st))
   (hb:∀(cdv:Value) (A:Around) (outer:List Env) (s:Shared) (H:Hp) (E:XK),Room k (A.deeper (envOfC qual (zU st) s.heap.objs.size f cdv))->PFSs (oZ (CXv P w) P w K mg base N qual (zU st) f cdv A outer s H E).nox (zJ st) body)
   (hx:∀(cdv:Value) (A:Around) (outer:List Env) (s:Shared) (H:Hp) (E:XK),Room k (A.deeper (envOfC qual (zU st) s.heap.objs.size f cdv))->zWp (oZ (CXv P w) P w K mg base N qual (zU st) f cdv A outer s H E) E (zJ st) xb) :
   FnOk P w K mg base (CXv P w) (k+1) f fd ps (spV K ps.length (fnF N.length body) (fnV N.length xb)):=by
 obtain⟨oc,od,kV,doc,pm,an,cdv,ct,osl,rfl,lk,hcd⟩:=F.ex
 refine zPM lk hcd S (fun vs H Q E h=>?_) fun A outer s H vs Q E hr h=>?_
 · obtain⟨G,ds,sub,rs,hl,_⟩:=h
   rw[←rs.length];exact hl
 · obtain⟨G,ds,sub,rs,hl,h | ⟨t,hc,k⟩⟩:=h
   · obtain⟨d,hf,k⟩:=h
     refine⟨_,(hb cdv A outer s H E hr).nox,?_⟩
     unfold fnF at hf
     obtain⟨o,h1,h2⟩:=Qq.mp hf
     refine⟨G,H,G,_,o,mR sub rs,h1,?_⟩
     cases o with
     | nx ρ=>cases h2;exact fun σ' H' G' s' g'=>k .non H' G' g'.st (sP.mpr rfl)
     | rt e=>cases h2;exact fun v H' G' s' r=>k v H' G' s' r
     | rl es=>cases h2;exact fun p us H' G' s' hn hp gp r=>k _ H' (upd G' p (.lst us)) (s'.frz hn hp gp) (xY.mpr ⟨p,us,rfl,.of zN,r.mono (Same.new gp)⟩)
     | bk ρ=>cases h2
     | ct ρ=>cases h2
   · exact⟨_,hx cdv A outer s H E hr,⟨G,H,G,_,t,mR sub rs,hc,k⟩⟩
end
section
variable {X:Cx} {pins:List (Addr×Obj)} {σ:St}
theorem Inv.caughtV {H2 H':Hp}{s2 s':Shared}{g:Heap}{C a:Addr}{od:Option Addr}{t':Nat}(I2:Inv X pins σ H2 s2)(os:s'.os=s2.os)(bare:AllBare s'.gens)(un:Un (frs X.stack) [] H2 H' s2.heap s'.heap)(hok:HOk X.prog X.w H' s'.heap)(fa:H' a=some (.ext (Xe C a od)))(na:s2.heap.get? a=none)
   (k1:∀b o,s'.heap.get? b=some o->b≠a->(H' b≠none∨∃o',s2.heap.get? b=some o')->b∉frs X.stack->g.get? b=some o) (k2:∀b o,s'.heap.get? b=some o->(∃o',s2.heap.get? b=some o')->b∈frs X.stack->∃z,g.get? b=some { o with slots:=z })
   (oa:∃fs,g.get? a=some { cls:=.ref C,dict:=od,data:=.fields fs }):Inv X pins σ H' { s' with heap:=g,toks:=t' }:=by
 have I':Inv X pins σ H' s':=I2.call' (ch:=[]) os un hok bare (fun b z=>nomatch z)
 have nea:∀b o,s2.heap.get? b=some o->b≠a:=fun b o q z=>by rw[z,na] at q;cases q
 refine I2.call' (s':={ s' with heap:=g,toks:=t' }) (ch:=[]) os ⟨fun b o q n hb hx=>k1 b o (un.keep b o q n hb hx) (nea b o q) (.inr ⟨o,q⟩) hb,fun b o q n hb hx=>?_,un.free,fun b o q hx=>?_,un.tups,un.frzs,un.tbls⟩ (fun b o q=>?_) bare (fun b z=>nomatch z)
 · obtain⟨z,y⟩:=un.slot b o q n hb hx
   obtain⟨z',y'⟩:=k2 b _ y ⟨o,q⟩ hb
   exact⟨z',y'⟩
 · obtain⟨o1,y⟩:=un.there b o q hx
   by_cases hb:b∈frs X.stack
   · obtain⟨z,y'⟩:=k2 b o1 y ⟨o,q⟩ hb
     exact⟨_,y'⟩
   · exact⟨o1,k1 b o1 y (nea b o q) (.inr ⟨o,q⟩) hb⟩
 · by_cases hb:b=a
   · subst hb
     rw[fa] at q
     cases q
     obtain⟨fs,e⟩:=oa
     exact zYg e
   · have fr:=I'.stkFree
     refine(hok b o q).stay (fun b' u hb' q'=>?_) (fun _ z=>z) (fun _ _ z=>z)
     have tr:H' b'≠none:=by
       rcases hb' with z | z
       · rw[z,q];exact fun y=>nomatch y
       · rw[z];exact fun y=>nomatch y
     refine k1 b' u q' (fun z=>?_) (.inl tr) fun z=>tr (fr b' z)
     rcases hb' with y | y
     · exact hb (y.symm.trans z)
     · rw[z,fa] at y;cases y
theorem zTB {H2 H':Hp}{s2 s':Shared}{C a Y:Addr}{od:Option Addr}{D:Ends}{i:Nat}{n y:Str}{yp hp:Pos}{b₀:Stmt}{suite:List Stmt}{t:TS}(I2:Inv X pins σ H2 s2)(os:s'.os=s2.os)(bare:AllBare s'.gens)(un:Un (frs X.stack) [] H2 H' s2.heap s'.heap)(hok:HOk X.prog X.w H' s'.heap)
   (fl:FlyV s'.heap H' s2.heap C a od) (hst:X.stack=X.env::X.outer) (hef:X.env.frame=some X.env.locals) (hg:Gl X y) (hm:X.mg y=some (.ref Y)) (hdb:(y==("__debug__":Str))=false) (hx:PySem.W.exmOne X.K (.ref C) (.ref Y)=some true)
   (hN:X.N.Nodup) (hi:X.N[i]?=some n) (hk:X.env.kindOf n=some .local) (hl:Loc X.env.scope n) (hf:X.fn n=true∨X.env.scope.names.lookup n=some .local)
   (hs:PSs (X.marked a fun _ _=>False) (b₀::suite) t) (ht:t { nx:=fun σ' H''=>D.nx (σ'.set i none) H'',rt:=fun _ _=>False } (σ.set i (some (.ref a))) H') :
   wpAny (model X.prog X.w) X.A (noteFrame (.ref a) X.env) (fun _ s3=>wpAny (model X.prog X.w) X.A (setFlight (.ref a) none) (fun _ s4=>wpAny (model X.prog X.w) X.A (handleBy (.ref a) X.env [.ExceptHandler (some (.Name y yp)) (some n) (b₀::suite) hp]) (SP X pins D) X.xe s4) X.xe s3) X.xe s':=by
 have I':Inv X pins σ H' s':=I2.call' (ch:=[]) os un hok bare (fun b z=>nomatch z)
 obtain⟨vs,v,ho,hv,hh,hT⟩:=fl.ob
 have hfr:X.A.frames=some (X.env::X.outer):=by rw[←hst];exact I2.ok.frames
 have hfun:s'.heap.FunFrames X.base (X.env::X.outer):=by rw[←hst];exact I'.stack
 refine zZL (base:=X.base) hfr hfun hef ho hv hh fun h3 fw=>?_
 rw[←hst] at fw
 have old:∀b o',s2.heap.get? b=some o'->b≠a/\some (Value.ref b)≠vs[1]?:=fun b o' q=>by
   refine⟨fun z=>?_,fun z=>?_⟩
   · rw[z,fl.new] at q;cases q
   · rw[hv] at z
     have:=(hT b (Wo z).symm).2
     rw[this] at q;cases q
 have J:∀tk,Inv X pins σ H' { s' with heap:=h3,toks:=tk }:=fun tk=>I2.caughtV os bare un hok fl.tr fl.new (fun b o q ne hb hn=>by
     rcases hb with z | ⟨o',z⟩
     · refine fw.keep b o q ne hn fun e=>z ?_
       rw[hv] at e
       exact(hT b (Wo e).symm).1
     · exact fw.keep b o q (old b o' z).1 hn (old b o' z).2) (fun b o q ⟨o',z⟩ hb=>fw.slot b o q (old b o' z).1 hb (old b o' z).2) ⟨_,fw.obj⟩
 have J:=J s'.toks
 have hsz:1 < vs.size:=(Er.mp hv).1
 obtain⟨oT,ts,hT1,hT2,hT3⟩:=fw.head
 have cls:PySem.W.Looks (model X.prog X.w) h3 (typeOf (.ref a)) (.ref C):=(PySem.W.Looks.ld fw.obj).andThen .now
 refine wpAny_handleBy_cons (codeAny_handlers_test ?_) (by intro q;cases q)
 refine kH (X:=X.marked a fun _ _=>False) (J.marked a _) hg hm ?_ hdb
 have kx:X.K.In h3:=J.kIn
 refine(PySem.W.exm_one kx cls hx) (X.A.mark (some (.ref a))) _ _ _ (fun _ _ q=>q) ?_
 show codeAny _ _ _ _ _
 refine codeAny_handlers_suite_as ?_
 refine zWS fw.obj rfl (by rw[Rn hsz]) hT1 hT2 hT3 fun h4 k4=>?_
 have J4:Inv X pins σ H' { s' with heap:=h4 }:=J.kept (t':=s'.toks) k4
 refine lL J4 hN hi hl (v:=.ref a) rfl (fun s6 I6=>?_) hf
 refine Eu (hs pins s6 _ _ _ (I6.marked a _) ht) (fun f s7 h7=>?_) fun _ _ z=>z.elim
 cases f with
 | next =>
   obtain⟨σ',H'',I7,q7⟩:=h7
   exact zTz (I7.unmarked I2.ok) hN hi hk hl (fun s8 I8=>⟨_,H'',I8,q7⟩) hf
 | brk=>obtain⟨_,_,_,z⟩:=h7;exact False.elim z
 | cont=>obtain⟨_,_,_,z⟩:=h7;exact False.elim z
 | ret u=>obtain⟨_,_,_,_,_,z⟩:=h7;exact False.elim z
end
def XV (K:PySem.W.Frag)(t:D)(G2 H2:Hp):XK:=fun v _ H'=>∃G' a,Step G2 H2 G' H'/\v = .ref a/\Rep K G' t (.ref a)
def zNo (X:Cx)(e:Expr)(xb:Ef):Prop:=∀(pins:List (Addr×Obj)) (s:Shared) (σ:St) (H:Hp) (R:Value->Shared->Prop) (G0 H0 G:Hp) (ρ:List B) (t:D),Inv X pins σ H s->Good X.K G0 H0 G H σ ρ->xb ρ=some t ->
 (∀s2 H2 G2 e s',Inv X pins σ H2 s2->Step G H G2 H2->CXv X.prog X.w X.stack H2 s2 (XV X.K t G2 H2) e s'->R e s')->wpAny (model X.prog X.w) X.A (eval e X.env) (fun _ _=>False) R s
def PVB (X:Cx)(st:Stmt)(xb:Ef):Prop:=∀(pins:List (Addr×Obj)) (s:Shared) (σ:St) (H:Hp) (R:Value->Shared->Prop) (G0 H0 G:Hp) (ρ:List B) (t:D),Inv X pins σ H s->Good X.K G0 H0 G H σ ρ->xb ρ=some t ->
 (∀s2 H2 G2 e s',Inv X pins σ H2 s2->Step G H G2 H2->CXv X.prog X.w X.stack H2 s2 (XV X.K t G2 H2) e s'->R e s')->wpAny (model X.prog X.w) X.A (exec st X.env) (fun _ _=>False) R s
section
variable {X:Cx} {a b e:Expr} {es:List Expr} {ga:Lf} {tt:Tf} {xa xb:Ef} {pos p cpos:Pos} {st st':Stmt}
theorem zWY {k n:Nat}{fad:Addr}{fd:FuncData}{ps:List Str}{y:Str}{d xf:List D->Option D}(hno:∀e s,¬X.xe e s)(F:FnOk X.prog X.w X.K X.mg X.base (CXv X.prog X.w) k fad fd ps (spV X.K n d xf))(hr:Room k X.A)(hm:X.mg y=some (.ref fad))(hk:PySem.W.keepIn X.K (.ref fad)=true)(hb:Binds X.K fd ps [])(hg:Gl X y)
   (ha:PFA X (e::es) ga) (hdb:(y==("__debug__":Str))=false:=by decide) (he:starEach (e::es) X.env=(false,eval e X.env)::starEach es X.env:=by rfl) (hpl:(backTo cpos (starEach es X.env)).any (·.1)=false:=by rfl) :
   zNo X (.Call (.Name y p) (e::es) [] cpos) (zI n xf ga):=by
 intro pins s σ H R G0 H0 G ρ t I good hq k
 unfold zI at hq
 obtain⟨ds,h1,hq⟩:=Qq.mp hq
 split at hq
 · rename_i hl
   refine Rl (kH I hg hm ?_ hdb)
   refine Yz (h₀:=X.base) I.ok.mod.kin hk (Eu (ha cpos pins s σ H (fun vs H1=>∃G1,Step G H G1 H1/\Reps X.K G1 ds vs) I ⟨G0,H0,G,ρ,ds,good,h1,fun vs H1 G1 s1 r1=>⟨G1,s1,r1⟩⟩) (fun us s1 ⟨vs,H1,I1,r,G1,st1,r1⟩=>⟨I1.kIn,?_⟩) fun e s z=>(hno e s z).elim) he hpl
   have wq:spV X.K n d xf vs H1 (fun _ _=>False) (XV X.K t G1 H1):=⟨G1,ds,st1.sub,r1,hl,.inr ⟨t,hq,fun a H' G' z rr=>⟨G',a,z,rfl,rr⟩⟩⟩
   have hlen:us.length=ps.length:=by
     rw[←r.length]
     exact F.len vs H1 (fun _ _=>False) (XV X.K t G1 H1) wq
   rw[We]
   refine Iw (Yl (F.run X.A X.stack s1 H1 ⟨us,[]⟩ us vs (fun _ _=>False) (XV X.K t G1 H1) hr I1.env0 (by have:=hb s1 us I1.kIn (by rw[Qb];exact hlen);rwa[Qb] at this) r wq) fun r s' hq=>?_)
   cases r with
   | error e=>exact k s1 H1 G1 e s' I1 st1 hq
   | ok fl =>
     cases fl with
     | ret u=>obtain⟨_,_,_,_,_,_,_,z⟩:=hq;exact z.elim
     | next=>exact False.elim hq
     | brk=>exact False.elim hq
     | cont=>exact False.elim hq
 · cases hq
theorem zW8 (h:zNo X e xb)(hs:swapsWith e none pos.line X.env=pure false:=by rfl):PVB X (.Expr e pos) xb:=fun pins s σ H R G0 H0 G ρ t I good hq k =>
 wpAny_Expr_any (Eu (h pins s σ H R G0 H0 G ρ t I good hq k) (fun _ _ z=>z.elim) fun _ _ z=>z) I.quiet hs
theorem zPq (hno:∀e s,¬X.xe e s)(ht:PFT X a tt)(h1:PVB X st xa)(h2:PVB X st' xb):PVB X (.If a [st] [st'] pos) (vIf tt xa xb):=by
 intro pins s σ H R G0 H0 G ρ t I good hq k
 obtain⟨v,hv,hq⟩:=Qq.mp hq
 refine wpAny_If (Eu (ht pins s σ H (fun b H1=>b=v/\∃G1,Step G H G1 H1) I ⟨G0,H0,G,ρ,v,good,hv,fun H1 G1 st=>⟨rfl,G1,st⟩⟩) (fun b s1 ⟨H1,I1,eb,G1,st1⟩=>?_) fun e s z=>(hno e s z).elim)
 subst eb
 cases b with
 | true =>
   rw[Wr rfl] at hq
   refine aH ?_
   exact h1 pins s1 σ H1 R G0 H0 G1 ρ t I1 (good.step st1) hq fun s2 H2 G2 e s' I2 st2 hx=>k s2 H2 G2 e s' I2 (st1.trans st2) hx
 | false =>
   rw[Wj (by decide)] at hq
   refine aH ?_
   exact h2 pins s1 σ H1 R G0 H0 G1 ρ t I1 (good.step st1) hq fun s2 H2 G2 e s' I2 st2 hx=>k s2 H2 G2 e s' I2 (st1.trans st2) hx
theorem PVB.nox (h:PVB X.nox st xb):PVB X st xb:=fun pins s σ H R G0 H0 G ρ t I good hq k=>h pins s σ H R G0 H0 G ρ t (I.wish _) good hq fun s2 H2 G2 e s' I2 st hx=>k s2 H2 G2 e s' I2.unwish st hx
def zWM (cs:List Str)(xb:Ef)(fb:Sf)(i:Nat)(f:Sf):Sf:=fun ρ=>match xb ρ with
 | some (.exc c ns ds)=>if cs.contains c then(f (ρ.set i (.fz (.exc c ns ds)))).bind fun o=>match o with | .nx ρ'=>some (.nx (ρ'.set i .no)) | _=>none else none
 | some _=>none
 | none=>(fb ρ).bind fun o=>match o with | .nx ρ'=>some (.nx ρ') | _=>none
theorem zQB {cs:List Str}{Y:Addr}{i:Nat}{n y:Str}{yp hp:Pos}{b₀:Stmt}{suite:List Stmt}{f fb:Sf}(ok:ExOk X.K Y cs)(hb:PVB X.nox st xb)(hfb:PFS X.nox st fb)
   (hst:X.stack=X.env::X.outer) (hef:X.env.frame=some X.env.locals) (hg:Gl X y) (hm:X.mg y=some (.ref Y)) (hN:X.N.Nodup) (hh:∀a,PFSs (X.marked a fun _ _=>False) (b₀::suite) f)
   (hi:X.N[i]?=some n:=by rfl) (hk:X.env.kindOf n=some .local:=by rfl) (hl:Loc X.env.scope n:=by first | exact .inl rfl | exact .inr rfl) (hf:X.fn n=true∨X.env.scope.names.lookup n=some .local:=by first | exact .inl rfl | exact .inr rfl) (hdb:(y==("__debug__":Str))=false:=by decide) :
   PFS X (.Try [st] [.ExceptHandler (some (.Name y yp)) (some n) (b₀::suite) hp] [] [] pos) (zWM cs xb fb i f):=by
 intro pins s σ H D I q
 obtain⟨G0,H0,G,ρ,o,good,hq,k⟩:=q
 unfold zWM at hq
 split at hq
 · rename_i c ns ds hc
   split at hq
   · rename_i hcc
     obtain⟨C,hCC,hx1⟩:=ok.at hcc
     obtain⟨o1,ho1,hq⟩:=Qq.mp hq
     split at hq
     · rename_i ρ'
       cases hq
       refine wpAny_Try_except (aH (hb.nox pins s σ H _ G0 H0 G ρ _ I good hc fun s2 H2 G2 e s' I2 st2 hx=>?_))
       obtain⟨C',a,od,H',rfl,os,bare,un,hok,fl,G',a',st',ea,rp⟩:=hx
       cases ea
       obtain⟨C2,a2,od2,vs2,c1,c2,c3,_⟩:=oU.mp rp
       have e1:=hCC.one c1
       subst e1
       cases c2
       have e2:C2=C':=by
         obtain⟨vs,v,ho,_⟩:=fl.ob
         obtain⟨⟨fs,h2⟩,_⟩:=(show ObjOk X.prog X.w H' s'.heap a (.ext _) from hok a _ (st'.sub _ _ c3))
         rw[ho] at h2
         injection h2 with h2
         injection h2 with h2
         injection h2 with h2
         exact h2.symm
       subst e2
       have g1:Good X.K G0 H0 G' H' σ ρ:=(good.step st2).step st'
       refine zTB I2 os bare un hok fl hst hef hg hm hdb hx1 hN hi hk hl hf (hh a) ⟨G0,H0,_,_,.nx ρ',g1.setF i rp,ho1,fun σ' H'' G'' sg g3=>?_⟩
       exact k _ H'' G'' ((st2.gg.trans st'.gg).trans sg) (g3.setNo i)
     · cases hq
   · cases hq
 · cases hq
 · obtain⟨o1,ho1,hq⟩:=Qq.mp hq
   split at hq
   · rename_i ρ'
     cases hq
     refine wpAny_Try_except (Rk (Eu (hfb pins s σ H { nx:=D.nx,rt:=fun _ _=>False } (I.wish _) ⟨G0,H0,G,ρ,.nx ρ',good,ho1,k⟩) (fun f s1 h1=>?_) fun _ _ z=>z.elim))
     cases f with
     | next =>
       obtain⟨σ',H',I1,q1⟩:=h1
       exact Ra (Ra ⟨σ',H',I1.unwish,q1⟩)
     | brk=>obtain⟨_,_,_,z⟩:=h1;exact False.elim z
     | cont=>obtain⟨_,_,_,z⟩:=h1;exact False.elim z
     | ret u=>obtain⟨_,_,_,_,_,z⟩:=h1;exact False.elim z
   · cases hq
end
theorem lJ {X:Cx}{E:XK}{sts:List Stmt}:zWp X E sts nU:=fun pins s σ H D I h=>by
 obtain⟨_,_,_,_,_,_,z,_⟩:=h;cases z
theorem PFS.nox {X:Cx}{st:Stmt}{g:Sf}(h:PFS X.nox st g):PFS X st g:=fun pins s σ H D I hw =>
 Eu (h pins s σ H D (I.wish _) hw) (fun _ _ q=>q.unwish) fun _ _ z=>False.elim z
theorem zTQ {X:Cx}{st:Stmt}{rest:List Stmt}{B f g:Sf}(e:B=zF f g)(h1:PFS X st f)(h2:PFSs X rest g):PFSs X (st::rest) B:=by
 subst e
 exact tY h1 h2
theorem zT {X:Cx}{st:Stmt}{rest:List Stmt}(B:Sf){f g:Sf}(e:B=zF f g)(h1:PFS X st f)(h2:PFSs X rest g):PFSs X (st::rest) B:=zTQ e h1 h2
structure FnT (K:PySem.W.Frag)(mg:Str->Option Value)(x:Str)(st:Stmt)(ps:List Str) where
 f:Addr
 fd:FuncData
 F:Fun K x x st f fd
 b:Binds K fd ps []
 m:mg x=some (.ref f)
def tW (K:PySem.W.Frag)(x:Str)(st:Stmt):Prop:=∃(f:Addr) (od an:Option Addr) (sl:Array (Option Value)) (oc kV dc pm cd ct:Value),PySem.W.nsIn K mainGlobals x=some (some (.ref f))/\K.lookup f=some ⟨oc,od,.func (PySem.W.fnOf x x (zE st) (zJ st) (zU st) .none kV dc pm an cd ct),sl⟩/\PySem.W.codeIn K cd x=true/\PySem.W.keepIn K (.ref f)=true
abbrev fnQ (x:Str)(st:Stmt)(kV dc pm:Value)(an:Option Addr)(cd ct:Value):FuncData:=PySem.W.fnOf x x (zE st) (zJ st) (zU st) .none kV dc pm an cd ct
def Bd (x:Str)(st:Stmt)(ps:List Str):Prop:=∀(kV doc pm:Value) (an:Option Addr) (cdv ct:Value) (us:List Value),us.length=ps.length->bindArgs (fnQ x st kV doc pm an cdv ct) ⟨us,[]⟩=pure (ps.zip us)
section
variable {x a b c:Str} {st:Stmt}
theorem bd1 (h:∀kV dc pm an cd ct u,bindArgs (fnQ x st kV dc pm an cd ct) ⟨[u],[]⟩=pure [(a,u)]):Bd x st [a]:=fun _ _ _ _ _ _ us hl=>match us,hl with | [_],_=>h _ _ _ _ _ _ _
theorem bd2 (h:∀kV dc pm an cd ct u v,bindArgs (fnQ x st kV dc pm an cd ct) ⟨[u,v],[]⟩=pure [(a,u),(b,v)]):Bd x st [a,b]:=fun _ _ _ _ _ _ us hl=>match us,hl with | [_,_],_=>h _ _ _ _ _ _ _ _
theorem bd3 (h:∀kV dc pm an cd ct u v z,bindArgs (fnQ x st kV dc pm an cd ct) ⟨[u,v,z],[]⟩=pure [(a,u),(b,v),(c,z)]):Bd x st [a,b,c]:=fun _ _ _ _ _ _ us hl=>match us,hl with | [_,_,_],_=>h _ _ _ _ _ _ _ _ _
variable {K:PySem.W.Frag} {h:Heap} {mg:Str->Option Value} {ps:List Str}
def sM (X:K.In h)(G:h.Ns mainGlobals mg)(g:tW K x st)(hb:Bd x st ps):FnT K mg x st ps:=Classical.choice (by
 obtain⟨f,od,an,sl,oc,kV,dc,pm,cd,ct,a,l,c,k⟩:=g
 exact⟨⟨f,_,eT l c k,(eT l c k).binds hb,PySem.W.mg_of X G a⟩⟩)
theorem zOE {P:Program}{w:World}{k:Nat}{sp:Sp}{p:Str}{fa:Addr}(t:FnT K mg x st [p])(hb:Bd x st [p])(hfa:mg x=some (.ref fa))(ok:∀base:Heap,FnOk P w K mg base CX0 k t.f t.fd [p] sp) :
   ∃fd:FuncData,(∀(s:Shared) (v:Value),BindsTo s fd ⟨[v],[]⟩ [(p,v)])/\∀base:Heap,K.In base->base.Ns mainGlobals mg->FnOk P w K mg base CX0 k fa fd [p] sp:=by
 have e:=hfa.symm.trans t.m
 cases e
 refine⟨t.fd,fun s v=>?_,fun base _ _=>ok base⟩
 obtain⟨oc,od,kV,doc,pm,an,cdv,ct,osl,e,lk,hcd⟩:=t.F.ex
 rw[e]
 exact .of_eq (hb kV doc pm an cdv ct [v] rfl)
end
abbrev OkT (P:Program)(w:World)(base:Heap){K:PySem.W.Frag}{mg:Str->Option Value}{x:Str}{st:Stmt}{ps:List Str}(t:FnT K mg x st ps)(k n:Nat)(d:List D->Option D):Prop:=FnOk P w K mg base CX0 k t.f t.fd ps (spF K n d)
abbrev zSF (P:Program)(w:World)(base:Heap){K:PySem.W.Frag}{mg:Str->Option Value}{x:Str}{st:Stmt}{ps:List Str}(t:FnT K mg x st ps)(k n:Nat)(d:List D->Option (List D)):Prop:=FnOk P w K mg base CX0 k t.f t.fd ps (spL K n d)
section
variable {X:Cx} {e:Expr} {es:List Expr} {ga:Lf} {pos p:Pos} {x:Str} {st:Stmt} {ps:List Str}
theorem vC {j k n:Nat}{t:FnT X.K X.mg x st ps}{fD:List D->Option D}(F:FnOk X.prog X.w X.K X.mg X.base CX0 j t.f t.fd ps (spF X.K n fD))(hr:Room k X.A)(ha:PFA X (e::es) ga)(hj:j<=k:=by omega)(hg:Gl X x:=by rfl)(hdb:(x==("__debug__":Str))=false:=by decide)(he:starEach (e::es) X.env=(false,eval e X.env)::starEach es X.env:=by rfl)(hpl:(backTo pos (starEach es X.env)).any (·.1)=false:=by rfl) :
   PF X (.Call (.Name x p) (e::es) [] pos) (zI n fD ga):=zQz F (hr.mono hj) t.m t.F.kp t.b hg ha hdb he hpl
theorem zT6 {j k n:Nat}{t:FnT X.K X.mg x st ps}{fD:List D->Option (List D)}(F:FnOk X.prog X.w X.K X.mg X.base CX0 j t.f t.fd ps (spL X.K n fD))(hr:Room k X.A)(ha:PFA X (e::es) ga)(hj:j<=k:=by omega)(hg:Gl X x:=by rfl)(hdb:(x==("__debug__":Str))=false:=by decide)(he:starEach (e::es) X.env=(false,eval e X.env)::starEach es X.env:=by rfl)(hpl:(backTo pos (starEach es X.env)).any (·.1)=false:=by rfl) :
   PFr X (.Call (.Name x p) (e::es) [] pos) (qS n fD ga):=zQw F (hr.mono hj) t.m t.F.kp t.b hg ha hdb he hpl
end
theorem wY {N P:List Str}{sc:Scope}(h:(sc.kind == .function && !sc.isCoroutine && !sc.isGenerator&&decide (N.take P.length=P)&&decide N.Nodup&&decide (∀x∈P,sc.names.lookup x=some .local∨sc.names.lookup x=some .cell)&&decide (∀y∈sc.names,y.2 ≠ .free))=true):FnScope N P sc:=by
 simp only[Qg,Wh,Iu] at h
 obtain⟨⟨⟨⟨⟨⟨h1,h2⟩,h3⟩,h4⟩,h5⟩,h6⟩,h7⟩:=h
 refine⟨?_,h2,h3,h5,h4,h6,h7⟩
 generalize sc.kind=k at h1
 cases k<;>first | rfl | cases h1
def zXZ (x:Value)(env:Env):Sem Unit:=do
 if (←field x 1) == .none then unsupported "frame.own-activation:exception-without-traceback"
 setFlight x env.frame
abbrev Cx.loopy (X:Cx):Cx:=X.wish (notedBy (model X.prog X.w) X.A X.env (cameBackBy (model X.prog X.w) X.A X.env X.xe))
section
variable {M:Model} {A:Around} {E:Value->Shared->Prop} {s:Shared}
theorem zZJ {base:Heap}{env:Env}{outer:List Env}{L e:Addr}{c:Value}{od:Option Addr}{vs:Array Value}{sl:Array (Option Value)}{hd:Value}{nx:Bool}{Q:Unit->Shared->Prop}
   (hfr:A.frames=some (env::outer)) (hl:s.heap.FunFrames base (env::outer)) (hf:env.frame=some L)
   (he:s.heap.get? e=some { cls:=c,dict:=od,data:=.fields vs,slots:=sl }) (hsz:1 < vs.size)
   (h:∀h',(h'.get? e=some { cls:=c,dict:=od,data:=.fields (vs.setIfInBounds 1 (.ref s.heap.objs.size)),slots:=sl }/\s.heap.objs.size≠e/\∃oT ts,h'.get? s.heap.objs.size=some oT/\oT.data = .fields ts/\ts[3]?=some .none) ->
     (∀b o,s.heap.get? b=some o->b≠e->b∉frs (env::outer)->h'.get? b=some o)->(∀b o,s.heap.get? b=some o->b≠e->b∈frs (env::outer)->∃z,h'.get? b=some { o with slots:=z })->Q () { s with heap:=h' }) :
   wpAny M A (do let a ←frameOf env;let pl ←entryPlaceOf L nx;let b ←EntryCells.newEntry hd a .none (rawInt L) .none pl;setField (.ref e) 1 b)
     (fun _ s'=>wpAny M A (zXZ (.ref e) env) (fun _ s''=>wpAny M A (leaving env (.ref e)) Q E s'') E s') E s:=by
 have ne:e∉frs (env::outer):=fun z=>by
   obtain⟨_,o,q,n⟩:=hl.mem z
   rw[he] at q
   cases q
   exact n vs rfl
 refine Qe (wpAny_frameOf_fun hfr hl hf fun g1 k1=>Qe (wpAny_entryPlaceOf fun pl hp=>?_))
 unfold EntryCells.newEntry newFields
 refine Qe (Yt ?_ (hp.sizeOk5 _ _ _ _ _))
 have e1:g1.get? e=some { cls:=c,dict:=od,data:=.fields vs,slots:=sl }:=(k1.2.1 e ne).trans he
 have ln:g1.objs.size≠e:=fun z=>Wa _ (z ▸ Qy e1)
 have hsz3:3 < ([hd,.ref L,.none,rawInt L,.none]++(if pl.isEmpty then List.replicate 6 Value.none else pl)).toArray.size:=by
   rw[Qp,Qd];show 3 < 5+_;omega
 have ts3:([hd,.ref L,.none,rawInt L,.none]++(if pl.isEmpty then List.replicate 6 Value.none else pl)).toArray[3]?=some (rawInt L):=by
   rw[List.getElem?_toArray];rfl
 generalize hts:([hd,.ref L,.none,rawInt L,.none]++(if pl.isEmpty then List.replicate 6 Value.none else pl)).toArray=ts at hsz3 ts3
 have e2:(g1.push { cls:=.type "traceback",data:=.fields ts }).get? e=some { cls:=c,dict:=od,data:=.fields vs,slots:=sl }:=Qr _ e1
 have t2:(g1.push { cls:=.type "traceback",data:=.fields ts }).get? g1.objs.size=some { cls:=.type "traceback",dict:=none,data:=.fields ts,slots:=#[] }:=Qh _ rfl
 refine uB e2 hsz fun g3 e3 k3=>?_
 have t3:g3.get? g1.objs.size=some { cls:=.type "traceback",dict:=none,data:=.fields ts,slots:=#[] }:=k3.extBut _ _ ln t2
 have f1:(vs.setIfInBounds 1 (Value.ref g1.objs.size))[1]?=some (.ref g1.objs.size):=by simp[hsz]
 unfold zXZ
 refine Qe (Ep e3 rfl f1 ?_)
 rw[Wj (show ¬((Value.ref g1.objs.size==Value.none)=true) by simp)]
 unfold setFlight
 refine Qe (Ep e3 rfl f1 ?_)
 rw[Wr (by simp),hf]
 refine uB t3 hsz3 fun g4 t4 k4=>?_
 have e4:g4.get? e=some { cls:=c,dict:=od,data:=.fields (vs.setIfInBounds 1 (.ref g1.objs.size)),slots:=sl }:=k4.extBut _ _ (fun z=>ln z.symm) e3
 have f4:(ts.setIfInBounds 3 ((some L).elim Value.none fun f=>rawInt f))[3]?=some (rawInt L):=by simp[hsz3]
 unfold leaving noteFrame
 simp only[hf]
 refine Qe (Qe (Ep e4 rfl f1 ?_))
 rw[Wr (by simp)]
 refine Qe (Ep t4 rfl f4 ?_)
 rw[Wr (by simp)]
 refine Qa ?_
 unfold setFlight
 refine Qe (Ep e4 rfl f1 ?_)
 rw[Wr (by simp)]
 have hsz4:3 < (ts.setIfInBounds 3 ((some L).elim Value.none fun f=>rawInt f)).size:=by simpa using hsz3
 refine uB t4 hsz4 fun g5 t5 k5=>h g5 (by rw[←k1.1];exact⟨k5.extBut _ _ (fun z=>ln z.symm) e4,ln,_,_,t5,rfl,by simp[hsz3]⟩) (fun b o q n1 n2=>?_) fun b o q n1 n2=>?_
 · have q1:g1.get? b=some o:=(k1.2.1 b n2).trans q
   have nb:=Wy (Qy q1)
   exact k5.extBut _ _ nb (k4.extBut _ _ nb (k3.extBut _ _ n1 (Qr _ q1)))
 · obtain⟨w,q1⟩:=k1.2.2 b o q
   have nb:=Wy (Qy q1)
   exact⟨w,k5.extBut _ _ nb (k4.extBut _ _ nb (k3.extBut _ _ n1 (Qr _ q1)))⟩
theorem zVO {base:Heap}{env:Env}{outer:List Env}{L e:Addr}{c v:Value}{od:Option Addr}{vs:Array Value}{sl:Array (Option Value)}{Q:Unit->Shared->Prop}
   (hfr:A.frames=some (env::outer)) (hl:s.heap.FunFrames base (env::outer)) (hf:env.frame=some L)
   (he:s.heap.get? e=some { cls:=c,dict:=od,data:=.fields vs,slots:=sl }) (hv:vs[1]?=some v) (hh:aV s.heap e v)
   (h:∀h',Flew (frs (env::outer)) e c od vs sl s.heap h'->Q () { s with heap:=h' }) :
   wpAny M A (noteFrame (.ref e) env) (fun _ s'=>wpAny M A (zXZ (.ref e) env) (fun _ s''=>wpAny M A (leaving env (.ref e)) Q E s'') E s') E s:=by
 have hsz:1 < vs.size:=(Er.mp hv).1
 unfold noteFrame
 simp only[hf]
 refine Qe (Ep he rfl hv ?_)
 rcases hh with rfl | ⟨T,oT,ts,rfl,ne,hT,hdT,h3⟩
 · rw[Wj (by decide)]
   have:=zZJ (M:=M) (A:=A) (E:=E) (s:=s) (Q:=Q) (hd:=.none) (nx:=(Value.none != Value.none)) hfr hl hf he hsz fun h' a1 a2 a3=>h h' ⟨a1.1,a1.2.1,a1.2.2,fun b o q n1 n2 _=>a2 b o q n1 n2,fun b o q n1 n2 _=>a3 b o q n1 n2⟩
   exact this
 · rw[Wr (by simp)]
   refine Qe (Ep hT hdT h3 ?_)
   rw[Wj (show ¬((Value.none==rawInt L)=true) by simp[rawInt])]
   obtain⟨cT,dT,daT,slT⟩:=oT
   dsimp only at hdT
   subst hdT
   refine Qe (uB hT (Er.mp h3).1 fun g1 t1 k1=>?_)
   have up:∀b o,b≠T->s.heap.get? b=some o->g1.get? b=some o:=fun b o z q=>k1.extBut _ _ z q
   have nT:∀b o,s.heap.get? b=some o->(∀vs,o.data ≠ .fields vs)->b≠T:=fun b o q n z=>by
     rw[z,hT] at q
     cases q
     exact n ts rfl
   have:=zZJ (M:=M) (A:=A) (E:=E) (s:={ s with heap:=g1 }) (Q:=Q) (hd:=.ref T) (nx:=(Value.ref T != Value.none)) hfr (hl.of_keeps fun b o q n=>⟨o,up b o (nT b o q n) q,rfl⟩) hf (up _ _ (fun z=>ne z.symm) he) hsz fun h' a1 a2 a3=>(by
     have es:g1.objs.size=s.heap.objs.size:=k1.1
     dsimp only at a1
     rw[es] at a1
     exact h h' ⟨a1.1,a1.2.1,a1.2.2,fun b o q n1 n2 n3=>a2 b o (up b o (fun z=>n3 (by rw[hv,z])) q) n1 n2,fun b o q n1 n2 n3=>a3 b o (up b o (fun z=>n3 (by rw[hv,z])) q) n1 n2⟩)
   exact this
end
section
variable {P:Program} {w:World} {K:PySem.W.Frag} {mg:Str->Option Value} {base:Heap} {N:List Str} {qual:Str} {scope:Scope} {f:Addr} {cd:Value} {A:Around} {outer:List Env} {s₀ s:Shared} {H₀ H:Hp} {E:XK} {pins:List (Addr×Obj)} {σ:St} {C a:Addr} {od:Option Addr}
theorem zSJ (I:Inv (oZ (CXv P w) P w K mg base N qual scope f cd A outer s₀ H₀ E) pins σ H s)(fl:FlyV s.heap H s₀.heap C a od)(hE:E (.ref a) none H){vs:Array Value}{v:Value}(hv:vs[1]?=some v)(hT:∀T,v = .ref T->H T=none/\s₀.heap.get? T=none)
   {h':Heap} (fw:Flew (frs (envOfC qual scope s₀.heap.objs.size f cd::outer)) a (.ref C) od vs #[] s.heap h'):CXv P w outer H₀ s₀ E (.ref a) { s with heap:=h' }:=by
 have hfree:=I.stkFree
 have old:∀b o,s₀.heap.get? b=some o->b≠a/\some (Value.ref b)≠vs[1]?/\b≠s₀.heap.objs.size:=fun b o q=>by
   refine⟨fun z=>?_,fun z=>?_,fun z=>Wa _ (z ▸ Qy q)⟩
   · rw[z,fl.new] at q;cases q
   · rw[hv] at z
     have:=(hT b (Wo z).symm).2
     rw[this] at q;cases q
 have inF:∀b,b∈frs (envOfC qual scope s₀.heap.objs.size f cd::outer)↔b=s₀.heap.objs.size∨b∈frs outer:=fun b=>by
   show b∈List.filterMap (·.frame) (_::outer)↔_
   rw[Tg]
   show b∈s₀.heap.objs.size::frs outer↔_
   exact Qf
 have U:=I.base
 refine⟨C,a,od,H,rfl,I.os,I.bare,⟨fun b o q n hb hx=>?_,fun b o q n hb hx=>?_,fun b o q n hx=>U.free b o q n hx,fun b o q hx=>?_,U.tups,U.frzs,U.tbls⟩,fun b o q=>?_,⟨⟨_,_,fw.obj,by rw[Rn (Er.mp hv).1],.inr ?_,fun T z=>?_⟩,fl.tr,fl.new⟩,hE⟩
 · obtain⟨n1,n2,n3⟩:=old b o q
   exact fw.keep b o (U.keep b o q n hb hx) n1 (fun z=>((inF b).mp z).elim n3 hb) n2
 · obtain⟨n1,n2,n3⟩:=old b o q
   obtain⟨z,q1⟩:=U.slot b o q n hb hx
   obtain⟨z',q2⟩:=fw.slot b _ q1 n1 ((inF b).mpr (.inr hb)) n2
   exact⟨z',q2⟩
 · obtain⟨n1,n2,n3⟩:=old b o q
   obtain⟨o1,q1⟩:=U.there b o q hx
   by_cases hb:b∈frs (envOfC qual scope s₀.heap.objs.size f cd::outer)
   · obtain⟨z,q2⟩:=fw.slot b o1 q1 n1 hb n2
     exact⟨_,q2⟩
   · exact⟨o1,fw.keep b o1 q1 n1 hb n2⟩
 · by_cases hba:b=a
   · subst hba
     rw[fl.tr] at q
     cases q
     exact zYg fw.obj
   refine(I.hok b o q).stay (fun b' u hb' q'=>?_) (fun _ z=>z) (fun _ _ z=>z)
   have tr:H b'≠none:=by
     rcases hb' with z | z
     · rw[z,q];exact fun y=>nomatch y
     · rw[z];exact fun y=>nomatch y
   refine fw.keep b' u q' (fun z=>?_) (fun z=>tr (hfree b' z)) fun z=>?_
   · rcases hb' with y | y
     · exact hba (y.symm.trans z)
     · rw[z,fl.tr] at y;cases y
   rw[hv] at z
   exact tr (hT b' (Wo z).symm).1
 · obtain⟨oT,ts,h1,h2,h3⟩:=fw.head
   exact⟨_,oT,ts,rfl,fw.ne,h1,h2,h3⟩
 · cases z
   refine⟨I.fresh,?_⟩
   cases y:s₀.heap.get? s.heap.objs.size with
   | none=>rfl
   | some o=>exact absurd (Qy y) (Nat.not_lt.mpr I.sz)
theorem zUA:cK (oZ (CXv P w) P w K mg base N qual scope f cd A outer s₀ H₀ E).loopy E:=by
 intro pins σ H s C a od I' fl hE
 have I:=I'.unwish
 obtain⟨vs,v,ho,hv,hh,hT⟩:=fl.ob
 have hfr:=I.ok.frames
 have hst:=I.stack
 show wpAny (model P w) (A.deeper (envOfC qual scope s₀.heap.objs.size f cd)) (noteFrame (.ref a) (envOfC qual scope s₀.heap.objs.size f cd)) (fun _ s1=>cameBackBy (model P w) (A.deeper (envOfC qual scope s₀.heap.objs.size f cd)) (envOfC qual scope s₀.heap.objs.size f cd) (oZ (CXv P w) P w K mg base N qual scope f cd A outer s₀ H₀ E).xe (.ref a) s1) _ s
 unfold cameBackBy
 refine Eu (zVO (base:=base) (E:=fun _ _=>False) (Q:=fun _ s'=>CXv P w outer H₀ s₀ E (.ref a) s') hfr hst rfl ho hv hh fun h' fw=>zSJ I fl hE hv hT fw) (fun _ s1 q1=>Eu q1 (fun _ s2 q2=>?_) fun _ _ z=>z.elim) fun _ _ z=>z.elim
 exact Eu q2 (fun _ _ z=>z) fun _ _ z=>z.elim
end
theorem zQ8 {X:Cx}{E:XK}(hx:X.ex=[])(th:cK X E):qU (CXv X.prog X.w) X E:=by
 intro pins σ H s e s' I hcx
 obtain⟨C,a,od,H',rfl,os,bare,un,hok,fl,he⟩:=hcx
 have I':Inv X pins σ H' s':=I.call' (ch:=[]) os un hok bare (fun b z=>absurd z (by simp))
 obtain⟨vs,v,ho,hv,hh,hT⟩:=fl.ob
 have back:∀b,s.heap.get? b=none->X.s₀.heap.get? b=none:=fun b z=>by
   cases y:X.s₀.heap.get? b with
   | none=>rfl
   | some o =>
     obtain⟨o',q⟩:=I.base.there b o y (by rw[hx];simp)
     rw[z] at q;cases q
 exact th pins σ H' s' C a od I' ⟨⟨vs,v,ho,hv,hh,fun T z=>⟨(hT T z).1,back T (hT T z).2⟩⟩,fl.tr,back a fl.new⟩ he
section
variable {P:Program} {w:World} {K:PySem.W.Frag} {mg:Str->Option Value} {base:Heap} {N:List Str} {qual:Str} {scope:Scope} {f:Addr} {cd:Value} {A:Around} {outer:List Env} {s₀:Shared} {H₀:Hp} {E:XK}
theorem zUD:qU (CXv P w) (oZ (CXv P w) P w K mg base N qual scope f cd A outer s₀ H₀ E).loopy E:=zQ8 rfl zUA
end
section
variable {X:Cx} {tg:Expr}
theorem zQh {iter:Expr}{body:List Stmt}{wi:TI}{g:TG}{tb:TS}{pos:Pos}(hc:X.calm=true)(hi:PI X tg iter wi)(hg:PG X.nox tg g)(hb:PSs X.loopy body tb)
   (hs:∀x,foldedSetIterable iter X.env x=pure x:=by intro _;rfl):PS X (.For tg iter body [] pos) (zNN wi g tb):=by
 intro pins s σ H D I h
 refine wpAny_For (thn (hi pins s σ H _ I h) fun v s1 h1=>thn h1 fun itv s2 h2=>?_) hs
 obtain⟨it,fp,tn,J,H2,e,I2,T,st2,f2,W,⟨m0,w0⟩,turn⟩:=h2
 subst e
 have stat:∀ {H':Hp},(∀b∈fp,H' b=none)->∀b∈fp,nN X pins H' b:=fun hn b hb=>⟨hn b hb,(f2 b hb).2⟩
 refine codeAny_forLoop_any (fun n s'=>∃i σ' H',Inv X pins σ' H' s'/\tn i s'.heap/\(∀b∈fp,H' b=none)/\W i n σ' H') ?_ m0 ⟨0,σ,H2,I2,st2,fun b hb=>(f2 b hb).1,w0⟩
 rintro n s3 ⟨i,σ3,H3,I3,st3,fr3,w3⟩
 rcases turn i n σ3 H3 w3 with⟨stop,qn⟩ | ⟨go,N,hN,step⟩
 · refine thn (T.done X rfl rfl rfl hc i pins s3 σ3 H3 X.loopy.xe I3 (stat fr3) st3 stop) fun r s4 ⟨hr,I4⟩=>?_
   subst hr
   exact Ra ⟨σ3,H3,I4,qn⟩
 · refine thn (T.item X rfl rfl rfl hc i pins s3 σ3 H3 X.loopy.xe I3 (stat fr3) st3 go) fun r s4 ⟨u,hr,h4⟩=>?_
   subst hr
   refine thn h4 fun _ s5 ⟨x,H5,I5,r5,y5,st5,fr5⟩=>?_
   have I5':=I5.pinned (stat fr5) (T.obj _ _ st5)
   refine Eu (hg _ s5 σ3 H5 x u _ (I5'.wish _) r5 (step x H5 y5)) (fun _ s6 ⟨σ6,H6,I6,q6⟩=>?_) fun _ _ z=>False.elim z
   refine thn (hb _ s6 σ6 H6 _ (I6.unwish.wish _) q6) fun f s7 q7'=>?_
   have q7:=q7'.unwish
   have again:∀ {σ7:St} {H7:Hp},Inv X (pins++eY fp s5.heap) σ7 H7 s7->N σ7 H7->∃m,m < n/\∃i σ' H',Inv X pins σ' H' s7/\tn i s7.heap/\(∀b∈fp,H' b=none)/\W i m σ' H':=fun {σ7 H7} I7 n7=>by
     obtain⟨m',hm,w7⟩:=hN σ7 H7 n7
     refine⟨m',hm,i+1,σ7,H7,I7.unpinned,T.keep _ _ _ st5 fun b hb o e=>(I7.pin (b,o) (Wp _ (Wp _ (sD hb e)))).1,fun b hb=>?_,w7⟩
     obtain⟨o,e,d⟩:=T.obj _ _ st5 b hb
     exact(I7.pin (b,o) (Wp _ (Wp _ (sD hb e)))).2.1
   cases f with
   | next=>obtain⟨σ7,H7,I7,n7⟩:=q7;exact again I7 n7
   | cont=>obtain⟨σ7,H7,I7,n7⟩:=q7;exact again I7 n7
   | brk=>obtain⟨σ7,H7,I7,q7⟩:=q7;exact⟨σ7,H7,I7.unpinned,q7⟩
   | ret v=>obtain⟨x7,σ7,H7,I7,r7,q7⟩:=q7;exact⟨x7,σ7,H7,I7.unpinned,r7,q7⟩
def lS (g:Gf)(f:Sf)(x:Ef):List D->List B->Option D
 | [],_=>none
 | d::r,ρ=>(g d ρ).bind fun ρ1=>match x ρ1 with
   | some t=>some t
   | none=>(f ρ1).bind fun o=>match o with | .nx ρ2=>lS g f x r ρ2 | .ct ρ2=>lS g f x r ρ2 | _=>none
def zSX (src:Lf)(g:Gf)(f:Sf)(x:Ef):Ef:=fun ρ=>(src ρ).bind fun ds=>lS g f x ds ρ
def zMF (t u:TS):TS:=fun D σ H=>t D σ H∨u D σ H
variable {E:XK} {iter e:Expr} {es:List Expr} {body:List Stmt} {pos p:Pos} {gi ga:Lf} {gt:Gf} {fb:Sf} {xb x x1:Ef}
theorem zPp (hc:X.calm=true)(hi:PFI X tg iter gi)(hg:PFG X.nox tg gt)(hb:PFSs X.nox body fb)(hx:zWp X.loopy E body xb)(hs:∀x,foldedSetIterable iter X.env x=pure x:=by intro _;rfl):PVS X E (.For tg iter body [] pos) (zSX gi gt fb xb):=by
 have hbx:PSs X.loopy body (zMF (tFS X.K fb) (tVS X.K E xb)):=fun pins s σ H D I q=>by
   rcases q with q | q
   · exact Eu (hb pins s σ H D (I.unwish.wish _) q) (fun f s' z=>(show SP X.loopy pins D f s' from by
       have z2:SP X pins D f s':=z.unwish
       cases f with
       | next=>obtain⟨σ',H',I,q⟩:=z2;exact⟨σ',H',I.wish _,q⟩
       | brk=>obtain⟨σ',H',I,q⟩:=z2;exact⟨σ',H',I.wish _,q⟩
       | cont=>obtain⟨σ',H',I,q⟩:=z2;exact⟨σ',H',I.wish _,q⟩
       | ret v=>obtain⟨x',σ',H',I,r,q⟩:=z2;exact⟨x',σ',H',I.wish _,r,q⟩)) fun _ _ z=>False.elim z
   · exact hx pins s σ H D I q
 intro pins s σ H D I h
 obtain⟨G0,H0,G,ρ,t,good,hq,k⟩:=h
 unfold zSX at hq
 obtain⟨ds,h1,hf⟩:=Qq.mp hq
 refine zQh hc hi hg hbx hs pins s σ H D I ⟨G0,H0,G,ρ,ds,good,h1,fun J H1 G1 s1 y=>?_⟩
 refine⟨fun i m σ H=>m=ds.length - i/\i<=ds.length/\∃G2 ρ2,Same G1 G2/\Good X.K G0 H0 G2 H σ ρ2/\lS gt fb xb (ds.drop i) ρ2=some t,⟨ds.length,by simp,Tb _,G1,ρ,Same.refl _,good.step s1,by simpa using hf⟩,?_⟩
 rintro i m σ2 H2 ⟨rfl,hi',G2,ρ2,sg,good2,hf2⟩
 obtain⟨y1,y2⟩:=y i G2 H2 sg good2.sub
 by_cases hlt:i < ds.length
 · obtain⟨go,yl⟩:=y1 ds[i] (Qs hlt)
   rw[Yb hlt] at hf2
   unfold lS at hf2
   obtain⟨ρ3,e1,hf2⟩:=Qq.mp hf2
   refine .inr ⟨go,fun σ' H'=>∃G' ρ',Same G1 G'/\Good X.K G0 H0 G' H' σ' ρ'/\lS gt fb xb (ds.drop (i+1)) ρ'=some t,fun σ' H' ⟨G',ρ',a1,a2,a3⟩=>⟨ds.length - (i+1),by omega,rfl,hlt,G',ρ',a1,a2,a3⟩,fun x H3 yx=>?_⟩
   obtain⟨G3,s3,r3⟩:=yl x H3 yx
   refine⟨G0,H0,G3,ρ2,_,ρ3,good2.step s3,r3,e1,fun σ4 H4 G4 s4 good4=>?_⟩
   have sg4:Same G1 G4:=(sg.trans s3.gg).trans s4.gg
   split at hf2
   · rename_i t' hx'
     cases hf2
     exact .inr ⟨G0,H0,G4,ρ3,t,good4,hx',k⟩
   · obtain⟨o1,e2,hf2⟩:=Qq.mp hf2
     refine .inl ⟨G0,H0,G4,ρ3,o1,good4,e2,?_⟩
     cases o1 with
     | nx ρ5=>exact fun σ5 H5 G5 s5 good5=>⟨G5,ρ5,sg4.trans s5,good5,hf2⟩
     | ct ρ5=>exact fun σ5 H5 G5 s5 good5=>⟨G5,ρ5,sg4.trans s5,good5,hf2⟩
     | bk ρ5=>cases hf2
     | rt d=>cases hf2
     | rl d=>cases hf2
 · have e:i=ds.length:=by omega
   subst e
   rw[Ik] at hf2
   cases hf2
def vOr (x y:Ef):Ef:=fun ρ=>match x ρ with | some t=>some t | none=>y ρ
theorem zWC {k n:Nat}{fad:Addr}{fd:FuncData}{ps:List Str}{y:Str}{d xf:List D->Option D}{tr:TA}(F:FnOk X.prog X.w X.K X.mg X.base (CXv X.prog X.w) k fad fd ps (spV X.K n d xf))(hp:qU (CXv X.prog X.w) X E)(hr:Room k X.A)(hm:X.mg y=some (.ref fad))(hk:PySem.W.keepIn X.K (.ref fad)=true)(hb:Binds X.K fd ps [])(hg:Gl X y)
   (h1:PVE X E e x1) (hr1:PA X es tr) (ha:PFA X (e::es) ga) (hdb:(y==("__debug__":Str))=false:=by decide) (he:starEach (e::es) X.env=(false,eval e X.env)::starEach es X.env:=by rfl) (hpl:(backTo pos (starEach es X.env)).any (·.1)=false:=by rfl) :
   PVE X E (.Call (.Name y p) (e::es) [] pos) (vOr x1 (zI n xf ga)):=by
 intro pins s σ H Q I h
 obtain⟨G0,H0,G,ρ,t,good,hq,k⟩:=h
 unfold vOr at hq
 split at hq
 · rename_i t' hx
   cases hq
   exact gH (E:=E0) F hr hg hm hk hb .nil (fun pins σ H s e s' I h=>by obtain⟨_,_,_,_,_,_,_,_,_,_,z⟩:=h;exact z.elim) (zC h1 hr1 he) hdb he hpl pins s σ H Q I ⟨G0,H0,G,ρ,t,good,hx,k⟩
 · exact gS F hp hr hm hk hb hg ha hdb he hpl pins s σ H Q I ⟨G0,H0,G,ρ,t,good,hq,k⟩
end
theorem zOx {X:Cx}{E:XK}{tg e:Expr}{x:Ef}{g:TG}{pos:Pos}(he:PVE X E e x)(hg:PG X tg g)(hs:swapsWithSole [tg] e pos.line X.env=pure false:=by rfl)(hw:swappedStores [tg] e X.env=pure none:=by rfl)(h1:(assignEach [tg] X.env).map (·.2)=[assign tg X.env]:=by rfl) :
   PVS X E (.Assign [tg] e pos) x:=fun pins s σ H D I h=>zYl he hg hs hw h1 pins s σ H D I h
inductive All2 {α β:Type}(R:α->β->Prop):List α->List β->Prop
 | nil:All2 R [] []
 | cons {a b l m}:R a b->All2 R l m->All2 R (a::l) (b::m)
theorem All2.length {α β:Type}{R:α->β->Prop}:∀ {l:List α} {m:List β},All2 R l m->l.length=m.length
 | _,_,.nil=>rfl
 | _,_,.cons _ t=>by rw[Qo,Qo,t.length]
theorem All2.imp {α β:Type}{R S:α->β->Prop}(h:∀a b,R a b->S a b):∀ {l:List α} {m:List β},All2 R l m->All2 S l m
 | _,_,.nil=>.nil
 | _,_,.cons q t=>.cons (h _ _ q) (t.imp h)
theorem All2.inj {α β:Type}{R:α->β->Prop}(h:∀a a' b,R a b->R a' b->a=a'):∀ {l l':List α} {m:List β},All2 R l m->All2 R l' m->l=l'
 | _,_,_,.nil,.nil=>rfl
 | _,_,_,.cons q t,.cons q' t'=>by rw[h _ _ _ q q',All2.inj h t t']
theorem All2.get {α β:Type}{R:α->β->Prop}:∀ {l:List α} {m:List β},All2 R l m->∀(j:Nat) (h1:j < l.length) (h2:j < m.length),R l[j] m[j]
 | _,_,.cons q t,0,_,_=>q
 | _,_,.cons q t,j+1,h1,h2=>t.get j (by simpa using h1) (by simpa using h2)
def kR:KT->Value->Prop
 | .int i,v=>(∃t,v = .int i t)∨∃b:Bool,v = .bool b/\i=(if b then 1 else 0)
 | .tup _,_=>False
def IsK (h:Heap):Nat->KT->Value->Prop
 | 0,k,v=>kR k v
 | n+1,.tup ks,v=>∃a items,v = .ref a/\h.IsTuple a items/\All2 (IsK h n) ks items.toList
 | _+1,.int i,v=>kR (.int i) v
theorem zY4 {k k':KT}{v:Value}(h:kR k v)(h':kR k' v):k=k':=by
 cases k with
 | int i =>
   cases k' with
   | int j =>
     rcases h with⟨t,rfl⟩ | ⟨b,rfl,rfl⟩<;>rcases h' with⟨t',e⟩ | ⟨b',e,rfl⟩<;>cases e<;>rfl
   | tup l=>cases h'
 | tup l=>cases h
theorem dX {k:KT}{a:Addr}(h:kR k (.ref a)):False:=by
 cases k with
 | int i=>rcases h with⟨t,e⟩ | ⟨b,e,_⟩<;>cases e
 | tup l=>cases h
theorem zWk {h:Heap}{n:Nat}{k:KT}{v:Value}(hk:∀l,k ≠ .tup l):IsK h n k v↔kR k v:=by
 cases n with
 | zero=>exact Iv
 | succ n =>
   cases k with
   | tup l=>exact absurd rfl (hk l)
   | int i=>exact Iv
theorem eJ {h:Heap}{a:Addr}{i j:Array Value}(x:h.IsTuple a i)(y:h.IsTuple a j):i=j:=by
 obtain⟨o,e,_,n,d⟩:=x
 obtain⟨o',e',_,n',d'⟩:=y
 rw[e] at e';cases e'
 rw[d] at d';cases d';rfl
theorem zYi {h:Heap}:∀(n:Nat) (k k':KT) (v:Value),IsK h n k v->IsK h n k' v->k=k'
 | 0,_,_,_,x,y=>zY4 x y
 | n+1,.tup ks,k',v,x,y=>by
   obtain⟨a,items,rfl,t,al⟩:=x
   cases k' with
   | tup ls =>
     obtain⟨a',items',e,t',al'⟩:=y
     cases e
     have:=eJ t t'
     subst this
     rw[al.inj (fun p q r=>zYi n p q r) al']
   | int i=>exact(dX (k:=.int i) y).elim
 | n+1,.int i,.tup ls,v,x,y=>by
   obtain⟨a',items',rfl,_⟩:=y
   exact(dX (k:=.int i) x).elim
 | n+1,.int i,.int j,v,x,y=>zY4 (k:=.int i) (k':=.int j) x y
theorem zYV {h h':Heap}(hk:∀a items,h.IsTuple a items->h'.IsTuple a items):∀(n:Nat) (k:KT) (v:Value),IsK h n k v->IsK h' n k v
 | 0,_,_,x=>x
 | n+1,.tup ks,v,x=>by
   obtain⟨a,items,rfl,t,al⟩:=x
   exact⟨a,items,rfl,hk _ _ t,al.imp fun p q r=>zYV hk n p q r⟩
 | n+1,.int i,v,x=>x
def dK':Nat->KT->Nat
 | n+1,.tup ks=>(ks.map (dK' n)).sum+1
 | _,_=>1
section
variable {prog:Program} {w:World} {E:Value->Shared->Prop}
theorem zYY {k:KT}{v:Value}{A:Around}{s:Shared}{Q:Int->Shared->Prop}(x:kR k v)(hu:A.units < cLine)(h:Q (zPE k) { s with toks:=s.toks+1 }):wpAny (model prog w) A (pyHash v) Q E s:=by
 cases k with
 | int i =>
   rcases x with⟨t,rfl⟩ | ⟨b,rfl,rfl⟩
   · exact wpAny_pyHash_int h
   · refine PySem.W.pyHash_slot (T:="bool") rfl F.slot_bool_hash entry_int_hash (args_int_hash _) (beq_builtin_none _) (.inr hu) ?_
     cases b
     · exact(show wpAny _ _ (do ret (←mkInt 0)) _ _ s from Qe (wpAny_mkInt (Qa ⟨_,_,rfl,h⟩)))
     · exact(show wpAny _ _ (do ret (←mkInt 1)) _ _ s from Qe (wpAny_mkInt (Qa ⟨_,_,rfl,h⟩)))
 | tup l=>cases x
theorem zTa:∀(n:Nat) (k:KT) (v:Value) (A:Around) (s:Shared) (Q:Int->Shared->Prop),IsK s.heap n k v->A.units+n < cLine->Q (hK n k) { s with toks:=s.toks+dK' n k }->wpAny (model prog w) A (pyHash v) Q E s
 | 0,k,v,A,s,Q,x,hu,h=>by
   cases k with
   | tup l=>cases x
   | int i=>exact zYY (k:=.int i) x (by omega) h
 | n+1,.int i,v,A,s,Q,x,hu,h=>zYY (k:=.int i) x (by omega) h
 | n+1,.tup ks,v,A,s,Q,x,hu,h=>by
   obtain⟨a,items,rfl,t,al⟩:=x
   obtain⟨o,ho,hc,m,hd⟩:=id t
   refine PySem.W.pyHash_slot (T:="tuple") ⟨_,ho,hc⟩ F.slot_tuple_hash F.entry_tuple_hash (F.args_tuple_hash_1 _) (beq_builtin_none _) (.inr (by omega)) ?_
   show wpAny _ _ (Builtin.Tuple.tupleItemsOf (.ref a) >>= _) _ _ s
   refine Qe (wpAny_tupleItemsOf ho hd ?_)
   refine Qe ?_
   rw[←Yx]
   refine wpAny_forIn_list _
     (fun rest (b:Array Int) s'=>∃done left,ks=done++left/\All2 (IsK s.heap n) left rest/\b.toList=done.map (hK n)/\s'={ s with toks:=s.toks+(done.map (dK' n)).sum })
     _ ?_ ?_ _ _ ⟨[],ks,rfl,al,rfl,rfl⟩
   · rintro x rest b s' ⟨done,left,rfl,hl,hb,rfl⟩
     cases hl with
     | @cons k _ ks' _ h1 hl' =>
       refine Qe (zTa n k x A.in1 _ _ h1 (by show A.units+1+n < cLine;omega) ?_)
       first
         | exact Qa ⟨done++[k],ks',by simp,hl',by simp[hb],by simp[Nat.add_assoc]⟩
         | exact Qe (Qa (Qa ⟨done++[k],ks',by simp,hl',by simp[hb],by simp[Nat.add_assoc]⟩))
   · rintro b s' ⟨done,left,rfl,hl,hb,rfl⟩
     cases hl
     rw[Qb] at h
     show wpAny _ _ (retInt (Builtin.Tuple.tupleHashOf b.toList)) _ _ _
     rw[hb]
     exact Qe (wpAny_mkInt (Qa ⟨_,_,rfl,by simpa [hK,dK',Nat.add_assoc] using h⟩))
theorem kU {a b:KT}{p:Bool}(h:p=true↔a=b):p=decide (a=b):=by
 by_cases e:a=b
 · rw[Qm e];exact h.mpr e
 · rw[Qz e];cases p with
   | false=>rfl
   | true=>exact absurd (h.mp rfl) e
theorem zU5 {k k':KT}{v v':Value}{A:Around}{s:Shared}(x:kR k v)(y:kR k' v'):SeqAt.EqAt A s v v' (decide (k=k')):=by
 cases k with
 | int i =>
   cases k' with
   | int j =>
     rcases x with⟨t,rfl⟩ | ⟨b,rfl,rfl⟩<;>rcases y with⟨t',rfl⟩ | ⟨b',rfl,rfl⟩
     · rw[←kU (p:=i==j) (by simp)];exact Uc _ _ _ _
     · rw[←kU (p:=i==(if b' then 1 else 0)) (by simp)];exact SeqAt.EqAt.int_bool _ _ _
     · rw[←kU (p:=(if b then 1 else 0)==j) (by simp)];exact SeqAt.EqAt.bool_int _ _ _
     · rw[←kU (p:=b==b') (by cases b<;>cases b'<;>simp)];exact Ud _ _
   | tup l=>cases y
 | tup l=>cases x
theorem eN {k:KT}{v:Value}{A:Around}{s:Shared}{a:Addr}{items:Array Value}(t:s.heap.IsTuple a items)(hu:A.units < cLine)(y:kR k v):SeqAt.EqAt A s (.ref a) v false/\SeqAt.EqAt A s v (.ref a) false:=by
 cases k with
 | int i =>
   rcases y with⟨t',rfl⟩ | ⟨b',rfl,_⟩
   · exact⟨SeqAt.EqAt.tuple_int _ _ t hu,SeqAt.EqAt.int_tuple _ _ t hu⟩
   · exact⟨SeqAt.EqAt.tuple_bool _ t hu,SeqAt.EqAt.bool_tuple _ t hu⟩
 | tup l=>cases y
theorem zQa {ks ls:List KT}:((List.range (min ks.length ls.length)).all (fun j=>decide (ks[j]?=ls[j]?))&&ks.length==ls.length)=decide (KT.tup ks=KT.tup ls):=by
 refine kU ?_
 rw[Qg,Wq,Eh]
 constructor
 · rintro⟨h1,h2⟩
   congr 1
   refine List.ext_getElem? fun j=>?_
   by_cases hj:j < min ks.length ls.length
   · exact Tu (h1 j (Uj.mpr hj))
   · rw[Ri (by omega),Ri (by omega)]
 · intro e
   cases e
   exact⟨fun j _=>Qm rfl,rfl⟩
theorem zN8:∀(n:Nat) (k k':KT) (v v':Value) (A:Around) (s:Shared),IsK s.heap n k v->IsK s.heap n k' v'->A.units+n < cLine->SeqAt.EqAt A s v v' (decide (k=k'))
 | 0,k,k',v,v',A,s,x,y,hu=>zU5 x y
 | n+1,.tup ks,.tup ls,v,v',A,s,x,y,hu=>by
   obtain⟨a,items,rfl,t,al⟩:=x
   obtain⟨b,jtems,rfl,t',al'⟩:=y
   by_cases hab:a=b
   · subst hab
     have e:=eJ t t'
     subst e
     have e:=al.inj (fun p q r=>zYi n p q r) al'
     subst e
     rw[Qm rfl]
     exact Yd _
   · refine .of_refs hab ?_
     have l1:=al.length
     have l2:=al'.length
     have R:=SeqAt.RcAt.tuples (A:=A) (e:=fun j=>decide (ks[j]?=ls[j]?)) t t' (by omega) fun j h1 h2=>by
       have b1:j < ks.length:=by rw[l1];simpa using h1
       have b2:j < ls.length:=by rw[l2];simpa using h2
       have q:=zN8 n ks[j] ls[j] items[j] jtems[j] A.in1 s (al.get j b1 (by simpa using h1)) (al'.get j b2 (by simpa using h2)) (by show A.units+1+n < cLine;omega)
       have e:decide (ks[j]?=ls[j]?)=decide (ks[j]=ls[j]):=by
         refine kU ?_
         rw[decide_eq_true_iff,Qs b1,Qs b2,Option.some_inj]
       rw[e]
       exact q
     have e:=zQa (ks:=ks) (ls:=ls)
     rw[l1,l2,Eg,Eg] at e
     rw[←e]
     exact R
 | n+1,.tup ks,.int i,v,v',A,s,x,y,hu=>by
   obtain⟨a,items,rfl,t,al⟩:=x
   rw[←kU (p:=false) (by simp)]
   exact(eN (k:=.int i) t (by omega) y).1
 | n+1,.int i,.tup ks,v,v',A,s,x,y,hu=>by
   obtain⟨a,items,rfl,t,al⟩:=y
   rw[←kU (p:=false) (by simp)]
   exact(eN (k:=.int i) t (by omega) x).2
 | n+1,.int i,.int j,v,v',A,s,x,y,hu=>zU5 (k:=.int i) (k':=.int j) x y
theorem bB {k:KT}{v:Value}(m:Nat)(x:kR k v):eqIsQuiet m v=pure true:=by
 refine eqIsQuiet_byValue m ?_
 cases k with
 | int i=>rcases x with⟨t,rfl⟩ | ⟨b,rfl,_⟩<;>rfl
 | tup l=>cases x
theorem zUp:∀(n:Nat) (k:KT) (v:Value) (m:Nat) (A:Around) (s:Shared) (Q:Bool->Shared->Prop),n<=m->IsK s.heap n k v->Q true s->wpAny (model prog w) A (eqIsQuiet m v) Q E s
 | 0,k,v,m,A,s,Q,hm,x,h=>by rw[bB m x];exact Qa h
 | n+1,.int i,v,m,A,s,Q,hm,x,h=>by rw[bB (k:=.int i) m x];exact Qa h
 | n+1,.tup ks,v,0,A,s,Q,hm,x,h=>absurd hm (by omega)
 | n+1,.tup ks,v,m+1,A,s,Q,hm,x,h=>by
   obtain⟨a,items,rfl,t,al⟩:=x
   obtain⟨o,ho,hc,m',hd⟩:=id t
   have hT:s.TypeIs (.ref a) "tuple":=⟨_,ho,hc⟩
   unfold eqIsQuiet
   refine Qe (Yg hT F.slot_tuple_eq.lookup ?_)
   show wpAny _ _ (isInstance (.ref a) (.type "tuple") >>= _) _ _ s
   refine Qe (Il hT isSubtype_tuple_tuple ?_)
   simp only[Bool.not_true,Wb,Te]
   refine Qe (Uk ho hd ?_)
   refine Qe ?_
   show wpAny _ _ (forIn items _ _) _ _ s
   rw[←Yx]
   refine wpAny_forIn_list _ (fun rest r s'=>r.1=none/\s'=s/\∃left,All2 (IsK s.heap n) left rest) _ ?_ ?_ _ _ ⟨rfl,rfl,ks,al⟩
   · rintro v rest r s' ⟨hr,rfl,left,hall⟩
     cases hall with
     | cons h1 h2 =>
       refine Qe (zUp n _ v m A s' _ (by omega) h1 ?_)
       simp only[Bool.not_true,Wb,Te]
       exact Qa ⟨rfl,rfl,_,h2⟩
   · rintro⟨r1,r2⟩ s' ⟨hr,rfl,_⟩
     simp only at hr
     subst hr
     exact Qa h
end
theorem zZc {h h':Heap}{d:Addr}{o:Obj}{es ep}(ho:h.get? d=some o)(hd:o.data = .dict es ep)(hs:Heap.SameBut d h h')(a:Addr)(items:Array Value)(t:h.IsTuple a items):h'.IsTuple a items:=by
 obtain⟨o',ho',hc,n,hd'⟩:=t
 have hne:a≠d:=by
   rintro rfl
   rw[ho] at ho';cases ho'
   rw[hd] at hd';cases hd'
 exact⟨o',(hs.2 a hne).trans ho',hc,n,hd'⟩
def fZ (prog:Program)(w:World):HeapKind prog w KT where
 is:=fun h k a=>IsK h 8 k (.ref a)
 hash:=hK 8
 draws:=dK' 8
 room:=fun A=>A.units+8 < cLine
 inj:=fun hx hy=>zYi 8 _ _ _ hx hy
 keeps:=fun x ho hd hs=>zYV (zZc ho hd hs) 8 _ _ x
 pyHash:=fun hu hk h=>zTa 8 _ _ _ _ _ hk hu h
 eqBool:=fun hu hx hy h=>zN8 8 _ _ _ _ _ _ hx hy hu _ _ _ _ h
 quiet:=fun hk h=>zUp 8 _ _ 8 _ _ _ (by omega) hk h
section
variable {X:Cx} {pins:List (Addr×Obj)} {σ:St} {G H:Hp} {s:Shared}
theorem zXk {ds:List D}{ks:List KT}{n:Nat}(f:∀(d:D) (v:V) (u:Value) (k:KT),ktD n d=some k->Rep X.K G d v->RelV v u->IsK s.heap n k u):∀ {ds:List D} {ks:List KT} {vs:List V} {us:List Value},zVQ (ktD n) ds=some ks->Reps X.K G ds vs->Vals vs us->All2 (IsK s.heap n) ks us
 | [],ks,vs,us,h,r,w=>by
   rw[yR] at r;subst r
   cases h;cases w;exact .nil
 | d::ds,ks,vs,us,h,r,w=>by
   obtain⟨v,vr,rfl,r1,r2⟩:=zG.mp r
   unfold zVQ at h
   obtain⟨k,h1,h⟩:=Qq.mp h
   obtain⟨ks',h2,rfl⟩:=Qt.mp h
   cases w with
   | cons w1 w2=>exact .cons (f d v _ k h1 r1 w1) (zXk (ds:=ds) (ks:=ks') f h2 r2 w2)
theorem zXS (I:Inv X pins σ H s)(sub:Same G H):∀(n:Nat) (d:D) (v:V) (u:Value) (k:KT),ktD n d=some k->Rep X.K G d v->RelV v u->IsK s.heap n k u:=by
 have leaf:∀(n:Nat) (d:D) (v:V) (u:Value) (k:KT),(∀ds,d ≠ .tup ds)->ktD n d=some k->Rep X.K G d v->RelV v u->IsK s.heap n k u:=fun n d v u k hd h r ru=>by
   cases d with
   | int i =>
     have e:k = .int i:=by cases n<;>(cases h;rfl)
     subst e
     rw[zD] at r;subst r
     obtain⟨t,rfl⟩:=ru
     exact(zWk (fun l z=>by cases z)).mpr (.inl ⟨t,rfl⟩)
   | bl b =>
     have e:k = .int (if b then 1 else 0):=by cases n<;>(cases h;rfl)
     subst e
     rw[xF] at r;subst r
     cases ru
     exact(zWk (fun l z=>by cases z)).mpr (.inr ⟨b,rfl,rfl⟩)
   | tup ds=>exact absurd rfl (hd ds)
   | _=>cases n<;>cases h
 intro n
 induction n with
 | zero =>
   intro d v u k h r ru
   cases d with
   | tup ds=>cases h
   | _=>exact leaf 0 _ v u k (fun _ z=>by cases z) h r ru
 | succ n ih =>
   intro d v u k h r ru
   cases d with
   | tup ds =>
     unfold ktD at h
     obtain⟨ks,h1,rfl⟩:=Qt.mp h
     obtain⟨p,vs,rfl,q1,q2⟩:=xE.mp r
     cases ru
     obtain⟨its,w1,t1,_⟩:=I.tuple (sub.tup q1)
     exact⟨p,its.toArray,rfl,t1,zXk (ds:=ds) (ks:=ks) ih h1 q2 w1⟩
   | _=>exact leaf (n+1) _ v u k (fun _ z=>by cases z) h r ru
def sR:List KT->List Addr->List Value->List (KT×Addr×Value)
 | k::ks,a::as,u::us=>(k,a,u)::sR ks as us
 | _,_,_=>[]
theorem zZY (P:Program)(w:World):∀(ks:List KT) (as:List Addr) (us:List Value),eF ks as us=(sR ks as us).map (entryOfKey (fZ P w))
 | k::ks,a::as,u::us=>by rw[eF,sR,Qx,zZY P w ks as us];rfl
 | [],_,_=>by simp[eF,sR]
 | _::_,[],_=>by simp[eF,sR]
 | _::_,_::_,[]=>by simp[eF,sR]
theorem kT:∀ {ks:List KT} {as:List Addr} {us:List Value},ks.length=as.length->ks.length=us.length->(sR ks as us).map (·.1)=ks
 | [],[],[],_,_=>rfl
 | k::ks,a::as,u::us,h1,h2=>by rw[sR,Qx,kT (by simpa using h1) (by simpa using h2)]
 | [],_::_,_,h,_=>by simp at h
 | [],[],_::_,_,h=>by simp at h
 | _::_,[],_,h,_=>by simp at h
 | _::_,_::_,[],_,h=>by simp at h
theorem zQ0 {ks:List KT}{as:List Addr}{us:List Value}(h1:ks.length=as.length)(h2:ks.length=us.length):(sR ks as us).length=ks.length:=by
 have:=Ec List.length (kT h1 h2)
 rwa[Qu] at this
theorem zWZ:∀ {ks:List KT} {as:List Addr} {us:List Value} (k:KT) (a:Addr) (u:Value),ks.length=as.length->ks.length=us.length->sR ks as us++[(k,a,u)]=sR (ks++[k]) (as++[a]) (us++[u])
 | [],[],[],k,a,u,_,_=>rfl
 | k'::ks,a'::as,u'::us,k,a,u,h1,h2=>by
   show(k',a',u')::(sR ks as us++[(k,a,u)])=_
   rw[zWZ k a u (by simpa using h1) (by simpa using h2)]
   rfl
 | [],_::_,_,_,_,_,h,_=>by simp at h
 | [],[],_::_,_,_,_,_,h=>by simp at h
 | _::_,[],_,_,_,_,h,_=>by simp at h
 | _::_,_::_,[],_,_,_,_,h=>by simp at h
theorem ODs.lens {K:PySem.W.Frag}:∀ {kvs ks as vs},ODs K G kvs ks as vs->ks.length=as.length/\ks.length=vs.length/\kvs.length=ks.length
 | _,_,_,_,.nil=>⟨rfl,rfl,rfl⟩
 | _,_,_,_,.cons _ _ _ h=>by
   obtain⟨a,b,c⟩:=ODs.lens h
   simp only[Qo]
   omega
theorem ODs.keys {K:PySem.W.Frag}:∀ {kvs ks as vs},ODs K G kvs ks as vs->(kvs.map fun p=>ktD 8 p.1)=ks.map some
 | _,_,_,_,.nil=>rfl
 | _,_,_,_,.cons h1 _ _ h=>by rw[Qx,Qx,h1,ODs.keys h]
theorem ODs.snoc {K:PySem.W.Frag}{d e:D}{k:KT}{a:Addr}{v:V}(h1:ktD 8 d=some k)(h2:Rep K G d (.ref a))(h3:Rep K G e v):∀ {kvs ks as vs},ODs K G kvs ks as vs->ODs K G (kvs++[(d,e)]) (ks++[k]) (as++[a]) (vs++[v])
 | _,_,_,_,.nil=>.cons h1 h2 h3 .nil
 | _,_,_,_,.cons a1 a2 a3 h=>.cons a1 a2 a3 (ODs.snoc h1 h2 h3 h)
theorem zSv (I:Inv X pins σ H s)(sub:Same G H):∀ {kvs ks as vs} {us:List Value},ODs X.K G kvs ks as vs->Vals vs us->∀x∈sR ks as us,IsK s.heap 8 x.1 (.ref x.2.1)
 | _,_,_,_,_,.nil,_=>fun x hx=>by simp[sR] at hx
 | _,_,_,_,_,.cons h1 h2 h3 h,w=>by
   cases w with
   | cons w1 w2 =>
     intro x hx
     rcases Qf.mp hx with rfl | hx
     · exact zXS I sub 8 _ _ _ _ h1 h2 rfl
     · exact zSv I sub h w2 x hx
theorem zUK (I:Inv X pins σ H s)(sub:Same G H){a:Addr}{kvs ks as vs}(hp:H a=some (.ext (nR a ks as vs)))(od:ODs X.K G kvs ks as vs)(nd:ks.Nodup):∃us,Vals vs us/\ks.length=us.length/\s.heap.DictOfH (fZ X.prog X.w) a (sR ks as us):=by
 obtain⟨⟨us,w,o,es,ep,h1,h2,h3,h4⟩,_⟩:=(show ObjOk X.prog X.w H s.heap a (.ext (nR a ks as vs)) from I.hok a _ hp)
 obtain⟨l1,l2,_⟩:=od.lens
 have l3:ks.length=us.length:=l2.trans w.length
 refine⟨us,w,l3,o,es,ep,h1,h2,h3,?_,zSv I sub od w,?_⟩
 · rw[h4];exact zZY X.prog X.w ks as us
 · rw[kT l1 l3];exact nd
theorem zUB {P:Program}{w:World}{H':Hp}{h':Heap}{a:Addr}{ks as}{vs:List V}{us:List Value}(hv:Vals vs us){o es ep}(h1:h'.get? a=some o)(h2:o.ExactDict)(h3:o.data = .dict es ep)(h4:es.toList=eF ks as us):ObjOk P w H' h' a (.ext (nR a ks as vs)) :=
 ⟨⟨us,hv,o,es,ep,h1,h2,h3,h4⟩,⟨o,h1⟩,fun g1 g2 ⟨us,hv,o,es,ep,e1,e2,e3,e4⟩ k=>⟨us,hv,o,es,ep,k o e1,e2,e3,e4⟩⟩
theorem zZD {ks:List KT}{as:List Addr}{us:List Value}(h1:ks.length=as.length)(h2:ks.length=us.length)(k:KT):(atKey (sR ks as us) k).isSome=decide (k∈ks):=by
 unfold atKey
 rw[Option.isSome_map]
 by_cases hm:k∈ks
 · rw[Qm hm,List.find?_isSome]
   rw[←kT h1 h2] at hm
   obtain⟨x,hx,e⟩:=Wg.mp hm
   exact⟨x,hx,Qm e⟩
 · rw[Qz hm]
   cases hf:List.find? (fun x:KT×Addr×Value=>decide (x.1=k)) (sR ks as us) with
   | none=>rfl
   | some x =>
     refine absurd ?_ hm
     rw[←kT h1 h2]
     have hx:=List.find?_some hf
     exact Wg.mpr ⟨x,List.mem_of_find?_eq_some hf,Tu hx⟩
theorem Paired.upd {α β:Type}{F F':α->β->Prop}{b':β}:∀ {l:List α} {r:List β} (i:Nat),Paired F l r->(∀(j:Nat) (a:α) (b:β),j≠i->l[j]?=some a->r[j]?=some b->F a b->F' a b)->(∀a,l[i]?=some a->F' a b')->Paired F' l (r.set i b')
 | _,_,_,.nil,_,_=>.nil
 | _,_,0,.cons q t,h1,h2=>by
   rw[List.set_cons_zero]
   refine .cons (h2 _ rfl) ?_
   have tl:∀ {l:List α} {r:List β} (n:Nat),Paired F l r->(∀(j:Nat) (a:α) (b:β),l[j]?=some a->r[j]?=some b->F a b->F' a b)->Paired F' l r:=by
     intro l r n p
     induction p with
     | nil=>intro _;exact .nil
     | cons q t ih=>intro h;exact .cons (h 0 _ _ rfl rfl q) (ih fun j a b e1 e2=>h (j+1) a b (by simpa using e1) (by simpa using e2))
   exact tl 0 t fun j a b e1 e2=>h1 (j+1) a b (by omega) (by simpa using e1) (by simpa using e2)
 | _,_,i+1,.cons q t,h1,h2=>by
   rw[List.set_cons_succ]
   exact .cons (h1 0 _ _ (by omega) rfl rfl q) (Paired.upd i t (fun j a b hj e1 e2=>h1 (j+1) a b (by omega) (by simpa using e1) (by simpa using e2)) fun a e=>h2 a (by simpa using e))
def zOb:B->Bool | .od _=>true | _=>false
def zUZ (i:Nat)(ρ:List B):Bool:=(List.range ρ.length).all fun j=>j==i || !(zOb (ρ.getD j .no))
theorem zTh {i j:Nat}{ρ:List B}{b:B}(h:zUZ i ρ=true)(hj:j≠i)(e:ρ[j]?=some b):zOb b=false:=by
 unfold zUZ at h
 have hl:=(Qj.mp e).1
 have:=Wq.mp h j (Uj.mpr hl)
 rw[Oq,e] at this
 simpa [hj] using this
variable {K:PySem.W.Frag} {G0 H0:Hp} {ρ:List B}
theorem Good.dict {i:Nat}{kvs:List (D×D)}(g:Good K G0 H0 G H σ ρ)(h:ρ[i]?=some (.od kvs)):∃a ks as vs,σ[i]?=some (some (.ref a))/\H a=some (.ext (nR a ks as vs))/\G a=none/\H0 a=none/\ODs K G kvs ks as vs/\ks.Nodup/\(a==sysModules)=false:=by
 obtain⟨o,e,r⟩:=Paired.get g.vals h
 cases r with
 | od h1 h2 h3 h4 h5 h6=>exact⟨_,_,_,_,e,h1,h2,h3,h4,h5,h6⟩
theorem jX {i j:Nat}{kvs:List (D×D)}{ds:List D}(h:(ρ.set i (.od kvs))[j]?=some (.ow ds)):j≠i/\ρ[j]?=some (.ow ds):=by
 by_cases e:j=i
 · subst e
   rw[Ir] at h
   split at h
   · split at h<;>cases h
   · rename_i z;exact absurd rfl z
 · rw[Wi (Ne.symm e)] at h
   exact⟨e,h⟩
theorem Good.setD {a:Addr}{ks as vs}{kvs:List (D×D)}(g:Good K G0 H0 G H σ ρ)(i:Nat)(ha:H a=some (.ext (nR a ks as vs)))(ga:G a=none)(h0:H0 a=none)(od:ODs K G kvs ks as vs)(nd:ks.Nodup)(hm:(a==sysModules)=false):Good K G0 H0 G H (σ.set i (some (.ref a))) (ρ.set i (.od kvs)):=by
 refine⟨g.st,Paired.set (.od ha ga h0 od nd hm) i g.vals,fun j k b d1 d2 h1 h2 h3 h4=>?_⟩
 obtain⟨n1,e1⟩:=jX h1
 obtain⟨n2,e2⟩:=jX h2
 rw[Wi (Ne.symm n1)] at h3
 rw[Wi (Ne.symm n2)] at h4
 exact g.apart j k b d1 d2 e1 e2 h3 h4
theorem Good.wrD {a:Addr}{ks as vs}{kvs kvs':List (D×D)}{i:Nat}(g:Good K G0 H0 G H σ ρ)(ho:zUZ i ρ=true)(hi:ρ[i]?=some (.od kvs))(hs:σ[i]?=some (some (.ref a)))(od:ODs K G kvs' ks as vs)(nd:ks.Nodup) :
   Good K G0 H0 G (upd H a (.ext (nR a ks as vs))) σ (ρ.set i (.od kvs')):=by
 obtain⟨a',ks0,as0,vs0,h1,h2,h3,h4,_,_,hm⟩:=g.dict hi
 rw[hs] at h1;cases h1
 refine⟨⟨fun b o e=>?_,g.st.gg,fun b o e=>?_,g.st.new⟩,?_,fun j k b d1 d2 e1 e2 e3 e4=>?_⟩
 · rw[yS (yK e h4)];exact g.st.hh b o e
 · rw[yS (yK e h3)];exact g.st.sub b o e
 · refine Paired.upd i g.vals (fun j x b hj e1 e2 q=>?_) fun x e=>?_
   · cases q with
     | no=>exact .no
     | fz r=>exact .fz r
     | @ow c us ds c1 c2 c3 c4 =>
       have:c≠a:=fun z=>by rw[z,h2] at c1;cases c1
       exact .ow (by rw[yS this];exact c1) c2 c3 c4
     | od _ _ _ _ _ _=>exact absurd (zTh ho hj e2) (by intro z;cases z)
   · rw[hs] at e;cases e
     exact .od zN h3 h4 od nd hm
 · obtain⟨n1,f1⟩:=jX e1
   obtain⟨n2,f2⟩:=jX e2
   exact g.apart j k b d1 d2 f1 f2 e3 e4
variable {a b c e:Expr} {fa fb:Ef} {pos p p1 p2:Pos} {k:Nat}
theorem Inv.big' {pins:List (Addr×Obj)}{σ:St}{H:Hp}{s:Shared}(I:Inv X pins σ H s):sysModules < s.heap.objs.size:=by
 have h:mainGlobals < s.heap.objs.size:=(I.mod.glob.keeps I.bk).lt
 exact Nat.lt_trans (by decide) h
def zNV:TE:=fun _ H Q=>∀p,H p=none->(p==sysModules)=false->Q (.ref p) (upd H p (.ext (nR p [] [] [])))
theorem zPZ:PE X (.Dict [] [] pos) zNV:=fun pins s σ H Q I h =>
 wpAny_Dict_empty ⟨.ref s.heap.objs.size,_,I.laid (a:=s.heap.objs.size) (o:=.ext (nR s.heap.objs.size [] [] [])) (t':=s.toks) (fun _ _ q=>Qr _ q) (Ql _) (zUB .nil (Qh _ rfl) ⟨rfl,rfl,rfl⟩ rfl rfl),rfl,
   h _ (I.hok.fresh (Ql _)) (Wl.mpr (Ne.symm (Wy I.big')))⟩
def zSj (i:Nat):Sf:=fun ρ=>some (.nx (ρ.set i (.od [])))
theorem zUF (i:Nat){x:Str}{pos':Pos}(hN:X.N.Nodup)(hi:X.N[i]?=some x:=by rfl)(hx:Loc X.env.scope x:=by first | exact .inl rfl | exact .inr rfl)(hs:swapsWith (.Dict [] [] p) (some (.Name x pos')) pos.line X.env=pure false:=by rfl)
   (hf:X.fn x=true∨X.env.scope.names.lookup x=some .local:=by first | exact .inl rfl | exact .inr rfl):PFS X (.Assign [.Name x pos'] (.Dict [] [] p) pos) (zSj i):=by
 refine PS.to (aB hN hi hx zPZ hs hf) ?_
 rintro D σ H ⟨G0,H0,G,ρ,o,good,hf,k⟩
 cases hf
 intro q hq hm
 have s1:=Step.own (o:=.ext (nR q [] [] [])) good.st.sub hq
 exact k _ _ G s1.gg ((good.step s1).setD i zN (good.st.sub.free hq) (good.st.hh.free hq) .nil List.nodup_nil hm)
theorem zO6 (hu:X.A.units+10 < cLine):OpR X (compareOp .In) (fun x y H Q=>∃G a b d kt kvs ks as vs,x = .ref b/\y = .ref a/\Same G H/\ktD 8 d=some kt/\Rep X.K G d (.ref b)/\H a=some (.ext (nR a ks as vs))/\ODs X.K G kvs ks as vs/\ks.Nodup/\(a==sysModules)=false/\Q (.bl (decide (kt∈ks))) H):=by
 intro pins s σ H x y v u Q I rx ry ⟨G,a,b,d,kt,kvs,ks,as,vs,e1,e2,sub,hk,rd,hp,od,nd,hm,q⟩
 subst e1 e2
 cases rx
 cases ry
 obtain⟨us,hv,hl,dd⟩:=zUK I sub hp od nd
 refine wpAny_in_heap (knd:=fZ X.prog X.w) (show X.A.units+1+8 < cLine by omega) (zXS I sub 8 _ _ _ _ hk rd rfl) hm dd ?_
 rw[zZD od.lens.1 hl]
 exact⟨.bl _,H,I.tok _,rfl,q⟩
def zQn:D->Option KT | .tup ds=>ktD 8 (.tup ds) | _=>none
theorem zXg {K:PySem.W.Frag}{G:Hp}{d:D}{kt:KT}{v:V}(h:zQn d=some kt)(r:Rep K G d v):ktD 8 d=some kt/\∃b,v = .ref b:=by
 cases d with
 | tup ds=>obtain⟨p,vs,rfl,_⟩:=xE.mp r;exact⟨h,p,rfl⟩
 | _=>cases h
def zWs (i:Nat)(fk:Ef):Tf:=fun ρ=>(fk ρ).bind fun d=>(zQn d).bind fun k=>match ρ[i]? with | some (.od kvs)=>some (decide (some k∈kvs.map fun p=>ktD 8 p.1)) | _=>none
theorem zR4 {K:PySem.W.Frag}{G:Hp}{kvs ks as vs}(od:ODs K G kvs ks as vs)(k:KT):decide (some k∈kvs.map fun p=>ktD 8 p.1)=decide (k∈ks):=by
 rw[od.keys]
 by_cases h:k∈ks
 · rw[Qm h,Qm (Wg.mpr ⟨k,h,rfl⟩)]
 · rw[Qz h,Qz fun z=>by obtain⟨x,hx,e⟩:=Wg.mp z;cases e;exact h hx]
theorem zVF (i:Nat){x:Str}(hr:Room k X.A)(ha:PF X a fa)(hN:X.N[i]?=some x:=by rfl)(hv:Vis X.env.scope x:=by first | exact Or.inl rfl | exact Or.inr (Or.inl rfl) | exact Or.inr (Or.inr rfl))(hd:(x==("__debug__":Str))=false:=by decide)(hcd:(x==("__classdict__":Str))=false:=by decide)
   (hm:behindInMarks .In (.Name x p)=false:=by first | exact zZ3 _ | (with_unfolding_all rfl)):PFT X (.Compare a [.In] [.Name x p] pos) (zWs i fa):=by
 have hu:=hr.un
 refine PT.to (cS (zO6 (by omega)) ha (nX hN hv hd hcd) hm) ?_
 rintro σ H Q ⟨G0,H0,G,ρ,c,good,hf,kk⟩
 unfold zWs at hf
 obtain⟨d,h1,hf⟩:=Qq.mp hf
 obtain⟨kt,h2,hf⟩:=Qq.mp hf
 split at hf
 · rename_i kvs hi
   cases hf
   refine⟨G0,H0,G,ρ,_,good,h1,fun u H1 G1 s1 r1=>?_⟩
   obtain⟨q,ks,as,vs,e1,e2,e3,e4,e5,e6,e7⟩:=(good.step s1).dict hi
   obtain⟨hk,b,rfl⟩:=zXg h2 r1
   refine⟨.ref q,e1,G1,q,b,d,kt,kvs,ks,as,vs,rfl,rfl,s1.sub,hk,r1,e2,e5,e6,e7,_,rfl,?_⟩
   rw[←zR4 e5]
   exact kk _ G1 s1
 · cases hf
def zNk (X:Cx):V->V->V->Hp->(Hp->Prop)->Prop:=fun o i v H Q=>∃G a b d kt kvs ks as vs,o = .ref a/\i = .ref b/\Same G H/\ktD 8 d=some kt/\Rep X.K G d (.ref b)/\H a=some (.ext (nR a ks as vs))/\ODs X.K G kvs ks as vs/\ks.Nodup/\kt∉ks/\kvs.length<=lim/\Q (upd H a (.ext (nR a (ks++[kt]) (as++[b]) (vs++[v]))))
theorem zYs:∀ {vs:List V} {us:List Value} {v:V} {u:Value},Vals vs us->RelV v u->Vals (vs++[v]) (us++[u])
 | _,_,_,_,.nil,h=>.cons h .nil
 | _,_,_,_,.cons a t,h=>.cons a (zYs t h)
theorem zRl (hu:X.A.units+10 < cLine):zOB X (zNk X):=by
 intro pins s σ H o i v ov iv u Q I ro ri rv h
 obtain⟨G,a,b,d,kt,kvs,ks,as,vs,rfl,rfl,sub,hk,rd,hp,od,nd,hn,hl,q⟩:=h
 cases ro
 cases ri
 obtain⟨us,hv,hl2,dd⟩:=zUK I sub hp od nd
 obtain⟨l1,l2,l3⟩:=od.lens
 have hz:(sR ks as us).length<=sizeLine:=by rw[zQ0 l1 hl2];exact Ws (wU (by omega))
 refine wpAny_setItem_heap (knd:=fZ X.prog X.w) (hsz:=hz) (show X.A.units+1+8 < cLine by omega) (zXS I sub 8 _ _ _ _ hk rd rfl) dd fun h' dd' hs=>⟨_,?_,q⟩
 have hnone:atKey (sR ks as us) kt=none:=by
   have:=zZD l1 hl2 kt
   rw[Qz hn] at this
   exact Option.isSome_eq_false_iff.mp this |> fun z=>by simpa using z
 rw[storedH_new hnone,zWZ kt b u l1 hl2] at dd'
 obtain⟨o',es,ep,g1,g2,g3,g4,_⟩:=dd'
 refine I.write (x:=a) (e:=a) (by rw[hp];trivial) (.inl rfl) (fun c w' hc z=>(hs.2 c hc).trans z) ⟨o',g1⟩ (zUB (zYs hv rv) g1 g2 g3 ?_)
 rw[g4];exact(zZY X.prog X.w _ _ _).symm
def zUo (i:Nat)(fk fv:Ef):Sf:=fun ρ=>(fv ρ).bind fun e=>(fk ρ).bind fun d=>(zQn d).bind fun k=>match ρ[i]? with
 | some (.od kvs)=>if kvs.length<=lim/\zUZ i ρ=true/\some k∉kvs.map (fun p=>ktD 8 p.1) then some (.nx (ρ.set i (.od (kvs++[(d,e)])))) else none
 | _=>none
theorem zUh (i:Nat){x:Str}(hr:Room k X.A)(he:PF X e fa)(hb:PF X b fb)(hN:X.N[i]?=some x:=by rfl)(hv:Vis X.env.scope x:=by first | exact Or.inl rfl | exact Or.inr (Or.inl rfl) | exact Or.inr (Or.inr rfl))(hd:(x==("__debug__":Str))=false:=by decide)(hcd:(x==("__classdict__":Str))=false:=by decide)
   (ha:∀v,assign (.Subscript (.Name x p1) b p2) X.env v=(do
     let ov ←holding [v] (eval (.Name x p1) X.env)
     let iv ←holding [v,ov] (eval b X.env)
     standAt p2
     holding [v,ov,iv] (setItem ov iv v)
     release [v,ov,iv] []):=by intro _;rfl)
   (hs:swapsWithSole [.Subscript (.Name x p1) b p2] e pos.line X.env=pure false:=by rfl) (hw:swappedStores [.Subscript (.Name x p1) b p2] e X.env=pure none:=by rfl)
   (h1:(assignEach [.Subscript (.Name x p1) b p2] X.env).map (·.2)=[assign (.Subscript (.Name x p1) b p2) X.env]:=by rfl):PFS X (.Assign [.Subscript (.Name x p1) b p2] e pos) (zUo i fb fa):=by
 have hu:=hr.un
 refine PS.to (zYl he (zSr (nX hN hv hd hcd) hb (zRl (by omega)) ha) hs hw h1) ?_
 rintro D σ H ⟨G0,H0,G,ρ,o,good,hf,kk⟩
 unfold zUo at hf
 obtain⟨de,g1,hf⟩:=Qq.mp hf
 obtain⟨d,g2,hf⟩:=Qq.mp hf
 obtain⟨kt,g3,hf⟩:=Qq.mp hf
 split at hf
 · rename_i kvs hi
   split at hf
   · rename_i hc
     obtain⟨hl,ho,hn⟩:=hc
     cases hf
     refine⟨G0,H0,G,ρ,_,good,g1,fun v H1 G1 s1 r1=>?_⟩
     obtain⟨q,ks,as,vs,e1,e2,e3,e4,e5,e6,e7⟩:=(good.step s1).dict hi
     refine⟨.ref q,e1,G0,H0,G1,ρ,_,good.step s1,g2,fun u H2 G2 s2 r2=>?_⟩
     obtain⟨q',ks',as',vs',f1,f2,f3,f4,f5,f6,f7⟩:=((good.step s1).step s2).dict hi
     rw[e1] at f1;cases f1
     obtain⟨hk,b',rfl⟩:=zXg g3 r2
     have hnk:kt∉ks':=fun z=>hn (by rw[f5.keys];exact Wg.mpr ⟨kt,z,rfl⟩)
     refine⟨G2,q,b',d,kt,kvs,ks',as',vs',rfl,rfl,s2.sub,hk,r2,f2,f5,f6,hnk,hl,?_⟩
     refine kk _ _ G2 (s1.gg.trans s2.gg) (((good.step s1).step s2).wrD ho hi e1 (f5.snoc hk r2 (r1.mono s2.gg)) ?_)
     exact Yy.mpr ⟨f6,by simp,fun x hx y hy=>by rw[Ey] at hy;subst hy;intro z;exact hnk (z ▸ hx)⟩
   · cases hf
 · cases hf
end
mutual
def zMR:D->Bool
 | .non=>true
 | .bl _=>true
 | .int _=>true
 | .str _=>true
 | .tup ds=>zP4 ds
 | _=>false
def zP4:List D->Bool
 | []=>true
 | d::r=>zMR d&&zP4 r
end
abbrev Jf:=List B->Option Str
end L2
namespace L2
open PySem PySem.Spec PyProof.Rows
open PySem.Builtin PySem.Builtin.Str
theorem zY1:∀l:List (Str×Tok),Vals ((l.map (·.1)).map V.str) (strValues l)
 | []=>.nil
 | (x,t)::r=>.cons ⟨t,rfl⟩ (zY1 r)
section
variable {X:Cx} {e c:Expr} {fa fb:Ef} {p:Pos}
def zVs:V->List V->Hp->VK->Prop:=fun x vs H Q=>∃z y,x = .str z/\vs=[.str y]/\1<=y.length/\z.length<=100000/\∀p,H p=none->Q (.ref p) (upd H p (.lst ((Txt.split z y).map V.str)))
theorem nG:MtR X "str.split" zVs:=by
 intro pins s σ H x xs v us Q I rx rv h
 obtain⟨z,y,rfl,rfl,hy1,hz,q⟩:=h
 obtain⟨t,rfl⟩:=rx
 obtain⟨w,rfl,u,rfl⟩:=rv.one
 have hy:(y.length==0)=false:=by rw[Wl];omega
 have hsl:sizeLine=sizeLine:=rfl
 have hlen:=split_le z y
 have go:∀(l:List (Str×Tok)) (k:Nat),l.map (·.1)=Txt.split z y->EP X pins σ Q (.ref s.heap.objs.size) { s with toks:=k,heap:=s.heap.push { cls:=.type "list",data:=.seq (strValues l).toArray } }:=by
   intro l k hl
   refine⟨.ref s.heap.objs.size,_,I.laid (o:=.lst ((Txt.split z y).map V.str)) (fun b o e=>Qr _ e) (Ql _) ?_,rfl,q _ I.fresh⟩
   exact⟨by rw[Qu,Ro];omega,_,_,by rw[←hl];exact zY1 l,Qh _ rfl⟩
 have hn:(partsBetween z (occurrences z y 0 z.length (z.length+1)) y.length).length<=sizeLine:=by
   have e1:=StrLaws.occ_length_le z y 0 z.length (z.length+1)
   rw[length_partsBetween,Ro];omega
 cases h1:(decide (z.length < y.length)||decide (strKind z < strKind y))
 · cases hf:(occurrences z y 0 z.length (z.length+1)).isEmpty
   · refine Yr F.slot_str_split (Ye _ _ _) F.entry_str_split (F.args_str_split_2 _ _) (meets_str_split_sep z y t u h1 hy hf (by rw[Ro];omega) hn) ?_
     show wants _ _ _ { s with toks:=_,heap:=s.heap.push { cls:=.type "list",data:=.seq (strsFrom s.toks (partsBetween z (occurrences z y 0 z.length (z.length+1)) y.length)).toArray } }
     rw[strsFrom_eq]
     exact go (PySem.numbered s.toks _) _ ((numbered_texts _ _).trans ((Wj (Ul h1)).trans (Wj (Ul hf))).symm)
   · exact Yr F.slot_str_split (Ye _ _ _) F.entry_str_split (F.args_str_split_2 _ _) (meets_str_split_not_found z y t u h1 hy hf) (go [(z,t)] s.toks ((Wj (Ul h1)).trans (Wr hf)).symm)
 · exact Yr F.slot_str_split (Ye _ _ _) F.entry_str_split (F.args_str_split_2 _ _) (meets_str_split_cannot_occur z y t u h1) (go [(z,t)] s.toks (Wr h1).symm)
theorem fJ {K:PySem.W.Frag}{G:Hp}:∀ys:List Str,Reps K G (ys.map D.str) (ys.map V.str)
 | []=>by rw[Ea,Ea,yR]
 | y::r=>by rw[Qx,Qx];exact zG.mpr ⟨_,_,rfl,yU.mpr rfl,fJ r⟩
def bI (x y:D):Option (List D):=match x,y with | .str z,.str m=>if 1<=m.length/\z.length<=100000 then some ((Txt.split z m).map D.str) else none | _,_=>none
def vV (fa fb:Ef):Lf:=fun ρ=>(fa ρ).bind fun x=>(fb ρ).bind fun y=>bI x y
theorem kL (ht:PE X c (tBM X.K "str" zVs (tF X.K fa) (jH (tF X.K fb) zWt))):PFr X c (vV fa fb):=by
 refine PE.toR ht ?_
 rintro σ H Q ⟨G0,H0,G,ρ,d,good,hf,k⟩
 unfold vV at hf
 obtain⟨x,h1,hf⟩:=Qq.mp hf
 obtain⟨y,h2,hf⟩:=Qq.mp hf
 unfold bI at hf
 split at hf
 · split at hf
   · rename_i hz
     cases hf
     refine⟨G0,H0,G,ρ,_,good,h1,fun u H1 G1 s1 r1=>?_⟩
     have r1:=yU.mp r1
     subst r1
     refine⟨rfl,G0,H0,G1,ρ,_,good.step s1,h2,fun v H2 G2 s2 r2=>?_⟩
     have r2:=yU.mp r2
     subst r2
     refine⟨_,_,rfl,rfl,hz.1,hz.2,fun l hl=>?_⟩
     exact k l _ _ G2 ((s1.trans s2).trans (Step.own s2.sub hl)) ((s1.trans s2).hh.free hl) zN (s2.sub.free hl) (fJ _)
   · cases hf
 · cases hf
end
theorem zYo {c:Nat}:∀ {x x' r r':List Nat},c∉x->c∉x'->x++c::r=x'++c::r'->x=x'/\r=r'
 | [],[],_,_,_,_,h=>⟨rfl,(Ub h).2⟩
 | [],b::x',_,_,_,h2,h=>absurd (by rw[(Ub h).1];exact Qc) h2
 | a::x,[],_,_,h1,_,h=>absurd (by rw[←(Ub h).1];exact Qc) h1
 | a::x,b::x',_,_,h1,h2,h=>by
   obtain⟨e1,e2⟩:=Ub h
   obtain⟨e3,e4⟩:=zYo (fun z=>h1 (Qi _ z)) (fun z=>h2 (Qi _ z)) e2
   exact⟨by rw[e1,e3],e4⟩
def tL (c:Nat)(y:Str):Prop:=c∉y.cps.toList
theorem lB (c:Nat)(x y:Str)(r:List Str):(Str.join ⟨#[c]⟩ (x::y::r)).cps.toList=x.cps.toList++c::(Str.join ⟨#[c]⟩ (y::r)).cps.toList:=by
 show(x++⟨#[c]⟩++Str.join ⟨#[c]⟩ (y::r)).cps.toList=_
 rw[Str.cps_append,Str.cps_append]
 simp
theorem jR {c:Nat}{x:Str}{z y:Str}{r:List Str}(hx:tL c x):x≠Str.join ⟨#[c]⟩ (z::y::r):=fun e=>by
 have:=Ec (fun q:Str=>q.cps.toList) e
 rw[lB] at this
 exact hx (by rw[this];simp)
theorem zWm {c:Nat}:∀ {xs ys:List Str},(∀x∈xs,tL c x)->(∀y∈ys,tL c y)->xs≠[]->ys≠[]->Str.join ⟨#[c]⟩ xs=Str.join ⟨#[c]⟩ ys->xs=ys
 | [],_,_,_,h,_,_=>absurd rfl h
 | _,[],_,_,_,h,_=>absurd rfl h
 | [x],[y],_,_,_,_,h=>by rw[show x=y from h]
 | [x],y::z::r,hx,_,_,_,h=>absurd h (jR (hx x Qc))
 | x::z::r,[y],_,hy,_,_,h=>absurd h.symm (jR (hy y Qc))
 | x::z::r,y::w::q,hx,hy,_,_,h=>by
   have e:=Ec (fun q:Str=>q.cps.toList) h
   rw[lB,lB] at e
   obtain⟨e1,e2⟩:=zYo (hx x Qc) (hy y Qc) e
   have e3:x=y:=by cases x;cases y;simp at e1;rw[e1]
   have e4:Str.join ⟨#[c]⟩ (z::r)=Str.join ⟨#[c]⟩ (w::q):=by
     generalize Str.join ⟨#[c]⟩ (z::r)=u at e2
     generalize Str.join ⟨#[c]⟩ (w::q)=v at e2
     cases u;cases v;simp at e2;rw[e2]
   rw[e3,zWm (fun x h=>hx x (Qi _ h)) (fun x h=>hy x (Qi _ h)) (Wk _ _) (Wk _ _) e4]
theorem bS (c:Nat)(ys:List Str)(hy:∀y∈ys,tL c y)(hn:ys≠[]):Txt.split (Str.join ⟨#[c]⟩ ys) ⟨#[c]⟩=ys:=by
 refine zWm (fun x hx=>StrLaws.split_free _ c x hx) hy (fun z=>?_) hn (StrLaws.join_split _ _)
 have:=split_pos (Str.join ⟨#[c]⟩ ys) ⟨#[c]⟩
 rw[z] at this
 simp at this
end L2
namespace L2
open PySem PySem.Spec PyProof.Rows
open PySem.Builtin PySem.Builtin.Str
def PEt (X:Cx)(e:Expr)(t:TE):Prop :=
 ∀(pins:List (Addr×Obj)) (s:Shared) (σ:St) (H:Hp) (Q:VK),Inv X pins σ H s->1<=s.toks->t σ H Q->wpAny (model X.prog X.w) X.A (eval e X.env) (EP X pins σ Q) X.xe s
def PAt (X:Cx)(es:List Expr)(t:TA):Prop :=
 ∀(pos:Pos) (pins:List (Addr×Obj)) (s:Shared) (σ:St) (H:Hp) (Q:List V->Hp->Prop),Inv X pins σ H s->1<=s.toks->t σ H Q->wpAny (model X.prog X.w) X.A (spliced (backTo pos (starEach es X.env))) (AP X pins σ Q) X.xe s
def PSt (X:Cx)(st:Stmt)(t:TS):Prop :=
 ∀(pins:List (Addr×Obj)) (s:Shared) (σ:St) (H:Hp) (D:Ends),Inv X pins σ H s->1<=s.toks->t D σ H->wpAny (model X.prog X.w) X.A (exec st X.env) (SP X pins D) X.xe s
def PSst (X:Cx)(st:List Stmt)(t:TS):Prop :=
 ∀(pins:List (Addr×Obj)) (s:Shared) (σ:St) (H:Hp) (D:Ends),Inv X pins σ H s->1<=s.toks->t D σ H->wpAny (model X.prog X.w) X.A (execs st X.env) (SP X pins D) X.xe s
theorem zW5 {α:Type}{t:Sem α}{Q Q':α->Shared->Prop}{M:Model}{A:Around}{E:Value->Shared->Prop}{s:Shared}(h:wpAny M A t Q E s)(hs:1<=s.toks)(hq:∀a s',Q a s'->1<=s'.toks->Q' a s'):wpAny M A t Q' E s :=
 wpAny_with_toks hs (Eu h (fun a s' q z=>hq a s' q z) fun _ _ x _=>x)
section
variable {X:Cx} {a b e:Expr} {es:List Expr} {te ta tb:TE} {t:TA} {u ts:TS} {pos:Pos} {st:Stmt} {rest:List Stmt} {fa:Ef} {ga gb:Lf} {f g:Sf}
theorem PE.tt (h:PE X e te):PEt X e te:=fun pins s σ H Q I _ q=>h pins s σ H Q I q
theorem PA.tt (h:PA X es t):PAt X es t:=fun pos pins s σ H Q I _ q=>h pos pins s σ H Q I q
theorem PS.tt (h:PS X st ts):PSt X st ts:=fun pins s σ H D I _ q=>h pins s σ H D I q
theorem zSl (ha:PEt X e te)(hr:PAt X es t)(hs:starEach (e::es) X.env=(false,eval e X.env)::starEach es X.env:=by rfl):PAt X (e::es) (jH te t):=by
 intro pos pins s σ H Q I ht h
 rw[hs]
 show wpAny _ _ (spliced ((false,eval e X.env)::backTo pos (starEach es X.env))) _ _ s
 refine Ev (zW5 (ha pins s σ H _ I ht h) ht fun u s1 ⟨x,H1,I1,r1,q1⟩ ht1=>?_)
 exact thn (hr pos pins s1 σ H1 _ I1 ht1 q1) fun us s2 ⟨xs,H2,I2,r2,q2⟩=>⟨x::xs,H2,I2,.cons r1 r2,q2⟩
theorem zQJ (h:PAt X es t):PEt X (.List es pos) (zNE t):=by
 intro pins s σ H Q I ht hq
 refine wpAny_List_spliced (thn (h pos pins s σ H _ I ht hq) fun us s1 ⟨xs,H1,I1,r,z,q⟩=>⟨by rw[←r.length];exact z,?_⟩)
 have hf:H1 s1.heap.objs.size=none:=I1.hok.fresh (Ql _)
 refine⟨.ref s1.heap.objs.size,upd H1 s1.heap.objs.size (.lst xs),I1.laid (t':=s1.toks) (fun b u e=>Qr _ e) (Ql _) ?_,rfl,q _ hf⟩
 exact⟨z,us,0,r,Qh _ rfl⟩
theorem zP1 {op:Operator}{r:R2}(ho:OpR X (binaryOp op) r)(ha:PEt X a ta)(hb:PEt X b tb):PEt X (.BinOp a op b pos) (tOp r ta tb):=by
 intro pins s σ H Q I ht h
 refine wpAny_BinOp (zW5 (ha pins s σ H _ I ht h) ht fun v s1 ⟨x,H1,I1,r1,q1⟩ ht1=>?_)
 refine thn (hb pins s1 σ H1 _ I1 ht1 q1) fun u s2 ⟨y,H2,I2,r2,q2⟩=>?_
 exact ho pins s2 σ H2 x y v u Q I2 r1 r2 q2
theorem zQs {i:Nat}{x:Str}{pos':Pos}(hN:X.N.Nodup)(hi:X.N[i]?=some x)(hx:Loc X.env.scope x)(he:PEt X e te)(hs:swapsWith e (some (.Name x pos')) pos.line X.env=pure false:=by rfl)(hf:X.fn x=true∨X.env.scope.names.lookup x=some .local:=by first | exact .inl rfl | exact .inr rfl | assumption) :
   PSt X (.Assign [.Name x pos'] e pos) (zWP te (aP i)):=by
 intro pins s σ H D I ht h
 refine Um (thn (he pins s σ H _ I ht h) fun v s1 ⟨y,H1,I1,r1,q1⟩=>?_) hs
 exact lL I1 hN hi hx r1 (fun s2 I2=>⟨_,H1,I2,q1⟩) hf
theorem zTC (h1:PSt X st ts)(h2:PSst X rest u):PSst X (st::rest) (zNO ts u):=by
 intro pins s σ H D I ht h
 refine Rk (zW5 (h1 pins s σ H { D with nx:=u D } I ht h) ht fun f s1 q ht1=>?_)
 cases f with
 | next =>
   obtain⟨σ',H',I',q⟩:=q
   exact h2 pins s1 σ' H' D I' ht1 q
 | ret v=>exact q
 | brk=>exact q
 | cont=>exact q
theorem zSD (h1:PSt X st ts):PSst X [st] ts:=by
 intro pins s σ H D I ht h
 refine Rk (thn (h1 pins s σ H D I ht h) fun f s1 q=>?_)
 cases f with
 | next=>exact Ra q
 | ret v=>exact q
 | brk=>exact q
 | cont=>exact q
def PFt (X:Cx)(e:Expr)(f:Ef):Prop:=PEt X e (tF X.K f)
def zQR (X:Cx)(e:Expr)(f:Lf):Prop:=PEt X e (tFr X.K f)
def zQj (X:Cx)(es:List Expr)(f:Lf):Prop:=PAt X es (tFA X.K f)
def zOY (X:Cx)(st:Stmt)(f:Sf):Prop:=PSt X st (tFS X.K f)
def zUm (X:Cx)(st:List Stmt)(f:Sf):Prop:=PSst X st (tFS X.K f)
theorem PEt.to {t':TE}(h:PEt X e te)(imp:∀σ H Q,t' σ H Q->te σ H Q):PEt X e t':=fun pins s σ H Q I ht q=>h pins s σ H Q I ht (imp σ H Q q)
theorem PAt.to {t':TA}(h:PAt X es t)(imp:∀σ H Q,t' σ H Q->t σ H Q):PAt X es t':=fun pos pins s σ H Q I ht q=>h pos pins s σ H Q I ht (imp σ H Q q)
theorem PSt.to {t':TS}(h:PSt X st ts)(imp:∀D σ H,t' D σ H->ts D σ H):PSt X st t':=fun pins s σ H D I ht q=>h pins s σ H D I ht (imp D σ H q)
theorem PSst.to {t':TS}(h:PSst X rest ts)(imp:∀D σ H,t' D σ H->ts D σ H):PSst X rest t':=fun pins s σ H D I ht q=>h pins s σ H D I ht (imp D σ H q)
theorem zVj:zQj X [] zS:=PA.tt zW
theorem qK (ha:PFt X e fa)(hr:zQj X es ga)(hs:starEach (e::es) X.env=(false,eval e X.env)::starEach es X.env:=by rfl):zQj X (e::es) (zY fa ga):=by
 refine PAt.to (zSl ha hr hs) ?_
 rintro σ H Q ⟨G0,H0,G,ρ,ds,good,hf,k⟩
 obtain⟨d,dr,h1,h2,rfl⟩:=kF hf
 refine⟨G0,H0,G,ρ,_,good,h1,fun u H1 G1 s1 r1=>⟨G0,H0,G1,ρ,_,good.step s1,h2,fun v H2 G2 s2 r2=>?_⟩⟩
 exact k _ _ G2 (s1.trans s2) (zG.mpr ⟨u,v,rfl,r1.mono s2.gg,r2⟩)
theorem zXC (h:zQj X es ga):zQR X (.List es pos) (yM ga):=by
 refine PEt.to (zQJ h) ?_
 rintro σ H Q ⟨G0,H0,G,ρ,d,good,hf,k⟩
 unfold yM at hf
 obtain⟨es,h1,h2⟩:=Qq.mp hf
 obtain⟨rfl,h3⟩:=lZ h2
 refine⟨G0,H0,G,ρ,_,good,h1,fun vs H1 G1 s1 r1=>⟨by rw[←r1.length];exact Ws (wU h3),fun p hp=>?_⟩⟩
 exact k p vs _ G1 (s1.trans (Step.own s1.sub hp)) (s1.hh.free hp) zN (s1.sub.free hp) r1
theorem zON (h:zQR X e ga):PFt X e (eL ga):=by
 refine PEt.to h ?_
 rintro σ H Q ⟨G0,H0,G,ρ,d,good,hf,k⟩
 unfold eL at hf
 obtain⟨ds,h1,rfl⟩:=Qt.mp hf
 refine⟨G0,H0,G,ρ,ds,good,h1,fun a vs H' G' s hn ha ga rs=>?_⟩
 exact k _ _ (upd G' a (.lst vs)) (s.frz hn ha ga) (xY.mpr ⟨a,vs,rfl,.of zN,rs.mono (Same.new ga)⟩)
theorem zTb (ha:zVd X a ga)(hb:zQR X b gb):zQR X (.BinOp a .Add b pos) (vI ga gb):=by
 refine PEt.to (zP1 zUf (PE.tt ha) hb) ?_
 rintro σ H Q ⟨G0,H0,G,ρ,d,good,hf,k⟩
 unfold vI at hf
 obtain⟨xs,h1,hf⟩:=Qq.mp hf
 obtain⟨ys,h2,hf⟩:=Qq.mp hf
 obtain⟨rfl,h3⟩:=lZ hf
 refine⟨G0,H0,G,ρ,_,good,h1,fun p vs H1 G1 s1 hq rs=>⟨G0,H0,G1,ρ,_,good.step s1,h2,fun q us H2 G2 s2 hn hq2 gq rs2=>?_⟩⟩
 refine⟨p,q,vs,us,rfl,rfl,(s1.sub.trans s2.hh).seq hq,.of hq2,?_,fun l hl=>?_⟩
 · rw[←rs.length,←rs2.length,←Qd];exact Ws (wU h3)
 · have s3:=Step.own (o:=.lst (vs++us)) s2.sub hl
   exact k l _ _ G2 ((s1.trans s2).trans s3) ((s1.trans s2).hh.free hl) zN (s2.sub.free hl) ((rs.mono s2.gg).append rs2)
theorem aK (i:Nat){x:Str}{pos':Pos}(hN:X.N.Nodup)(he:PFt X e fa)(hi:X.N[i]?=some x:=by rfl)(hx:Loc X.env.scope x:=by first | exact .inl rfl | exact .inr rfl)(hs:swapsWith e (some (.Name x pos')) pos.line X.env=pure false:=by rfl)
   (hf:X.fn x=true∨X.env.scope.names.lookup x=some .local:=by first | exact .inl rfl | exact .inr rfl):zOY X (.Assign [.Name x pos'] e pos) (yH i fa) :=
 PSt.to (zQs hN hi hx he hs hf) fun D σ H h=>bX (fun _ _ _ q=>q) h
theorem xV (B:Sf){f g:Sf}(e:B=zF f g)(h1:zOY X st f)(h2:zUm X rest g):zUm X (st::rest) B:=by
 subst e
 refine PSst.to (zTC h1 h2) ?_
 rintro D σ H ⟨G0,H0,G,ρ,o,good,hf,k⟩
 unfold zF at hf
 obtain⟨o1,h1,hf⟩:=Qq.mp hf
 refine⟨G0,H0,G,ρ,o1,good,h1,?_⟩
 cases o1 with
 | nx ρ'=>exact fun σ' H' G' sg g'=>⟨G0,H0,G',ρ',o,g',hf,k.mono sg⟩
 | _=>cases hf;exact k
theorem zY5 (h:zOY X st f):zUm X [st] f:=zSD h
end
end L2
namespace L2
open PySem PySem.Spec PyProof.Rows
open PySem.Builtin PySem.Builtin.Str
def PE1 (X:Cx)(e:Expr)(t:TE):Prop :=
 ∀(pins:List (Addr×Obj)) (s:Shared) (σ:St) (H:Hp) (Q:VK),Inv X pins σ H s->t σ H Q->wpAny (model X.prog X.w) X.A (eval e X.env) (fun v s'=>EP X pins σ Q v s'/\1<=s'.toks) X.xe s
def PS1 (X:Cx)(st:Stmt)(t:TS):Prop :=
 ∀(pins:List (Addr×Obj)) (s:Shared) (σ:St) (H:Hp) (D:Ends),Inv X pins σ H s->t D σ H->wpAny (model X.prog X.w) X.A (exec st X.env) (fun f s'=>SP X pins D f s'/\1<=s'.toks) X.xe s
section
variable {X:Cx} {a e o:Expr} {te tq:TE} {t:TA} {u:TS} {pos apos cpos:Pos} {st:Stmt} {rest:List Stmt} {fa:Ef} {f g:Sf} {name:Str} {T id:String} {r:V->List V->Hp->VK->Prop}
theorem zS3 {α:Type}{t:Sem α}{Q:α->Shared->Prop}{M:Model}{A:Around}{E:Value->Shared->Prop}{s:Shared}(h:wpAny M A t Q E s)(hs:1<=s.toks):wpAny M A t (fun a s'=>Q a s'/\1<=s'.toks) E s:=zW5 h hs fun _ _ q z=>⟨q,z⟩
theorem zPk {x:Str}{j:Nat}{p1:Pos}(pa:PlainAttrs T)(slot:Slot T name id)(hty:typeOf (.builtin id)=pure (.type "method_descriptor"))(hm:MtR X id r)(ho:PE X o tq)
   (hbase:attributeBase o name X.env (eval o X.env)=eval o X.env:=by rfl)
   (hfew:((backTo cpos (starEach [.Constant (.str x) j p1] X.env)).all (fun x => !x.1)&&(backToKw cpos (keywordEach [] X.env)).all (fun x=>x.1.isSome)
     && decide (([.Constant (.str x) j p1]:List Expr).length+([]:List Keyword).length+(if ([]:List Keyword).isEmpty then 0 else 1) < 30))=true:=by rfl)
   (hline:(apos.endLine==cpos.line)=true:=by rfl) :
   PE1 X (.Call (.Attribute o name apos) [.Constant (.str x) j p1] [] cpos) (tBM X.K T r tq (jH (tC (.str x)) zWt)):=by
 intro pins s σ H Q I h
 refine Ur hbase hfew hline rfl (thn (ho pins s σ H _ I h) fun v s1 ⟨y,H1,I1,r1,ty,q1⟩=>?_)
 obtain⟨h1,h2⟩:=zX1 I1 r1 ty
 refine⟨T,id,pa,slot,hty,h1,h2,?_⟩
 refine Tv rfl (Uf ?_)
 refine Ev (Yk (pos:=p1) (k:=j) (Yq ?_))
 have I2:=I1.tok (s1.toks+1)
 exact zS3 (hm pins _ σ H1 y [.str x] v [.str x s1.toks] Q I2 r1 (.cons ⟨_,rfl⟩ .nil) q1) (Nat.le_add_left _ _)
theorem zRb {i:Nat}{x:Str}{pos':Pos}(hN:X.N.Nodup)(hi:X.N[i]?=some x)(hx:Loc X.env.scope x)(he:PE1 X e te)(hs:swapsWith e (some (.Name x pos')) pos.line X.env=pure false:=by rfl)(hf:X.fn x=true∨X.env.scope.names.lookup x=some .local:=by first | exact .inl rfl | exact .inr rfl | assumption) :
   PS1 X (.Assign [.Name x pos'] e pos) (zWP te (aP i)):=by
 intro pins s σ H D I h
 refine Um (thn (he pins s σ H _ I h) fun v s1 ⟨⟨y,H1,I1,r1,q1⟩,ht⟩=>?_) hs
 exact zS3 (lL I1 hN hi hx r1 (fun s2 I2=>⟨_,H1,I2,q1⟩) hf) ht
theorem PE1.to {t':TE}(h:PE1 X e te)(imp:∀σ H Q,t' σ H Q->te σ H Q):PE1 X e t':=fun pins s σ H Q I q=>h pins s σ H Q I (imp σ H Q q)
theorem zYA (i:Nat){x y:Str}{j:Nat}{pos' p1:Pos}(hN:X.N.Nodup)(ho:PF X o fa)(hi:X.N[i]?=some x:=by rfl)(hx:Loc X.env.scope x:=by first | exact .inl rfl | exact .inr rfl)(hs:swapsWith (.Call (.Attribute o "split" apos) [.Constant (.str y) j p1] [] cpos) (some (.Name x pos')) pos.line X.env=pure false:=by rfl)
   (hf:X.fn x=true∨X.env.scope.names.lookup x=some .local:=by first | exact .inl rfl | exact .inr rfl)
   (hbase:attributeBase o "split" X.env (eval o X.env)=eval o X.env:=by rfl)
   (hfew:((backTo cpos (starEach [.Constant (.str y) j p1] X.env)).all (fun x => !x.1)&&(backToKw cpos (keywordEach [] X.env)).all (fun x=>x.1.isSome)
     && decide (([.Constant (.str y) j p1]:List Expr).length+([]:List Keyword).length+(if ([]:List Keyword).isEmpty then 0 else 1) < 30))=true:=by rfl)
   (hline:(apos.endLine==cpos.line)=true:=by rfl) :
   PS1 X (.Assign [.Name x pos'] (.Call (.Attribute o "split" apos) [.Constant (.str y) j p1] [] cpos) pos) (tFS X.K (yH i (eL (vV fa (eC (.str y)))))):=by
 have h1:PE1 X (.Call (.Attribute o "split" apos) [.Constant (.str y) j p1] [] cpos) (tF X.K (eL (vV fa (eC (.str y))))):=by
   refine PE1.to (zPk Qn Rr Rt nG ho hbase hfew hline) ?_
   rintro σ H Q ⟨G0,H0,G,ρ,d,good,hf,k⟩
   unfold eL at hf
   obtain⟨ds,hf2,rfl⟩:=Qt.mp hf
   unfold vV at hf2
   obtain⟨x,h1,hf⟩:=Qq.mp hf2
   obtain⟨y',h2,hf⟩:=Qq.mp hf
   have e2:D.str y=y':=Wo h2
   subst e2
   cases x with
   | str z =>
     unfold bI at hf
     dsimp only at hf
     split at hf
     · rename_i hz
       cases hf
       refine⟨G0,H0,G,ρ,_,good,h1,fun u H1 G1 s1 r1=>?_⟩
       have r1:=yU.mp r1
       subst r1
       refine⟨rfl,?_⟩
       show zVs _ _ _ _
       refine⟨_,_,rfl,rfl,hz.1,hz.2,fun p hp=>?_⟩
       have s2:=Step.laid (o:=.lst ((PySem.Txt.split z y).map V.str)) s1.sub hp
       exact k _ _ _ (s1.trans s2) (xY.mpr ⟨p,_,rfl,.of zN,fJ _⟩)
     · cases hf
   | _=>cases hf
 exact fun pins s σ H D I h=>zRb hN hi hx h1 hs hf pins s σ H D I (bX (fun _ _ _ q=>q) h)
theorem zZC (B:Sf){f g:Sf}(e:B=zF f g)(h1:PS1 X st (tFS X.K f))(h2:zUm X rest g):PFSs X (st::rest) B:=by
 subst e
 rintro pins s σ H D I ⟨G0,H0,G,ρ,o,good,hf,k⟩
 unfold zF at hf
 obtain⟨o1,h1',hf⟩:=Qq.mp hf
 refine Rk (thn (h1 pins s σ H { D with nx:=tFS X.K g D } I ⟨G0,H0,G,ρ,o1,good,h1',?_⟩) fun f s1 q=>?_)
 · cases o1 with
   | nx ρ'=>exact fun σ' H' G' sg g'=>⟨G0,H0,G',ρ',o,g',hf,k.mono sg⟩
   | _=>cases hf;exact k
 · obtain⟨q,ht⟩:=q
   cases f with
   | next =>
     obtain⟨σ',H',I',q⟩:=q
     exact h2 pins s1 σ' H' D I' ht q
   | ret v=>exact q
   | brk=>exact q
   | cont=>exact q
end
def iH (x y z:Str):Str:=glued z (partsBetween x (occurrences x y 0 x.length 1) y.length)
def zZR (x y z:Str):Bool := !(occurrences x y 0 x.length 1).isEmpty&&decide (x.length+(occurrences x y 0 x.length 1).length*z.length<=100000)&&decide ((iH x y z).length<=100000)
theorem zTv (x y z:Str)(t u v k:Tok)(hy:(y.length==0)=false)(hyz:(y==z)=false)(hu:(u==0||v==0)=false)(huv:(u==v)=false)(hok:zZR x y z=true):Meets (Builtin.«str.replace» ⟨[.str x t,.str y u,.str z v,.int 1 k],[]⟩)
   (fun A R s=>R (.ok (.ret (.str (iH x y z) s.toks))) { s with toks:=s.toks+1 }):=by
 unfold zZR at hok
 simp only[Qg,Wh,Iu] at hok
 obtain⟨⟨h1,h2⟩,h3⟩:=hok
 have hlen:tooLong (x.length+(occurrences x y 0 x.length 1).length*z.length)=false:=by
   unfold tooLong
   rw[Ro]
   exact Qz (by omega)
 intro P w A R s hyp
 unfold Builtin.«str.replace»
 wp_walk
 show wpAny (model P w) A.in1 (if (iH x y z).length > sizeLine then Sem.unsupported "str:memory" else do
     let __do_lift ←fresh
     pure (Value.str (iH x y z) __do_lift)) _ _ s
 rw[Wj (by rw[Ro];omega)]
 wp_walk
 exact hyp
def dQ (y z:Str)(fa:Ef):Ef:=fun ρ=>(fa ρ).bind fun d=>match d with | .str x=>if zZR x y z then some (.str (iH x y z)) else none | _=>none
section
variable {X:Cx} {o:Expr} {fa:Ef} {apos cpos:Pos}
theorem zV4 {y z:Str}{j1 j2 j3:Nat}{p1 p2 p3:Pos}(hy:(y.length==0)=false)(hyz:(y==z)=false)(ho:PF X o fa)
   (hbase:attributeBase o "replace" X.env (eval o X.env)=eval o X.env:=by rfl)
   (hfew:((backTo cpos (starEach [.Constant (.str y) j1 p1,.Constant (.str z) j2 p2,.Constant (.int 1) j3 p3] X.env)).all (fun x => !x.1)&&(backToKw cpos (keywordEach [] X.env)).all (fun x=>x.1.isSome)
     && decide (([.Constant (.str y) j1 p1,.Constant (.str z) j2 p2,.Constant (.int 1) j3 p3]:List Expr).length+([]:List Keyword).length+(if ([]:List Keyword).isEmpty then 0 else 1) < 30))=true:=by rfl)
   (hline:(apos.endLine==cpos.line)=true:=by rfl) :
   PFt X (.Call (.Attribute o "replace" apos) [.Constant (.str y) j1 p1,.Constant (.str z) j2 p2,.Constant (.int 1) j3 p3] [] cpos) (dQ y z fa):=by
 rintro pins s σ H Q I ht ⟨G0,H0,G,ρ,d,good,hf,k⟩
 unfold dQ at hf
 obtain⟨d1,h1,hf⟩:=Qq.mp hf
 split at hf
 · rename_i x
   split at hf
   · rename_i hok
     cases hf
     refine Ur hbase hfew hline rfl (zW5 (ho pins s σ H (fun v H1=>v = .str x/\∃G1,Step G H G1 H1) I ⟨G0,H0,G,ρ,_,good,h1,fun v H1 G1 s1 r1=>⟨yU.mp r1,G1,s1⟩⟩) ht fun v s1 ⟨y1,H1,I1,r1,e1,G1,st1⟩ ht1=>?_)
     subst e1
     obtain⟨h1,h2⟩:=zX1 (T:="str") I1 r1 rfl
     refine⟨"str","str.replace",Qn,PySem.F.slot_str_replace,PySem.F.type_str_replace,h1,h2,?_⟩
     obtain⟨t,rfl⟩:=r1
     refine Tv rfl (Uf ?_)
     refine Ev (Yk (pos:=p1) (k:=j1) (Ev (Yk (pos:=p2) (k:=j2) (Ev (wpAny_Constant_int (pos:=p3) (k:=j3) (Yq ?_))))))
     have I2:=I1.tok (s1.toks+1+1+1)
     refine Yr PySem.F.slot_str_replace (Ye _ _ _) PySem.F.entry_str_replace (PySem.F.args_str_replace_4 _ _ _ _) (zTv x y z t s1.toks (s1.toks+1) (s1.toks+1+1) hy hyz ?_ ?_ hok) ?_
     · rw[Bool.or_eq_false_iff]
       exact⟨Wl.mpr (show ¬ @Eq Nat s1.toks 0 by omega),Wl.mpr (show ¬ @Eq Nat (s1.toks+1) 0 by omega)⟩
     · exact Wl.mpr (show ¬ @Eq Nat s1.toks (s1.toks+1) by omega)
     · exact⟨.str (iH x y z),H1,I2.tok _,⟨_,rfl⟩,k _ _ G1 st1 (yU.mpr rfl)⟩
   · cases hf
 · cases hf
end
def upS (x:Str):Str:=⟨placed x fun _ c=>Unicode.upperOf c⟩
def zX7 (fa:Ef):Ef:=fun ρ=>(fa ρ).bind fun d=>match d with | .str x=>if (upS x).length<=100000 then some (.str (upS x)) else none | _=>none
section
variable {X:Cx} {fa:Ef}
def zSW:V->List V->Hp->VK->Prop:=fun x vs H Q=>∃z,x = .str z/\vs=[]/\(upS z).length<=100000/\Q (.str (upS z)) H
theorem zSK:MtR X "str.upper" zSW:=by
 intro pins s σ H x xs v us Q I rx rv h
 obtain⟨z,rfl,rfl,hz,q⟩:=h
 obtain⟨t,rfl⟩:=rx
 cases rv
 have hl:tooLong (placed z fun _ c=>Unicode.upperOf c).size=false:=by
   unfold tooLong
   rw[Ro]
   have:(placed z fun _ c=>Unicode.upperOf c).size=(upS z).length:=rfl
   exact Qz (by omega)
 refine Yr PySem.F.slot_str_upper (Ye _ _ _) PySem.F.entry_str_upper (PySem.F.args_str_upper_1 _) (S:=fun A R s=>(Made.str (upS z)).post (fun v s'=>R (.ok (.ret v)) s') s) (gives_str_upper z t hl) ?_
 exact⟨by rw[Ro];omega,.str (upS z),H,I.tok _,⟨_,rfl⟩,q⟩
theorem zRL {c:Expr}(ht:PE X c (zNa X.K "str" zSW (tF X.K fa))):PF X c (zX7 fa):=by
 refine PE.to ht ?_
 rintro σ H Q ⟨G0,H0,G,ρ,d,good,hf,k⟩
 unfold zX7 at hf
 obtain⟨d1,h1,hf⟩:=Qq.mp hf
 split at hf
 · split at hf
   · rename_i hz
     cases hf
     refine⟨G0,H0,G,ρ,_,good,h1,fun u H1 G1 s1 r1=>?_⟩
     have r1:=yU.mp r1
     subst r1
     exact⟨rfl,_,rfl,rfl,hz,k _ _ G1 s1 (yU.mpr rfl)⟩
   · cases hf
 · cases hf
end
end L2
namespace L2
open PySem PySem.Spec PyProof.Rows
open PySem.Builtin PySem.Builtin.Str
end L2
namespace L2
open PySem PySem.Spec PyProof.Rows
def gC:Value->Option D
 | .none=>some .non
 | .bool b=>some (.bl b)
 | .int i _=>some (.int i)
 | .str x _=>some (.str x)
 | _=>none
theorem zSc {u:Value}{d:D}(h:gC u=some d):∃v,RelV v u/\∀K G,Rep K G d v:=by
 cases u<;>first | cases h | skip
 · exact⟨.non,rfl,fun _ _=>sP.mpr rfl⟩
 · exact⟨.bl _,rfl,fun _ _=>xF.mpr rfl⟩
 · exact⟨.int _,⟨_,rfl⟩,fun _ _=>zD.mpr rfl⟩
 · exact⟨.str _,⟨_,rfl⟩,fun _ _=>yU.mpr rfl⟩
def zVn (P:Params)(l:List (Str×Tok×Value)):List DictEntry:=l.map fun p=>⟨PyData.keyHash P p.1,.str p.1 p.2.1,p.2.2⟩
def kvC (l:List (Str×Tok×Value)):List (Str×D):=l.map fun p=>(p.1,(gC p.2.2).getD .non)
structure DictC (w:World)(K:PySem.W.Frag)(a:Addr)(kvs:List (Str×D)):Prop where
 sys:(a==sysModules)=false
 at':∃(l:List (Str×Tok×Value)) (n:Nat),K.lookup a=some ⟨.type "dict",none,.dict (zVn w.params l).toArray n,#[]⟩/\kvs=kvC l/\(l.all fun p=>(gC p.2.2).isSome)=true
theorem zUx {P:Params}:∀l:List (Str×Tok×Value),PySem.W.KeysLit P (zVn P l)
 | []=>trivial
 | (x,t,v)::r=>⟨⟨x,t,rfl,rfl⟩,zUx r⟩
theorem zRm {P:Params}(x:Str):∀l:List (Str×Tok×Value),(l.all fun p=>(gC p.2.2).isSome)=true ->
   match (kvC l).lookup x with
   | some d=>∃u,findBy Value.isStrOf (zVn P l).toArray x=some u/\gC u=some d
   | none=>findBy Value.isStrOf (zVn P l).toArray x=none
 | [],_=>rfl
 | (y,t,v)::r,h=>by
   have h':=Ug.mp (by simpa using h:((gC v).isSome&&(r.all fun p=>(gC p.2.2).isSome))=true)
   have ih:=zRm (P:=P) x r h'.2
   show match ((y,(gC v).getD .non)::kvC r).lookup x with | some d=>_ | none=>_
   unfold findBy at ih ⊢
   rw[List.find?_toArray] at ih ⊢
   show match ((y,(gC v).getD .non)::kvC r).lookup x with
     | some d=>∃u,(((⟨PyData.keyHash P y,.str y t,v⟩:DictEntry)::zVn P r).find? fun e=>Value.isStrOf x e.key).map (·.val)=some u/\gC u=some d
     | none=>(((⟨PyData.keyHash P y,.str y t,v⟩:DictEntry)::zVn P r).find? fun e=>Value.isStrOf x e.key).map (·.val)=none
   by_cases e:y=x
   · subst e
     have q:Value.isStrOf y (.str y t)=true:=Td y
     rw[Wc,Td,Yj]
     rw[show(Value.isStrOf y (⟨PyData.keyHash P y,.str y t,v⟩:DictEntry).key)=true from q]
     obtain⟨d,hd⟩:=Rs.mp h'.1
     exact⟨v,rfl,by rw[hd];rfl⟩
   · have q:Value.isStrOf x (.str y t)=false:=Wl.mpr e
     have q2:(x==y)=false:=Wl.mpr (Ne.symm e)
     rw[Wc,q2,Yj,show(Value.isStrOf x (⟨PyData.keyHash P y,.str y t,v⟩:DictEntry).key)=false from q]
     exact ih
section
variable {X:Cx} {a b:Expr} {fa fb:Ef} {pos p:Pos} {x:Str} {da:Addr} {kvs:List (Str×D)}
variable {pins:List (Addr×Obj)} {σ:St} {H:Hp} {s:Shared}
theorem DictC.map (h:DictC X.w X.K da kvs)(I:Inv X pins σ H s):∃f:Str->Option Value,s.heap.MapOf (strKind X.prog X.w) da f/\∀y,match kvs.lookup y with | some d=>∃u,f y=some u/\gC u=some d | none=>f y=none:=by
 obtain⟨l,n,h1,h2,h3⟩:=h.at'
 subst h2
 exact⟨_,PySem.W.mapOf_K I.kIn h1 (by simpa using zUx l),fun y=>zRm y l h3⟩
def zNw (X:Cx)(kvs:List (Str×D))(da:Addr)(c:Bool):R2:=fun v y H Q=>∃z,v = .str z/\y = .ref da/\Q (.bl (c==(kvs.lookup z).isSome)) H
theorem zTX (h:DictC X.w X.K da kvs):OpR X (compareOp .NotIn) (zNw X kvs da false):=by
 intro pins s σ H x y v u Q I rx ry ⟨z,e1,e2,q⟩
 subst e1 e2
 obtain⟨t,rfl⟩:=rx
 cases ry
 obtain⟨f,hm,hf⟩:=h.map I
 refine wpAny_notIn_of (strKind_is X.prog X.w z t) h.sys hm ?_
 have e:(!(f z).isSome)=(false==(kvs.lookup z).isSome):=by
   have:=hf z
   cases hk:kvs.lookup z with
   | none=>rw[hk] at this;rw[this];rfl
   | some d=>rw[hk] at this;obtain⟨u,hu,_⟩:=this;rw[hu];rfl
 rw[e]
 exact⟨.bl _,H,I.tok _,rfl,q⟩
def zVU (c:Bool)(kvs:List (Str×D))(fa:Ef):Tf:=fun ρ=>(fa ρ).bind fun d=>match d with | .str z=>some (c==(kvs.lookup z).isSome) | _=>none
theorem zPn {c:Bool}{σ:St}{H:Hp}{Q:Bool->Hp->Prop}(q:tFT X.K (zVU c kvs fa) σ H Q):zPH (tOp (zNw X kvs da c) (tF X.K fa) (tC (.ref da))) σ H Q:=by
 obtain⟨G0,H0,G,ρ,c',good,hf,kk⟩:=q
 unfold zVU at hf
 obtain⟨d,h1,hf⟩:=Qq.mp hf
 split at hf
 · rename_i z
   cases hf
   refine⟨G0,H0,G,ρ,_,good,h1,fun u H1 G1 s1 r1=>?_⟩
   exact⟨z,yU.mp r1,rfl,_,rfl,kk _ G1 s1⟩
 · cases hf
theorem kE (h:DictC X.w X.K da kvs)(hg:Gl X x)(hx:X.mg x=some (.ref da))(ha:PF X a fa)(hd:(x==("__debug__":Str))=false:=by decide)
   (hm:behindInMarks .NotIn (.Name x p)=false:=by first | exact zZ3 _ | (with_unfolding_all rfl)):PFT X (.Compare a [.NotIn] [.Name x p] pos) (zVU false kvs fa) :=
 PT.to (cS (zTX h) ha (mK (v:=.ref da) hg hx rfl hd) hm) fun _ _ _=>zPn
def zME (X:Cx)(kvs:List (Str×D))(da:Addr):R2:=fun v y H Q=>∃z d,v = .ref da/\y = .str z/\kvs.lookup z=some d/\∀o,(∀G,Rep X.K G d o)->Q o H
theorem zMG (h:DictC X.w X.K da kvs):IxR X (zME X kvs da):=by
 intro value slice pins s σ H x y v u Q I rx ry ⟨z,d,e1,e2,e3,q⟩ hs
 subst e1 e2
 cases rx
 obtain⟨t,rfl⟩:=ry
 obtain⟨f,hm,hf⟩:=h.map I
 have:=hf z
 rw[e3] at this
 obtain⟨u,hu,hd⟩:=this
 obtain⟨o,ro,rep⟩:=zSc hd
 exact tail_any hm.typeIs slot_dict_getitem.lookup (wpAny_getItem_of (strKind_is X.prog X.w z t) hm hu ⟨o,H,I.tok _,ro,q o fun G=>rep _ G⟩) hs
def zQO (kvs:List (Str×D))(fb:Ef):Ef:=fun ρ=>(fb ρ).bind fun d=>match d with | .str z=>kvs.lookup z | _=>none
theorem zR7 (h:DictC X.w X.K da kvs)(hg:Gl X x)(hx:X.mg x=some (.ref da))(hb:PF X b fb)(hd:(x==("__debug__":Str))=false:=by decide)(hs:zXz b:=by exact fun _ _=>rfl):PF X (.Subscript (.Name x p) b pos) (zQO kvs fb):=by
 refine PE.to (zPF (zMG h) (mK (v:=.ref da) hg hx rfl hd) hb hs) ?_
 rintro σ H Q ⟨G0,H0,G,ρ,d,good,hf,k⟩
 unfold zQO at hf
 obtain⟨y,h1,hf⟩:=Qq.mp hf
 split at hf
 · rename_i z
   refine⟨G0,H0,G,ρ,_,good,h1,fun u H1 G1 s1 r1=>⟨z,d,rfl,yU.mp r1,hf,fun o ho=>k _ _ G1 s1 (ho _)⟩⟩
 · cases hf
theorem zWx {w:World}{K:PySem.W.Frag}{n:Nat}(l:List (Str×Tok×Value))(h:K.lookup da=some ⟨.type "dict",none,.dict (zVn w.params l).toArray n,#[]⟩)(hs:(da==sysModules)=false)(hl:(l.all fun p=>(gC p.2.2).isSome)=true:=by rfl):DictC w K da (kvC l) :=
 ⟨hs,l,n,h,rfl,hl⟩
end
def zM5 (l:List (Int×Tok×Value)):List DictEntry:=l.map fun p=>⟨hashInt p.1,.int p.1 p.2.1,p.2.2⟩
def kvN (l:List (Int×Tok×Value)):List (Int×D):=l.map fun p=>(p.1,(gC p.2.2).getD .non)
structure DictN (K:PySem.W.Frag)(a:Addr)(kvs:List (Int×D)):Prop where
 at':∃(l:List (Int×Tok×Value)) (n:Nat),K.lookup a=some ⟨.type "dict",none,.dict (zM5 l).toArray n,#[]⟩/\kvs=kvN l/\(l.all fun p=>(gC p.2.2).isSome)=true
theorem iW (o:Option D):(o.map Out.rt).bind qY=o:=by cases o<;>rfl
theorem yI {f g:Sf}{ρ ρ':List B}(h:f ρ=some (.nx ρ')):zF f g ρ=g ρ':=by unfold zF;rw[h];rfl
theorem zUH {f g:Sf}{ρ ρ':List B}{r:Option D}(h:f ρ=some (.nx ρ'))(k:(g ρ').bind qY=r):(zF f g ρ).bind qY=r:=by rw[yI h];exact k
theorem zPX {f g:Sf}{ρ:List B}{d:D}(h:f ρ=some (.rt d)):zF f g ρ=some (.rt d):=by unfold zF;rw[h];rfl
theorem cW {g:Gf}{body:Sf}{d:D}{r:List D}{ρ ρ1 ρ2:List B}(h1:g d ρ=some ρ1)(h2:body ρ1=some (.nx ρ2)):jW g body (d::r) ρ=jW g body r ρ2:=by
 rw[jW,h1,Qw,h2,Qw]
theorem zH {f:Ef}{g:Lf}{ρ:List B}{d:D}{ds:List D}(h1:f ρ=some d)(h2:g ρ=some ds):zY f g ρ=some (d::ds):=by unfold zY;rw[h1,h2];rfl
theorem vE {g:Lf}{ρ:List B}{ds:List D}(h:g ρ=some ds):eL g ρ=some (.lst ds):=by unfold eL;rw[h];rfl
theorem bK {n:Nat}{f:List D->Option D}{g:Lf}{ρ:List B}{ds:List D}(h:g ρ=some ds)(hl:ds.length=n):zI n f g ρ=f ds:=by unfold zI;rw[h,Qw,Wr hl]
theorem zRw {c:Str}{ns:List Str}{n:Nat}{f:List D->Option (List D)}{g:Lf}{ρ:List B}{ds xs:List D}(h:g ρ=some ds)(hl:ds.length=n)(hf:f ds=some xs)(hn:ns.length=xs.length):zZV c ns n f g ρ=some (.obj c ns xs):=by
 unfold zZV;rw[h,Qw,Wr hl,hf,Qw,Wr hn]
theorem zXe {g:Gf}{body:Sf}{P:List B->Prop}:∀(ds:List D),(∀d∈ds,∀ρ,P ρ->∃ρ1 ρ2,g d ρ=some ρ1/\body ρ1=some (.nx ρ2)/\P ρ2)->∀ρ,P ρ->∃ρ',jW g body ds ρ=some (.nx ρ')/\P ρ'
 | [],_,ρ,h=>⟨ρ,rfl,h⟩
 | d::r,hs,ρ,h=>by
   obtain⟨ρ1,ρ2,e1,e2,h2⟩:=hs d Qc ρ h
   obtain⟨ρ',e,h'⟩:=zXe r (fun d hd=>hs d (Qi _ hd)) ρ2 h2
   exact⟨ρ',by rw[cW e1 e2];exact e,h'⟩
theorem zWI {elt:Ef}{h:D->D}{rest:List B}:∀(ds:List D) (x0:B) (acc:List D),(∀d∈ds,elt (.fz d::rest)=some (h d))->gK (gN 0) tOK elt ds (x0::rest) acc=some (acc++ds.map h)
 | [],_,acc,_=>by simp[gK]
 | d::r,x0,acc,hh=>by
   unfold gK
   have e1:gN 0 d (x0::rest)=some (.fz d::rest):=rfl
   have e2:tOK (.fz d::rest)=some true:=rfl
   rw[e1,Qw,e2,Qw,Wr rfl,hh d Qc,Qw,zWI r _ _ fun q hq=>hh q (Qi _ hq)]
   simp
theorem zVr {t:List D}(h:t.length<=100000):okL t=some t:=by
 unfold okL
 rw[Wr h]
theorem zRQ {i j:Int}(h1 : -18446744073709551616 < i)(h2:i < 18446744073709551616):zXX i j=true:=by
 unfold zXX;simp only[Rv,Qg,Wh];exact .inl ⟨by omega,by omega⟩
theorem zO9 {i j:Int}(h1 : -18446744073709551616 < j)(h2:j < 18446744073709551616):zXX i j=true:=by
 unfold zXX;simp only[Rv,Qg,Wh];exact .inr ⟨by omega,by omega⟩
theorem yX (x y:Str):(x++y).length=x.length+y.length:=Str.length_append x y
theorem zWd {x y:Str}(h:x.length+y.length<=100000):zOL (.str x) (.str y)=some (.str (x++y)):=by
 show(if x.length+y.length<=lim then _ else none)=_
 rw[Wr h]
end L2
noncomputable section
namespace My
open PySem L2
abbrev fU:Stmt:=top 44
abbrev uN:Stmt:=top 51
abbrev mG:Stmt:=top 48
abbrev kP:Stmt:=top 52
abbrev pI:Stmt:=top 53
abbrev pG:Stmt:=top 54
abbrev vH:Stmt:=top 55
abbrev mX:Stmt:=top 56
abbrev mO:Stmt:=top 57
abbrev qP:Stmt:=top 26
abbrev fE:Stmt:=top 25
abbrev kW:Stmt:=top 40
abbrev iJ:Stmt:=top 39
abbrev oS:Stmt:=top 8
abbrev nO:Stmt:=top 7
abbrev lG:Stmt:=top 41
abbrev zWa:Stmt:=top 28
abbrev lY:Stmt:=top 38
abbrev iF:Stmt:=top 33
abbrev cD:Stmt:=top 42
abbrev iO:Stmt:=top 37
abbrev mB:Stmt:=top 58
abbrev iX:Stmt:=top 49
abbrev oX:Stmt:=top 46
abbrev mE:Stmt:=top 47
abbrev qN:Stmt:=top 45
abbrev qH:Stmt:=top 50
abbrev oH:Stmt:=top 59
abbrev zSu:Stmt:=top 60
abbrev kB:Stmt:=wF (top 10) 0
abbrev nE:Stmt:=wF (top 11) 0
abbrev uX:Stmt:=wF (top 18) 0
abbrev mZ:Stmt:=wF (top 21) 0
set_option genInjectivity false
set_option genSizeOf false
set_option genSizeOfSpec false
structure Txt (w:World)(K:PySem.W.Frag)(mg:Str->Option Value) where
 q0:FnT K mg "_law_mix" fU ["_law_cell","_law_factor"]
 q1:FnT K mg "_law_corners" uN ["_law_dims"]
 q2:FnT K mg "_law_turn" mG ["_law_number","_law_dims"]
 q3:FnT K mg "_law_loose" kP ["_law_dims","_law_cell"]
 q4:FnT K mg "_law_rows" pI ["_law_dims","_law_joined_here","_law_parts"]
 q5:FnT K mg "_law_bad_head" pG ["_law_row","_law_draw"]
 q6:FnT K mg "_law_bad_part" vH ["_law_row","_law_draw"]
 q7:FnT K mg "_law_faulty" mX ["_law_rows_here","_law_draw"]
 q8:FnT K mg "_law_second" mO ["_law_rows_here","_law_first","_law_draw"]
 q9:FnT K mg "is_made_of" qP ["text","signs","longest"]
 q10:FnT K mg "is_word" fE ["text"]
 q11:FnT K mg "read_head" kW ["words"]
 q12:FnT K mg "words_at" iJ ["rows","row"]
 q13:FnT K mg "corner_of" oS ["text","dims"]
 q14:FnT K mg "turn_of" nO ["text","dims"]
 q15:FnT K mg "read_part" lG ["words","dims","row"]
 q16:FnT K mg "full" zWa ["dims","level"]
 q17:FnT K mg "curve_from" lY ["rows"]
 q18:FnT K mg "meeting_of" iF ["curve"]
 q19:FnT K mg "fitted" cD ["curve"]
 q20:FnT K mg "curve_of" iO ["text"]
 q21:FnT K mg "_law_caught" mB ["_law_rows_here","_law_whole"]
 q22:FnT K mg "_law_base" iX ["_law_dims"]
 q23:FnT K mg "_law_after" oX ["_law_one","_law_other"]
 q24:FnT K mg "_law_undone" mE ["_law_turn_here"]
 q25:FnT K mg "_law_turned" qN ["_law_turn_here","_law_corner"]
 q26:FnT K mg "_law_joined" qH ["_law_dims","_law_number"]
 q27:FnT K mg "_law_refused" oH ["_law_caught_here","_law_row","_law_kind"]
 q28:FnT K mg "law" zSu ["_law_script"]
 C_Part:Addr
 fi_Part:Addr
 fdi_Part:FuncData
 ca_Part:ClsAt K "Part" C_Part
 cl_Part:Cls K C_Part
 mc_Part:mg "Part"=some (.ref C_Part)
 Fi_Part:Fun K "__init__" "Part.__init__" kB fi_Part fdi_Part
 bi_Part:Binds K fdi_Part ["self","corner","turn","back"] []
 mk_Part:Mk K C_Part fi_Part
 n_Part_back:NoAttr K C_Part "back"
 n_Part_corner:NoAttr K C_Part "corner"
 n_Part_turn:NoAttr K C_Part "turn"
 C_Curve:Addr
 fi_Curve:Addr
 fdi_Curve:FuncData
 ca_Curve:ClsAt K "Curve" C_Curve
 cl_Curve:Cls K C_Curve
 mc_Curve:mg "Curve"=some (.ref C_Curve)
 Fi_Curve:Fun K "__init__" "Curve.__init__" nE fi_Curve fdi_Curve
 bi_Curve:Binds K fdi_Curve ["self","name","dims","joined","parts"] []
 mk_Curve:Mk K C_Curve fi_Curve
 n_Curve_dims:NoAttr K C_Curve "dims"
 n_Curve_joined:NoAttr K C_Curve "joined"
 n_Curve_name:NoAttr K C_Curve "name"
 n_Curve_parts:NoAttr K C_Curve "parts"
 fi_TextError:Addr
 fdi_TextError:FuncData
 Fi_TextError:Fun K "__init__" "TextError.__init__" uX fi_TextError fdi_TextError
 bi_TextError:Binds K fdi_TextError ["self","row"] []
 fi_Unmet:Addr
 fdi_Unmet:FuncData
 Fi_Unmet:Fun K "__init__" "Unmet.__init__" mZ fi_Unmet fdi_Unmet
 bi_Unmet:Binds K fdi_Unmet ["self","first","second","level"] []
 C_BadRow:Addr
 ca_BadRow:ClsAt K "BadRow" C_BadRow
 mc_BadRow:mg "BadRow"=some (.ref C_BadRow)
 xk_BadRow:XKit K C_BadRow
 xs_BadRow:XSt K C_BadRow
 xm_BadRow:XMk K C_BadRow fi_TextError
 n_BadRow_row:NoAttr K C_BadRow "row"
 C_CornerTwice:Addr
 ca_CornerTwice:ClsAt K "CornerTwice" C_CornerTwice
 mc_CornerTwice:mg "CornerTwice"=some (.ref C_CornerTwice)
 xk_CornerTwice:XKit K C_CornerTwice
 xs_CornerTwice:XSt K C_CornerTwice
 xm_CornerTwice:XMk K C_CornerTwice fi_TextError
 n_CornerTwice_row:NoAttr K C_CornerTwice "row"
 C_Unmet:Addr
 ca_Unmet:ClsAt K "Unmet" C_Unmet
 mc_Unmet:mg "Unmet"=some (.ref C_Unmet)
 xk_Unmet:XKit K C_Unmet
 xs_Unmet:XSt K C_Unmet
 xm_Unmet:XMk K C_Unmet fi_Unmet
 n_Unmet_first:NoAttr K C_Unmet "first"
 n_Unmet_second:NoAttr K C_Unmet "second"
 n_Unmet_level:NoAttr K C_Unmet "level"
 C_TextError:Addr
 ca_TextError:ClsAt K "TextError" C_TextError
 mc_TextError:mg "TextError"=some (.ref C_TextError)
 C_YardError:Addr
 ca_YardError:ClsAt K "YardError" C_YardError
 mc_YardError:mg "YardError"=some (.ref C_YardError)
 C_OffFloor:Addr
 ca_OffFloor:ClsAt K "OffFloor" C_OffFloor
 mc_OffFloor:mg "OffFloor"=some (.ref C_OffFloor)
 ix_TextError:kZ K (.ref C_TextError) [(C_BadRow,true),(C_CornerTwice,true),(C_Unmet,false)]=true
 ix_ValueError:kZ K (.type "ValueError") [(C_BadRow,true),(C_CornerTwice,true),(C_Unmet,true)]=true
 ix_BadRow:kZ K (.ref C_BadRow) [(C_BadRow,true),(C_CornerTwice,false),(C_Unmet,false)]=true
 ix_CornerTwice:kZ K (.ref C_CornerTwice) [(C_BadRow,false),(C_CornerTwice,true),(C_Unmet,false)]=true
 iy_0:zXm K (zYx [C_OffFloor,C_Unmet]) [(C_BadRow,false),(C_CornerTwice,false),(C_Unmet,true)]=true
 em_YardError_BadRow:PySem.W.exmOne K (.ref C_BadRow) (.ref C_YardError)=some true
 em_YardError_CornerTwice:PySem.W.exmOne K (.ref C_CornerTwice) (.ref C_YardError)=some true
 em_YardError_Unmet:PySem.W.exmOne K (.ref C_Unmet) (.ref C_YardError)=some true
 t_BITS:Tok
 c_BITS:mg "BITS"=some (.str "01" t_BITS)
 t_FLIPS:Tok
 c_FLIPS:mg "FLIPS"=some (.str "+-" t_FLIPS)
 t_AXES:Tok
 c_AXES:mg "AXES"=some (.str "xyz" t_AXES)
 t_LETTERS:Tok
 c_LETTERS:mg "LETTERS"=some (.str "abcdefghijklmnopqrstuvwxyz" t_LETTERS)
 t_LONGEST_WORD:Tok
 c_LONGEST_WORD:mg "LONGEST_WORD"=some (.int 12 t_LONGEST_WORD)
 da_PROMISES:Addr
 c_PROMISES:mg "PROMISES"=some (.ref da_PROMISES)
 dc_PROMISES:DictC w K da_PROMISES [("joined",.bl true),("loose",.bl false)]
 da_DIMS:Addr
 c_DIMS:mg "DIMS"=some (.ref da_DIMS)
 dc_DIMS:DictC w K da_DIMS [("2",.int 2),("3",.int 3)]
 z_ValueError:mg "ValueError"=none
 z_all:mg "all"=none
 z_bool:mg "bool"=none
 z_int:mg "int"=none
 z_isinstance:mg "isinstance"=none
 z_len:mg "len"=none
 z_list:mg "list"=none
 z_range:mg "range"=none
 z_reversed:mg "reversed"=none
 z_sorted:mg "sorted"=none
 z_str:mg "str"=none
 z_tuple:mg "tuple"=none
 z_zip:mg "zip"=none
set_option genInjectivity true
set_option genSizeOf true
set_option genSizeOfSpec true
section
seal PySem.Sem.wp
variable {P:Program} {w:World} {K:PySem.W.Frag} {mg:Str->Option Value} {base:Heap}
theorem jM:FnScope ["self","row"] ["self","row"] (zU uX):=wY (by decide +kernel)
def zX2:Lf:=(zY (eV 1) zS)
def xX:List D->Option (List D):=fun ds=>zX2 (oB 2 ds)
theorem rP (T:Txt w K mg):FnOk P w K mg base CX0 1 T.fi_TextError T.fdi_TextError ["self","row"] (spN K T.C_BadRow ["row"] 1 xX) :=
 bY (k:=0) T.Fi_TextError jM (by decide +kernel) (by decide) fun cdv A outer s H E hr =>
   (nA T.xs_BadRow T.n_BadRow_row rfl (Or.inl rfl) (zV 1) zZ7)
theorem dH (T:Txt w K mg):FnOk P w K mg base CX0 1 T.fi_TextError T.fdi_TextError ["self","row"] (spN K T.C_CornerTwice ["row"] 1 xX) :=
 bY (k:=0) T.Fi_TextError jM (by decide +kernel) (by decide) fun cdv A outer s H E hr =>
   (nA T.xs_CornerTwice T.n_CornerTwice_row rfl (Or.inl rfl) (zV 1) zZ7)
theorem zTN:FnScope ["self","first","second","level"] ["self","first","second","level"] (zU mZ):=wY (by decide +kernel)
def zSG:Lf:=(zY (eV 1) (zY (eV 2) (zY (eV 3) zS)))
def zWB:List D->Option (List D):=fun ds=>zSG (oB 4 ds)
theorem zTT (T:Txt w K mg):FnOk P w K mg base CX0 1 T.fi_Unmet T.fdi_Unmet ["self","first","second","level"] (spN K T.C_Unmet ["first","second","level"] 3 zWB) :=
 bY (k:=0) T.Fi_Unmet zTN (by decide +kernel) (by decide) fun cdv A outer s H E hr =>
   (nA T.xs_Unmet T.n_Unmet_first rfl (Or.inl rfl) (zV 1) (nA T.xs_Unmet T.n_Unmet_second rfl (Or.inl rfl) (zV 2) (nA T.xs_Unmet T.n_Unmet_level rfl (Or.inl rfl) (zV 3) zZ7)))
def iE:List (Str×Bool):=[("BadRow",true),("CornerTwice",true),("Unmet",false)]
theorem zZm (T:Txt w K mg):IsxOk K (.ref T.C_TextError) iE:=have h:=T.ix_TextError;(vT T.ca_BadRow T.xk_BadRow h fun h=>(vT T.ca_CornerTwice T.xk_CornerTwice h fun h=>(vT T.ca_Unmet T.xk_Unmet h fun h=>cO)))
def jG:List (Str×Bool):=[("BadRow",true),("CornerTwice",true),("Unmet",true)]
theorem cF (T:Txt w K mg):IsxOk K (.type "ValueError") jG:=have h:=T.ix_ValueError;(vT T.ca_BadRow T.xk_BadRow h fun h=>(vT T.ca_CornerTwice T.xk_CornerTwice h fun h=>(vT T.ca_Unmet T.xk_Unmet h fun h=>cO)))
def zYI:List (Str×Bool):=[("BadRow",true),("CornerTwice",false),("Unmet",false)]
theorem zV7 (T:Txt w K mg):IsxOk K (.ref T.C_BadRow) zYI:=have h:=T.ix_BadRow;(vT T.ca_BadRow T.xk_BadRow h fun h=>(vT T.ca_CornerTwice T.xk_CornerTwice h fun h=>(vT T.ca_Unmet T.xk_Unmet h fun h=>cO)))
def kJ:List (Str×Bool):=[("BadRow",false),("CornerTwice",true),("Unmet",false)]
theorem dC (T:Txt w K mg):IsxOk K (.ref T.C_CornerTwice) kJ:=have h:=T.ix_CornerTwice;(vT T.ca_BadRow T.xk_BadRow h fun h=>(vT T.ca_CornerTwice T.xk_CornerTwice h fun h=>(vT T.ca_Unmet T.xk_Unmet h fun h=>cO)))
def zNJ:List (Str×Bool):=[("BadRow",false),("CornerTwice",false),("Unmet",true)]
theorem zNz (T:Txt w K mg):IsyOk K (zYx [T.C_OffFloor,T.C_Unmet]) zNJ:=have h:=T.iy_0;(zZ0 T.ca_BadRow T.xk_BadRow h fun h=>(zZ0 T.ca_CornerTwice T.xk_CornerTwice h fun h=>(zZ0 T.ca_Unmet T.xk_Unmet h fun h=>zQA)))
theorem zZn (T:Txt w K mg):ExOk K T.C_YardError ["BadRow","CornerTwice","Unmet"]:=⟨⟨T.C_BadRow,T.ca_BadRow,T.em_YardError_BadRow⟩,⟨⟨T.C_CornerTwice,T.ca_CornerTwice,T.em_YardError_CornerTwice⟩,⟨⟨T.C_Unmet,T.ca_Unmet,T.em_YardError_Unmet⟩,True.intro⟩⟩⟩
def cU:List Str:=["BadRow","CornerTwice"]
theorem zWc (T:Txt w K mg):XfOk K "row" cU:=⟨⟨T.C_BadRow,T.ca_BadRow,T.xk_BadRow,T.xs_BadRow.ob,T.n_BadRow_row⟩,⟨⟨T.C_CornerTwice,T.ca_CornerTwice,T.xk_CornerTwice,T.xs_CornerTwice.ob,T.n_CornerTwice_row⟩,True.intro⟩⟩
theorem zR6:FnScope ["self","corner","turn","back"] ["self","corner","turn","back"] (zU kB):=wY (by decide +kernel)
def zRg:Lf:=(zY (eV 1) (zY (eV 2) (zY (eV 3) zS)))
def zU4:List D->Option (List D):=fun ds=>zRg (oB 4 ds)
theorem zRD (T:Txt w K mg):FnOk P w K mg base CX0 1 T.fi_Part T.fdi_Part ["self","corner","turn","back"] (spI K T.C_Part ["corner","turn","back"] 3 zU4) :=
 zUj (k:=0) T.Fi_Part zR6 (by decide +kernel) (by decide) fun cdv A outer s H E hr =>
   (pK T.cl_Part T.n_Part_corner rfl (Or.inl rfl) (zV 1) (pK T.cl_Part T.n_Part_turn rfl (Or.inl rfl) (zV 2) (pK T.cl_Part T.n_Part_back rfl (Or.inl rfl) (zV 3) zUu)))
theorem zT2:FnScope ["self","name","dims","joined","parts"] ["self","name","dims","joined","parts"] (zU nE):=wY (by decide +kernel)
def zSd:Lf:=(zY (eV 1) (zY (eV 2) (zY (eV 3) (zY (eL (zXY (eV 4))) zS))))
def gF:List D->Option (List D):=fun ds=>zSd (oB 5 ds)
theorem zTi (T:Txt w K mg):FnOk P w K mg base CX0 1 T.fi_Curve T.fdi_Curve ["self","name","dims","joined","parts"] (spI K T.C_Curve ["name","dims","joined","parts"] 4 gF) :=
 zUj (k:=0) T.Fi_Curve zT2 (by decide +kernel) (by decide) fun cdv A outer s H E hr =>
   (pK T.cl_Curve T.n_Curve_name rfl (Or.inl rfl) (zV 1) (pK T.cl_Curve T.n_Curve_dims rfl (Or.inl rfl) (zV 2) (pK T.cl_Curve T.n_Curve_joined rfl (Or.inl rfl) (zV 3) (pK T.cl_Curve T.n_Curve_parts rfl (Or.inl rfl) (xB (zTH rfl T.z_list (zV 4))) zUu))))
theorem aW:FnScope ["_law_cell","_law_factor","_law_mixed"] ["_law_cell","_law_factor"] (zU fU):=wY (by decide +kernel)
def dW:Sf:=(xA (pA (uU (zXx (eV 2) (eV 2)) (eC (.int 2147483629))) (eC (.int 3))))
def lC:Sf:=(zF (yH 2 (uU (tU (zXx (eV 0) (eV 1)) (eC (.int 12345))) (eC (.int 2147483647))))
   (dW))
def zYQ:Sf :=
   (lC)
def uW:List D->Option D:=fnF 3 zYQ
theorem mW (T:Txt w K mg):OkT P w base T.q0 1 2 uW :=
 rC (k:=0) T.q0.F aW fun cdv A outer s H E hr =>
   (zT lC rfl (zM 2 aW.nd (wH (vX (fQ (zV 0) (zV 1)) zX) zX))
     (zR (yN (uE (wH (fQ (zV 2) (zV 2)) zX) zX))))
theorem pW:FnScope ["_law_dims","_law_corners_here"] ["_law_dims"] (zU uN):=wY (by decide +kernel)
def dD:Sf:=(zZG 1)
def lR:Sf:=(zF (sIf (eB2 gEq (eV 0) (eC (.int 3))) (dB 1 (qZ 1 (vI (xH (iL (eV 1)) 2 [] (gT (zB (gN 0) (zB (gN 1) wR))) tOK (yL (zY (eV 0) (zY (eV 1) (zY (eC (.int 0)) zS))))) (xH (iL (eV 1)) 2 [] (gT (zB (gN 0) (zB (gN 1) wR))) tOK (yL (zY (eV 0) (zY (eV 1) (zY (eC (.int 1)) zS)))))))) vY)
   (dD))
def lU:Sf:=(zF (qZ 1 (yM (zY (yL (zY (eC (.int 0)) (zY (eC (.int 0)) zS))) (zY (yL (zY (eC (.int 1)) (zY (eC (.int 0)) zS))) (zY (yL (zY (eC (.int 0)) (zY (eC (.int 1)) zS))) (zY (yL (zY (eC (.int 1)) (zY (eC (.int 1)) zS))) zS))))))
   (lR))
def zZt:Sf :=
   (lU)
def rO:List D->Option (List D):=fnL 2 zZt
theorem zZy (T:Txt w K mg):zSF P w base T.q1 1 1 rO :=
 zZE (k:=0) T.q1.F pW fun cdv A outer s H E hr =>
   (zT lU rfl (tR 1 pW.nd (yQ (zZ (zK (zZ zX (zZ zX zW))) (zZ (zK (zZ zX (zZ zX zW))) (zZ (zK (zZ zX (zZ zX zW))) (zZ (zK (zZ zX (zZ zX zW))) zW))))))
     (zT lR rfl (yB (zA rB (zV 0) zX) (zR (oF 1 (tR 1 pW.nd (qA (sU (zU uN) ["_law_dims","_law_corners_here"] ["_law_x","_law_y"] [] [] (zSe (uJ (mH 0) (uJ (mH 1) gY))) (zTO (zV 1)) rfl rfl rfl (by decide +kernel) (fun _ _ _ _=>(fO 2 rfl (yV (wP 0 (show(List.Nodup (α:=PySem.Str) ["_law_x","_law_y"]) from by decide +kernel)) (yV (wP 1 (show(List.Nodup (α:=PySem.Str) ["_law_x","_law_y"]) from by decide +kernel)) wD)) (yE (yE uV)))) (fun _ _ _ _=>xD) (fun _ _ _ _=>(zK (zZ (zV 0) (zZ (zV 1) (zZ zX zW)))))) (sU (zU uN) ["_law_dims","_law_corners_here"] ["_law_x","_law_y"] [] [] (zSe (uJ (mH 0) (uJ (mH 1) gY))) (zTO (zV 1)) rfl rfl rfl (by decide +kernel) (fun _ _ _ _=>(fO 2 rfl (yV (wP 0 (show(List.Nodup (α:=PySem.Str) ["_law_x","_law_y"]) from by decide +kernel)) (yV (wP 1 (show(List.Nodup (α:=PySem.Str) ["_law_x","_law_y"]) from by decide +kernel)) wD)) (yE (yE uV)))) (fun _ _ _ _=>xD) (fun _ _ _ _=>(zK (zZ (zV 0) (zZ (zV 1) (zZ zX zW)))))))))) yP)
     (zR (iG 1))))
theorem oW:FnScope ["_law_number","_law_dims","_law_axes"] ["_law_number","_law_dims"] (zU mG):=wY (by decide +kernel)
def tN:Sf:=(xA (tM (eL (xH (iR (eV 1)) 1 [2,0] (gN 0) tOK (yL (zY (eIx (eV 1) (eV 0)) (zY (uU (pA (eV 2) (eIx (eL (yM (zY (eC (.int 1)) (zY (eC (.int 2)) (zY (eC (.int 4)) zS))))) (eV 0))) (eC (.int 2))) zS)))))))
def tQ:Sf:=(zF (sIf (eB2 gEq (eV 1) (eC (.int 3))) (yH 2 (eIx (eL (yM (zY (eL (yM (zY (eC (.int 0)) (zY (eC (.int 1)) (zY (eC (.int 2)) zS))))) (zY (eL (yM (zY (eC (.int 0)) (zY (eC (.int 2)) (zY (eC (.int 1)) zS))))) (zY (eL (yM (zY (eC (.int 1)) (zY (eC (.int 0)) (zY (eC (.int 2)) zS))))) (zY (eL (yM (zY (eC (.int 1)) (zY (eC (.int 2)) (zY (eC (.int 0)) zS))))) (zY (eL (yM (zY (eC (.int 2)) (zY (eC (.int 0)) (zY (eC (.int 1)) zS))))) (zY (eL (yM (zY (eC (.int 2)) (zY (eC (.int 1)) (zY (eC (.int 0)) zS))))) zS)))))))) (uU (pA (eV 0) (eC (.int 8))) (eC (.int 6))))) (sIf (eB2 gEq (uU (pA (eV 0) (eC (.int 8))) (eC (.int 2))) (eC (.int 1))) (yH 2 (eL (yM (zY (eC (.int 1)) (zY (eC (.int 0)) zS))))) vY))
   (tN))
def sL:Sf:=(zF (yH 2 (eL (yM (zY (eC (.int 0)) (zY (eC (.int 1)) zS)))))
   (tQ))
def mI:Sf :=
   (sL)
def wT:List D->Option D:=fnF 3 mI
theorem dS (T:Txt w K mg):OkT P w base T.q2 1 2 wT :=
 rC (k:=0) T.q2.F oW fun cdv A outer s H E hr =>
   (zT sL rfl (zM 2 oW.nd (xB (yQ (zZ zX (zZ zX zW)))))
     (zT tQ rfl (yB (zA rB (zV 1) zX) (zR (zM 2 oW.nd (y0 (xB (yQ (zZ (xB (yQ (zZ zX (zZ zX (zZ zX zW))))) (zZ (xB (yQ (zZ zX (zZ zX (zZ zX zW))))) (zZ (xB (yQ (zZ zX (zZ zX (zZ zX zW))))) (zZ (xB (yQ (zZ zX (zZ zX (zZ zX zW))))) (zZ (xB (yQ (zZ zX (zZ zX (zZ zX zW))))) (zZ (xB (yQ (zZ zX (zZ zX (zZ zX zW))))) zW)))))))) (wH (uE (zV 0) zX) zX)))) (zR (yB (zA rB (wH (uE (zV 0) zX) zX) zX) (zR (zM 2 oW.nd (xB (yQ (zZ zX (zZ zX zW)))))) yP)))
     (zR (yN (nP rfl T.z_tuple (xB (sU (zU mG) ["_law_number","_law_dims","_law_axes"] ["_law_k"] ["_law_axes","_law_number"] [2,0] (mH 0) (zQv rfl T.z_range (zV 1)) rfl rfl rfl (by decide +kernel) (fun _ _ _ _=>(wP 0 (show(List.Nodup (α:=PySem.Str) ["_law_k","_law_axes","_law_number"]) from by decide +kernel))) (fun _ _ _ _=>xD) (fun _ _ _ _=>(zK (zZ (y0 (zV 1) (zV 0)) (zZ (wH (uE (zV 2) (y0 (xB (yQ (zZ zX (zZ zX (zZ zX zW))))) (zV 0))) zX) zW)))))))))))
theorem sI:FnScope ["_law_dims","_law_cell","_law_left","_law_parts","_law_number","_law_corner"] ["_law_dims","_law_cell"] (zU kP):=wY (by decide +kernel)
def zZr:Sf:=(zZG 3)
def nV:Sf:=(zF (oG (eQ 2) (zF (yH 4 (zI 2 uW (zY (eV 1) (zY (tU (eC (.int 48271)) (zXx (eC (.int 997)) (hG 2))) zS))))
   (zF (zTS 5 2 (uU (eV 4) (hG 2)))
   (cC 3 (yL (zY (eV 5) (zY (zI 2 wT (zY (pA (eV 4) (eC (.int 8))) (zY (eV 0) zS))) (zY (qO (eB2 gEq (uU (pA (eV 4) (eC (.int 800))) (eC (.int 2))) (eC (.int 1)))) zS))))))) 100)
   (zZr))
def nZ:Sf:=(zF (qZ 3 (yM zS))
   (nV))
def rN:Sf:=(zF (qZ 2 (qS 1 rO (zY (eV 0) zS)))
   (nZ))
def zWJ:Sf :=
   (rN)
def kY:List D->Option (List D):=fnL 6 zWJ
theorem zXM (T:Txt w K mg):zSF P w base T.q3 2 2 kY :=
 zZE (k:=1) T.q3.F sI fun cdv A outer s H E hr =>
   (zT rN rfl (tR 2 sI.nd (zT6 (zZy T) hr (zZ (zV 0) zW)))
     (zT nZ rfl (tR 3 sI.nd (yQ zW))
     (zT nV rfl (zTZ 100 Rm (zS1 2 hr) (tY (zM 4 sI.nd (vC (mW T) hr (zZ (zV 1) (zZ (vX zX (fQ zX (zU3 2 rfl T.z_len))) zW))))
     (tY (zQS 5 2 sI.nd (uT Em PySem.F.slot_list_pop PySem.F.type_list_pop zSH (pv 2) (zC (wH (zV 4) (zU3 2 rfl T.z_len)) yJ)))
     (zR (zZO 3 (uT Em Rf Rg qF (pv 3) (zC (zK (zZ (zV 5) (zZ (vC (dS T) hr (zZ (uE (zV 4) zX) (zZ (zV 0) zW))) (zZ (oK rB (wH (uE (zV 4) zX) zX) zX) zW)))) yJ)))))))
     (zR (iG 3)))))
theorem w6:FnScope ["_law_dims","_law_joined_here","_law_parts","_law_rows_here","_law_corner","_law_turn_here","_law_back","_law_signs","_law_row"] ["_law_dims","_law_joined_here","_law_parts"] (zU pI):=wY (by decide +kernel)
def jD:Sf:=(cC 3 (eV 8))
def oC:Sf:=(zF (sIf (tB1 (eV 6)) (yH 8 (z0 (eV 8) (eC (.str " back")))) vY)
   (jD))
def oN:Sf:=(zF (yH 8 (z0 (z0 (z0 (eC (.str "part ")) (uR (eC (.str "")) (xH (iT (eV 4)) 1 [] (gN 0) tOK (mU (eV 0))))) (eC (.str " "))) (eV 7)))
   (oC))
def vO:Sf:=(zF (yH 7 (uR (eC (.str "")) (xH (iT (eV 5)) 2 [] (gT (zB (gN 0) (zB (gN 1) wR))) tOK (z0 (eIx (eC (.str "+-")) (eV 1)) (eIx (eC (.str "xyz")) (eV 0))))))
   (oN))
def zXQ:Sf:=(zZG 3)
def mJ:Sf:=(zF (gG (iL (eV 2)) (gT (zB (gN 4) (zB (gN 5) (zB (gN 6) wR)))) (vO))
   (zXQ))
def qM:Sf:=(zF (qZ 3 (yM (zY (z0 (z0 (z0 (eC (.str "curve fold ")) (eIx (eL (yM (zY (eC (.str "loose")) (zY (eC (.str "joined")) zS)))) (fH (eV 1)))) (eC (.str " "))) (mU (eV 0))) zS)))
   (mJ))
def zVz:Sf :=
   (qM)
def lV:List D->Option (List D):=fnL 9 zVz
theorem eM (T:Txt w K mg):zSF P w base T.q4 1 3 lV :=
 zZE (k:=0) T.q4.F w6 fun cdv A outer s H E hr =>
   (zT qM rfl (tR 3 w6.nd (yQ (zZ (yY (yY (yY zP (y0 (xB (yQ (zZ zP (zZ zP zW)))) (zWU rfl T.z_int (zV 1)))) zP) (zWL rfl T.z_str (zV 0))) zW)))
     (zT mJ rfl (kA Rm rfl (zTO (zV 2)) (fO 3 rfl (yV (wP 4 w6.nd) (yV (wP 5 w6.nd) (yV (wP 6 w6.nd) wD))) (yE (yE (yE uV)))) (zT vO rfl (zM 7 w6.nd (oR (uT Qn Ej Ek oO zP (zC (pQ (sU (zU pI) ["_law_dims","_law_joined_here","_law_parts","_law_rows_here","_law_corner","_law_turn_here","_law_back","_law_signs","_law_row"] ["_law_axis","_law_flip"] [] [] (zSe (uJ (mH 0) (uJ (mH 1) gY))) (zQp (zV 5)) rfl rfl rfl (by decide +kernel) (fun _ _ _ _=>(fO 2 rfl (yV (wP 0 (show(List.Nodup (α:=PySem.Str) ["_law_axis","_law_flip"]) from by decide +kernel)) (yV (wP 1 (show(List.Nodup (α:=PySem.Str) ["_law_axis","_law_flip"]) from by decide +kernel)) wD)) (yE (yE uV)))) (fun _ _ _ _=>xD) (fun _ _ _ _=>(yY (y0 zP (zV 1)) (y0 zP (zV 0)))))) yJ))))
     (zT oN rfl (zM 8 w6.nd (yY (yY (yY zP (oR (uT Qn Ej Ek oO zP (zC (pQ (sU (zU pI) ["_law_dims","_law_joined_here","_law_parts","_law_rows_here","_law_corner","_law_turn_here","_law_back","_law_signs","_law_row"] ["_law_bit"] [] [] (mH 0) (zQp (zV 4)) rfl rfl rfl (by decide +kernel) (fun _ _ _ _=>(wP 0 (show(List.Nodup (α:=PySem.Str) ["_law_bit"]) from by decide +kernel))) (fun _ _ _ _=>xD) (fun _ _ _ _=>(zWL rfl T.z_str (zV 0))))) yJ)))) zP) (zV 7)))
     (zT oC rfl (yB (wG (zV 6)) (zR (zM 8 w6.nd (yY (zV 8) zP))) yP)
     (zR (zZO 3 (uT Em Rf Rg qF (pv 3) (zC (zV 8) yJ))))))))
     (zR (iG 3))))
theorem xC:FnScope ["_law_row","_law_draw","_law_words","_law_some"] ["_law_row","_law_draw"] (zU pG):=wY (by decide +kernel)
def sA:Sf:=(xA (eIx (eV 3) (uU (eV 1) (wS (eV 3)))))
def nM:Sf:=(zF (yH 3 (eL (vI (iL (eV 3)) (yM (zY (eC (.str "curve fold Joined 2")) (zY (z0 (eV 0) (eC (.str " back"))) (zY (eC (.str "curve fold loose +2")) (zY (eC (.str "curve fold joined two")) zS))))))))
   (sA))
def nS:Sf:=(zF (yH 3 (eL (vI (iL (eV 3)) (yM (zY (eC (.str "curve Fold loose 2")) (zY (eC (.str "curve abcdefghijklm loose 3")) (zY (eC (.str "curve  loose 2")) (zY (eC (.str "curve f1 joined 3")) zS))))))))
   (nM))
def nF:Sf:=(zF (yH 3 (eL (vI (iL (eV 3)) (yM (zY (eC (.str "curve fold joine 2")) (zY (eC (.str "curve fold loose 1")) (zY (eC (.str "curve fold loose 4")) (zY (eC (.str "curve fold loose 02")) (zY (eC (.str "")) zS)))))))))
   (nS))
def nQ:Sf:=(zF (yH 3 (eL (vI (iL (eV 3)) (yM (zY (dQ " " "\t" (eV 0)) (zY (z0 (eV 0) (eC (.str "\t"))) zS))))))
   (nF))
def nL:Sf:=(zF (yH 3 (eL (yM (zY (uR (eC (.str " ")) (vI (yM (zY (eC (.str "curves")) zS)) (xI (eV 2) (xW (eC (.int 1))) oNo))) (zY (uR (eC (.str " ")) (xI (eV 2) oNo (xW (eC (.int 3))))) (zY (z0 (eV 0) (eC (.str " "))) (zY (z0 (eC (.str " ")) (eV 0)) (zY (dQ " " "  " (eV 0)) zS))))))))
   (nQ))
def uZ:Sf:=(zF (yH 2 (eL (vV (eV 0) (eC (.str " ")))))
   (nL))
def zZI:Sf :=
   (uZ)
def sK:List D->Option D:=fnF 4 zZI
theorem dG (T:Txt w K mg):OkT P w base T.q5 1 2 sK :=
 rC (k:=0) T.q5.F xC fun cdv A outer s H E hr =>
   (zZC uZ rfl (zYA 2 xC.nd (zV 0))
     (xV nL rfl (aK 3 xC.nd (zON (zXC (qK (PE.tt (oR (uT Qn Ej Ek oO zP (zC (pQ (qA (yQ (zZ zP zW)) (wC (zV 2) (uS zX) tX))) yJ)))) (qK (PE.tt (oR (uT Qn Ej Ek oO zP (zC (pQ (wC (zV 2) tX (uS zX))) yJ)))) (qK (PE.tt (yY (zV 0) zP)) (qK (PE.tt (yY zP (zV 0))) (qK (zV4 (by decide +kernel) (by decide +kernel) (zV 0)) zVj))))))))
     (xV nQ rfl (aK 3 xC.nd (zON (zTb (sO (zV 3)) (zXC (qK (zV4 (by decide +kernel) (by decide +kernel) (zV 0)) (qK (PE.tt (yY (zV 0) zP)) zVj))))))
     (xV nF rfl (PS.tt (zM 3 xC.nd (xB (tJ (sO (zV 3)) (pQ (yQ (zZ zP (zZ zP (zZ zP (zZ zP (zZ zP zW)))))))))))
     (xV nS rfl (PS.tt (zM 3 xC.nd (xB (tJ (sO (zV 3)) (pQ (yQ (zZ zP (zZ zP (zZ zP (zZ zP zW))))))))))
     (xV nM rfl (PS.tt (zM 3 xC.nd (xB (tJ (sO (zV 3)) (pQ (yQ (zZ zP (zZ (yY (zV 0) zP) (zZ zP (zZ zP zW))))))))))
     (zY5 (PS.tt (yN (y0 (zV 3) (wH (zV 1) (xM rfl T.z_len (zV 3)))))))))))))
theorem yG:FnScope ["_law_row","_law_draw","_law_words","_law_corner","_law_turn_here","_law_turns","_law_corners_here","_law_some"] ["_law_row","_law_draw"] (zU vH):=wY (by decide +kernel)
def tK:Sf:=(xA (eIx (eV 7) (uU (eV 1) (wS (eV 7)))))
def tS:Sf:=(zF (yH 7 (eL (vI (iL (eV 7)) (yM (zY (dQ " " "\t" (eV 0)) (zY (z0 (eV 0) (eC (.str "\t"))) zS))))))
   (tK))
def sB:Sf:=(zF (yH 7 (eL (vI (iL (eV 7)) (yM (zY (z0 (z0 (z0 (z0 (eC (.str "part ")) (eV 3)) (eC (.str " "))) (eV 4)) (eC (.str " back back"))) (zY (z0 (eV 0) (eC (.str " "))) (zY (z0 (eC (.str " ")) (eV 0)) (zY (z0 (z0 (z0 (eC (.str "part  ")) (eV 3)) (eC (.str " "))) (eV 4)) zS))))))))
   (tS))
def sE:Sf:=(zF (yH 7 (eL (vI (iL (eV 7)) (yM (zY (z0 (z0 (z0 (eC (.str "parts ")) (eV 3)) (eC (.str " "))) (eV 4)) (zY (z0 (eC (.str "part ")) (eV 3)) (zY (z0 (z0 (z0 (z0 (eC (.str "part ")) (eV 3)) (eC (.str " "))) (eV 4)) (eC (.str " Back"))) (zY (eC (.str "")) zS))))))))
   (sB))
def rR:Sf:=(zF (yH 7 (eL (vI (xH (iL (eV 5)) 1 [3] (gN 0) tOK (z0 (z0 (z0 (eC (.str "part ")) (eV 1)) (eC (.str " "))) (eV 0))) (xH (iL (eV 6)) 1 [4] (gN 0) tOK (z0 (z0 (z0 (eC (.str "part ")) (eV 0)) (eC (.str " "))) (eV 1))))))
   (sE))
def rS:Sf:=(zF (yH 6 (eL (vI (iL (eV 6)) (yM (zY (z0 (eC (.str "-")) (uQ (eV 3) (xW (eC (.int 1))) oNo)) (zY (z0 (zYX (eC (.str "0")) (cX (wS (eV 3)) (eC (.int 1)))) (eC (.str "O"))) zS))))))
   (rR))
def rW:Sf:=(zF (yH 6 (eL (yM (zY (z0 (eC (.str "2")) (uQ (eV 3) (xW (eC (.int 1))) oNo)) (zY (uQ (eV 3) (xW (eC (.int 1))) oNo) (zY (z0 (eV 3) (eC (.str "0"))) (zY (z0 (eV 3) (eC (.str "1"))) zS)))))))
   (rS))
def sF:Sf:=(zF (yH 5 (eL (vI (iL (eV 5)) (yM (zY (z0 (uQ (eV 4) (xW (eC (.int 1))) oNo) (eC (.str "+"))) (zY (zX7 (eV 4)) (zY (z0 (eC (.str "x")) (uQ (eV 4) (xW (eC (.int 1))) oNo)) zS)))))))
   (rW))
def rZ:Sf:=(zF (yH 5 (eL (yM (zY (z0 (uQ (eV 4) (xW (eC (.int 2))) oNo) (eC (.str "+w"))) (zY (zYX (eC (.str "+x")) (wS (eV 3))) (zY (uQ (eV 4) (xW (eC (.int 2))) oNo) (zY (z0 (eV 4) (eC (.str "+x"))) zS)))))))
   (sF))
def rQ:Sf:=(zF (yH 4 (eIx (eV 2) (eC (.int 2))))
   (rZ))
def rY:Sf:=(zF (yH 3 (eIx (eV 2) (eC (.int 1))))
   (rQ))
def wA:Sf:=(zF (yH 2 (eL (vV (eV 0) (eC (.str " ")))))
   (rY))
def aN:Sf :=
   (wA)
def tT:List D->Option D:=fnF 8 aN
theorem cZ (T:Txt w K mg):OkT P w base T.q6 1 2 tT :=
 rC (k:=0) T.q6.F yG fun cdv A outer s H E hr =>
   (zZC wA rfl (zYA 2 yG.nd (zV 0))
     (xV rY rfl (PS.tt (zM 3 yG.nd (y0 (zV 2) zX)))
     (xV rQ rfl (PS.tt (zM 4 yG.nd (y0 (zV 2) zX)))
     (xV rZ rfl (PS.tt (zM 5 yG.nd (xB (yQ (zZ (yY (rT (zV 4) (uS zX) tX) zP) (zZ (zUN zP (xM rfl T.z_len (zV 3))) (zZ (rT (zV 4) (uS zX) tX) (zZ (yY (zV 4) zP) zW))))))))
     (xV sF rfl (PS.tt (zM 5 yG.nd (xB (tJ (sO (zV 5)) (pQ (yQ (zZ (yY (rT (zV 4) (uS zX) tX) zP) (zZ (zRL (zPj Qn PySem.F.slot_str_upper PySem.F.type_str_upper zSK (zV 4))) (zZ (yY zP (rT (zV 4) (uS zX) tX)) zW)))))))))
     (xV rW rfl (PS.tt (zM 6 yG.nd (xB (yQ (zZ (yY zP (rT (zV 3) (uS zX) tX)) (zZ (rT (zV 3) (uS zX) tX) (zZ (yY (zV 3) zP) (zZ (yY (zV 3) zP) zW))))))))
     (xV rS rfl (PS.tt (zM 6 yG.nd (xB (tJ (sO (zV 6)) (pQ (yQ (zZ (yY zP (rT (zV 3) (uS zX) tX)) (zZ (yY (zUN zP (bZ (xM rfl T.z_len (zV 3)) zX)) zP) zW))))))))
     (xV rR rfl (PS.tt (zM 7 yG.nd (xB (qA (sU (zU vH) ["_law_row","_law_draw","_law_words","_law_corner","_law_turn_here","_law_turns","_law_corners_here","_law_some"] ["_law_one"] ["_law_corner"] [3] (mH 0) (zTO (zV 5)) rfl rfl rfl (by decide +kernel) (fun _ _ _ _=>(wP 0 (show(List.Nodup (α:=PySem.Str) ["_law_one","_law_corner"]) from by decide +kernel))) (fun _ _ _ _=>xD) (fun _ _ _ _=>(yY (yY (yY zP (zV 1)) zP) (zV 0)))) (sU (zU vH) ["_law_row","_law_draw","_law_words","_law_corner","_law_turn_here","_law_turns","_law_corners_here","_law_some"] ["_law_one"] ["_law_turn_here"] [4] (mH 0) (zTO (zV 6)) rfl rfl rfl (by decide +kernel) (fun _ _ _ _=>(wP 0 (show(List.Nodup (α:=PySem.Str) ["_law_one","_law_turn_here"]) from by decide +kernel))) (fun _ _ _ _=>xD) (fun _ _ _ _=>(yY (yY (yY zP (zV 0)) zP) (zV 1))))))))
     (xV sE rfl (PS.tt (zM 7 yG.nd (xB (tJ (sO (zV 7)) (pQ (yQ (zZ (yY (yY (yY zP (zV 3)) zP) (zV 4)) (zZ (yY zP (zV 3)) (zZ (yY (yY (yY (yY zP (zV 3)) zP) (zV 4)) zP) (zZ zP zW))))))))))
     (xV sB rfl (PS.tt (zM 7 yG.nd (xB (tJ (sO (zV 7)) (pQ (yQ (zZ (yY (yY (yY (yY zP (zV 3)) zP) (zV 4)) zP) (zZ (yY (zV 0) zP) (zZ (yY zP (zV 0)) (zZ (yY (yY (yY zP (zV 3)) zP) (zV 4)) zW))))))))))
     (xV tS rfl (aK 7 yG.nd (zON (zTb (sO (zV 7)) (zXC (qK (zV4 (by decide +kernel) (by decide +kernel) (zV 0)) (qK (PE.tt (yY (zV 0) zP)) zVj))))))
     (zY5 (PS.tt (yN (y0 (zV 7) (wH (zV 1) (xM rfl T.z_len (zV 7))))))))))))))))))
theorem uK:FnScope ["_law_rows_here","_law_draw","_law_kind","_law_at","_law_more","_law_words"] ["_law_rows_here","_law_draw"] (zU mX):=wY (by decide +kernel)
def lI:Sf:=(xA (yL (zY (eL (vI (iL (eV 0)) (yM (zY (eIx (eL (yM (zY (eC (.str "")) (zY (eC (.str "part 00 +x+y")) (zY (eC (.str "floor 3 4")) zS))))) (uU (eV 4) (eC (.int 3)))) zS)))) (zY (tU (wS (eV 0)) (eC (.int 1))) (zY (eC (.str "row")) zS)))))
def pH:Sf:=(zF (sIf (eB2 gLt (eV 2) (eC (.int 5))) (xA (yL (zY (eL (xI (eV 0) oNo (xW (eV 3)))) (zY (tU (eV 3) (eC (.int 1))) (zY (eC (.str "row")) zS))))) vY)
   (lI))
def pF:Sf:=(zF (sIf (zXb (eB2 gEq (eV 2) (eC (.int 3))) (eB2 gGt (eV 3) (eC (.int 1)))) (zF (qZ 5 (vV (eIx (eV 0) (eV 3)) (eC (.str " "))))
   (zF (zWQ 5 (eC (.int 1)) (eIx (eL (vV (eIx (eV 0) (tU (eC (.int 1)) (uU (eV 4) (cX (eV 3) (eC (.int 1)))))) (eC (.str " ")))) (eC (.int 1))))
   (dB 5 (xA (yL (zY (eL (vI (vI (xI (eV 0) oNo (xW (eV 3))) (yM (zY (uR (eC (.str " ")) (iL (eV 5))) zS))) (xI (eV 0) (xW (tU (eV 3) (eC (.int 1)))) oNo))) (zY (tU (eV 3) (eC (.int 1))) (zY (eC (.str "corner")) zS)))))))) vY)
   (pH))
def pN:Sf:=(zF (sIf (eB2 gLt (eV 2) (eC (.int 3))) (xA (yL (zY (eL (vI (vI (xI (eV 0) oNo (xW (eV 3))) (yM (zY (zI 2 tT (zY (eIx (eV 0) (eV 3)) (zY (eV 4) zS))) zS))) (xI (eV 0) (xW (tU (eV 3) (eC (.int 1)))) oNo))) (zY (tU (eV 3) (eC (.int 1))) (zY (eC (.str "row")) zS))))) vY)
   (pF))
def sN:Sf:=(zF (sIf (eB2 gEq (eV 2) (eC (.int 0))) (xA (yL (zY (eL (vI (yM (zY (zI 2 sK (zY (eIx (eV 0) (eC (.int 0))) (zY (eV 4) zS))) zS)) (xI (eV 0) (xW (eC (.int 1))) oNo))) (zY (eC (.int 1)) (zY (eC (.str "row")) zS))))) vY)
   (pN))
def pP:Sf:=(zF (yH 4 (pA (eV 1) (eC (.int 60))))
   (sN))
def pV:Sf:=(zF (yH 3 (tU (eC (.int 1)) (uU (pA (eV 1) (eC (.int 6))) (cX (wS (eV 0)) (eC (.int 1))))))
   (pP))
def sT:Sf:=(zF (yH 2 (uU (eV 1) (eC (.int 6))))
   (pV))
def zX9:Sf :=
   (sT)
def uY:List D->Option D:=fnF 6 zX9
theorem zZo (T:Txt w K mg):OkT P w base T.q7 2 2 uY :=
 rC (k:=1) T.q7.F uK fun cdv A outer s H E hr =>
   (zT sT rfl (zM 2 uK.nd (wH (zV 1) zX))
     (zT pV rfl (zM 3 uK.nd (vX zX (wH (uE (zV 1) zX) (bZ (xM rfl T.z_len (zV 0)) zX))))
     (zT pP rfl (zM 4 uK.nd (uE (zV 1) zX))
     (zT sN rfl (yB (zA rB (zV 2) zX) (zR (yN (zK (zZ (xB (qA (yQ (zZ (vC (dG T) hr (zZ (y0 (zV 0) zX) (zZ (zV 4) zW))) zW)) (wC (zV 0) (uS zX) tX))) (zZ zX (zZ zP zW)))))) yP)
     (zT pN rfl (yB (zA zP8 (zV 2) zX) (zR (yN (zK (zZ (xB (qA (qA (wC (zV 0) tX (uS (zV 3))) (yQ (zZ (vC (cZ T) hr (zZ (y0 (zV 0) (zV 3)) (zZ (zV 4) zW))) zW))) (wC (zV 0) (uS (vX (zV 3) zX)) tX))) (zZ (vX (zV 3) zX) (zZ zP zW)))))) yP)
     (zT pF rfl (yB (jU (zQy (zA rB (zV 2) zX) (zTe (zA zZP (zV 3) zX)))) (tY (tR 5 uK.nd (kL (uT Qn Rr Rt nG (y0 (zV 0) (zV 3)) (zC zP yJ))))
     (tY (zUS 5 (y0 (xB (kL (uT Qn Rr Rt nG (y0 (zV 0) (vX zX (wH (zV 4) (bZ (zV 3) zX)))) (zC zP yJ)))) zX) zX)
     (zR (oF 5 (yN (zK (zZ (xB (qA (qA (wC (zV 0) tX (uS (zV 3))) (yQ (zZ (oR (uT Qn Ej Ek oO zP (zC (sO (zV 5)) yJ))) zW))) (wC (zV 0) (uS (vX (zV 3) zX)) tX))) (zZ (vX (zV 3) zX) (zZ zP zW))))))))) yP)
     (zT pH rfl (yB (zA zP8 (zV 2) zX) (zR (yN (zK (zZ (xB (wC (zV 0) tX (uS (zV 3)))) (zZ (vX (zV 3) zX) (zZ zP zW)))))) yP)
     (zR (yN (zK (zZ (xB (tJ (sO (zV 0)) (pQ (yQ (zZ (y0 (xB (yQ (zZ zP (zZ zP (zZ zP zW))))) (wH (zV 4) zX)) zW))))) (zZ (vX (xM rfl T.z_len (zV 0)) zX) (zZ zP zW)))))))))))))
theorem jL:FnScope ["_law_rows_here","_law_first","_law_draw","_law_at"] ["_law_rows_here","_law_first","_law_draw"] (zU mO):=wY (by decide +kernel)
def kO:Sf:=(xA (eL (vI (vI (xI (eV 0) oNo (xW (eV 3))) (yM (zY (eC (.str "part 0 back")) zS))) (xI (eV 0) (xW (tU (eV 3) (eC (.int 1)))) oNo))))
def pX:Sf:=(zF (yH 3 (tU (eV 1) (uU (pA (eV 2) (eC (.int 2))) (cX (wS (eV 0)) (eV 1)))))
   (kO))
def sX:Sf:=(zF (sIf (qV (eB2 gEq (uU (eV 2) (eC (.int 2))) (eC (.int 0))) (eB2 gGe (eV 1) (wS (eV 0)))) (xA (eV 0)) vY)
   (pX))
def zXw:Sf :=
   (sX)
def qJ:List D->Option D:=fnF 4 zXw
theorem zZh (T:Txt w K mg):OkT P w base T.q8 1 3 qJ :=
 rC (k:=0) T.q8.F jL fun cdv A outer s H E hr =>
   (zT sX rfl (yB (jU (vM (zA rB (wH (zV 2) zX) zX) (vZ (zA zNn (zV 1) (xM rfl T.z_len (zV 0)))))) (zR (yN (zV 0))) yP)
     (zT pX rfl (zM 3 jL.nd (vX (zV 1) (wH (uE (zV 2) zX) (bZ (xM rfl T.z_len (zV 0)) (zV 1)))))
     (zR (yN (xB (qA (qA (wC (zV 0) tX (uS (zV 3))) (yQ (zZ zP zW))) (wC (zV 0) (uS (vX (zV 3) zX)) tX)))))))
theorem zZd:FnScope ["text","signs","longest"] ["text","signs","longest"] (zU qP):=wY (by decide +kernel)
def aT:Sf:=(xA (zU2 (qO (eB3 gLe gLe (eC (.int 1)) (wS (eV 0)) (eV 2))) (zPr (eL (xH (iS (eV 0)) 1 [1] (gN 0) tOK (qO (eB2 gIn (eV 0) (eV 1))))))))
def zXI:Sf :=
   (aT)
def gI:List D->Option D:=fnF 3 zXI
theorem zZp (T:Txt w K mg):OkT P w base T.q9 1 3 gI :=
 rC (k:=0) T.q9.F zZd fun cdv A outer s H E hr =>
   (zR (yN (zVi (zSo zPC zPC zX (xM rfl T.z_len (zV 0)) (zV 2)) (zR0 (zO1 rfl rfl T.z_all (xB (sU (zU qP) ["text","signs","longest"] ["sign"] ["signs"] [1] (mH 0) (zQZ (zV 0)) rfl rfl rfl (by decide +kernel) (fun _ _ _ _=>(wP 0 (show(List.Nodup (α:=PySem.Str) ["sign","signs"]) from by decide +kernel))) (fun _ _ _ _=>xD) (fun _ _ _ _=>(oK zNq (zV 0) (zV 1))))))))))
theorem zVM:FnScope ["text"] ["text"] (zU fE):=wY (by decide +kernel)
def zWg:Sf:=(xA (zI 3 gI (zY (eV 0) (zY (eC (.str "abcdefghijklmnopqrstuvwxyz")) (zY (eC (.int 12)) zS)))))
def zTP:Sf :=
   (zWg)
def jZ:List D->Option D:=fnF 1 zTP
theorem iZ (T:Txt w K mg):OkT P w base T.q10 2 1 jZ :=
 rC (k:=1) T.q10.F zVM fun cdv A outer s H E hr =>
   (zR (yN (vC (zZp T) hr (zZ (zV 0) (zZ (cJ rfl T.c_LETTERS) (zZ (zQr rfl T.c_LONGEST_WORD) zW))))))
theorem zXN:FnScope ["words"] ["words"] (zU kW):=wY (by decide +kernel)
def zZs:Sf:=(xA (yL (zY (eIx (eV 0) (eC (.int 1))) (zY (zQO [("joined",.bl true),("loose",.bl false)] (eIx (eV 0) (eC (.int 2)))) (zY (zQO [("2",.int 2),("3",.int 3)] (eIx (eV 0) (eC (.int 3)))) zS)))))
def jO:Sf:=(zF (sIf (qV (zVU false [("joined",.bl true),("loose",.bl false)] (eIx (eV 0) (eC (.int 2)))) (zVU false [("2",.int 2),("3",.int 3)] (eIx (eV 0) (eC (.int 3))))) (fun _=>none) vY)
   (zZs))
def jJ:Sf:=(zF (sIf (qV (eB2 gNe (wS (eV 0)) (eC (.int 4))) (qV (eB2 gNe (eIx (eV 0) (eC (.int 0))) (eC (.str "curve"))) (oQ (tB1 (zI 1 jZ (zY (eIx (eV 0) (eC (.int 1))) zS)))))) (fun _=>none) vY)
   (jO))
def eG:Sf :=
   (jJ)
def rJ:List D->Option D:=fnF 1 eG
def gE:Ef:=(oY (vIf (qV (eB2 gNe (wS (eV 0)) (eC (.int 4))) (qV (eB2 gNe (eIx (eV 0) (eC (.int 0))) (eC (.str "curve"))) (oQ (tB1 (zI 1 jZ (zY (eIx (eV 0) (eC (.int 1))) zS)))))) (uD "BadRow" ["row"] 1 xX (zY (eC (.int 1)) zS)) nU) (sIf (qV (eB2 gNe (wS (eV 0)) (eC (.int 4))) (qV (eB2 gNe (eIx (eV 0) (eC (.int 0))) (eC (.str "curve"))) (oQ (tB1 (zI 1 jZ (zY (eIx (eV 0) (eC (.int 1))) zS)))))) (fun _=>none) vY) (vIf (qV (zVU false [("joined",.bl true),("loose",.bl false)] (eIx (eV 0) (eC (.int 2)))) (zVU false [("2",.int 2),("3",.int 3)] (eIx (eV 0) (eC (.int 3))))) (uD "BadRow" ["row"] 1 xX (zY (eC (.int 1)) zS)) nU))
def vG:List D->Option D:=fnV 1 gE
theorem mY (T:Txt w K mg):FnOk P w K mg base (CXv P w) 3 T.q11.f T.q11.fd ["words"] (spV K 1 rJ vG) :=
 fL (N:=["words"]) (ps:=["words"]) (k:=2) (body:=eG) (xb:=gE) T.q11.F zXN (fun cdv A outer s H E hr =>
   (zT jJ rfl (yB (jU (vM (zA jI (xM rfl T.z_len (zV 0)) zX) (vM (zA jI (y0 (zV 0) zX) zP) (vZ (mL (wG (vC (iZ T) hr (zZ (y0 (zV 0) zX) zW)))))))) (zR vR) yP)
     (zT jO rfl (yB (jU (vM (kE T.dc_PROMISES rfl T.c_PROMISES (y0 (zV 0) zX)) (vZ (kE T.dc_DIMS rfl T.c_DIMS (y0 (zV 0) zX))))) (zR vR) yP)
     (zR (yN (zK (zZ (y0 (zV 0) zX) (zZ (zR7 T.dc_PROMISES rfl T.c_PROMISES (y0 (zV 0) zX)) (zZ (zR7 T.dc_DIMS rfl T.c_DIMS (y0 (zV 0) zX)) zW)))))))))
   (fun cdv A outer s H E hr=>(uC (dR (jU (vM (zA jI (xM rfl T.z_len (zV 0)) zX) (vM (zA jI (y0 (zV 0) zX) zP) (vZ (mL (wG (vC (iZ T) hr (zZ (y0 (zV 0) zX) zW)))))))) (uP (rE T.ca_BadRow T.xm_BadRow (rP T) rfl (hr.mono (by omega)) T.mc_BadRow T.bi_TextError rfl rfl mT (zZ zX zW))) lJ) (PFS.nox (yB (jU (vM (zA jI (xM rfl T.z_len (zV 0)) zX) (vM (zA jI (y0 (zV 0) zX) zP) (vZ (mL (wG (vC (iZ T) hr (zZ (y0 (zV 0) zX) zW)))))))) (zR vR) yP)) (uP (dR (jU (vM (kE T.dc_PROMISES rfl T.c_PROMISES (y0 (zV 0) zX)) (vZ (kE T.dc_DIMS rfl T.c_DIMS (y0 (zV 0) zX))))) (uP (rE T.ca_BadRow T.xm_BadRow (rP T) rfl (hr.mono (by omega)) T.mc_BadRow T.bi_TextError rfl rfl mT (zZ zX zW))) lJ))))
theorem zWN:FnScope ["rows","row"] ["rows","row"] (zU iJ):=wY (by decide +kernel)
def gJ:Sf:=(xA (eL (vV (eIx (eV 0) (cX (eV 1) (eC (.int 1)))) (eC (.str " ")))))
def qQ:Sf:=(zF (sIf (eB2 gGt (eV 1) (wS (eV 0))) (fun _=>none) vY)
   (gJ))
def aL:Sf :=
   (qQ)
def yA:List D->Option D:=fnF 2 aL
def tZ:Ef:=(vIf (eB2 gGt (eV 1) (wS (eV 0))) (uD "BadRow" ["row"] 1 xX (zY (eV 1) zS)) nU)
def wI:List D->Option D:=fnV 2 tZ
theorem wM (T:Txt w K mg):FnOk P w K mg base (CXv P w) 3 T.q12.f T.q12.fd ["rows","row"] (spV K 2 yA wI) :=
 fL (N:=["rows","row"]) (ps:=["rows","row"]) (k:=2) (body:=aL) (xb:=tZ) T.q12.F zWN (fun cdv A outer s H E hr =>
   (zT qQ rfl (yB (zA zZP (zV 1) (xM rfl T.z_len (zV 0))) (zR vR) yP)
     (zR (yN (xB (kL (uT Qn Rr Rt nG (y0 (zV 0) (bZ (zV 1) zX)) (zC zP yJ))))))))
   (fun cdv A outer s H E hr=>(uP (dR (zA zZP (zV 1) (xM rfl T.z_len (zV 0))) (uP (rE T.ca_BadRow T.xm_BadRow (rP T) rfl (hr.mono (by omega)) T.mc_BadRow T.bi_TextError rfl rfl mT (zZ (zV 1) zW))) lJ)))
theorem iD:FnScope ["text","dims","bits"] ["text","dims"] (zU oS):=wY (by decide +kernel)
def zZb:Sf:=(xA (tM (eV 2)))
def jF:Sf:=(zF (dB 2 (sIf (qV (eB2 gNe (wS (eV 2)) (eV 1)) (eB2 zRR (zQN (eC (.int 1))) (eV 2))) (xA (eC .non)) vY))
   (zZb))
def jB:Sf:=(zF (qZ 2 (xH (iS (eV 0)) 1 [] (gN 0) tOK (zWo (eC (.str "01")) (eV 0))))
   (jF))
def zWj:Sf :=
   (jB)
def wX:List D->Option D:=fnF 3 zWj
theorem iC (T:Txt w K mg):OkT P w base T.q13 1 2 wX :=
 rC (k:=0) T.q13.F iD fun cdv A outer s H E hr =>
   (zT jB rfl (iV (zU oS) ["text","dims","bits"] ["sign"] [] [] (mH 0) 2 iD.nd rfl rfl (zQZ (zV 0)) rfl rfl rfl (by decide +kernel) (fun _ _ _ _=>(wP 0 (show(List.Nodup (α:=PySem.Str) ["sign"]) from by decide +kernel))) (fun _ _ _ _=>xD) (fun _ _ _ _=>(zXJ (uT Qn Ua Us zXK (cJ rfl T.c_BITS) (zC (zV 0) yJ)))))
     (zT jF rfl (oF 2 (yB (jU (vM (zA jI (xM rfl T.z_len (zV 2)) (zV 1)) (vZ (zA zS6 (zSP zX) (zV 2))))) (zR (yN tO)) yP))
     (zR (yN (nP rfl T.z_tuple (zV 2))))))
theorem iN:FnScope ["text","dims","flips","axes"] ["text","dims"] (zU nO):=wY (by decide +kernel)
def zWl:Sf:=(xA (zXO (eV 3) (eV 2)))
def eO:Sf:=(zF (dB 2 (dB 3 (sIf (qV (eB2 zRR (zQN (eC (.int 1))) (eV 2)) (eB2 dA (eL (zXT (iL (eV 3)))) (eL (zVE (eV 1))))) (xA (eC .non)) vY)))
   (zWl))
def dY:Sf:=(zF (qZ 3 (xH (iS (zVa (eV 0) (eC (.int 1)) (eC (.int 2)))) 1 [] (gN 0) tOK (zWo (eC (.str "xyz")) (eV 0))))
   (eO))
def eB:Sf:=(zF (qZ 2 (xH (iS (zVa (eV 0) (eC (.int 0)) (eC (.int 2)))) 1 [] (gN 0) tOK (zWo (eC (.str "+-")) (eV 0))))
   (dY))
def dM:Sf:=(zF (sIf (eB2 dA (wS (eV 0)) (zXx (eC (.int 2)) (eV 1))) (xA (eC .non)) vY)
   (eB))
def zT9:Sf :=
   (dM)
def vP:List D->Option D:=fnF 4 zT9
theorem zZK (T:Txt w K mg):OkT P w base T.q14 1 2 vP :=
 rC (k:=0) T.q14.F iN fun cdv A outer s H E hr =>
   (zT dM rfl (yB (zA (kX hr) (xM rfl T.z_len (zV 0)) (fQ zX (zV 1))) (zR (yN tO)) yP)
     (zT eB rfl (iV (zU nO) ["text","dims","flips","axes"] ["sign"] [] [] (mH 0) 2 iN.nd rfl rfl (zQZ (zW9 (zV 0) zX zX)) rfl rfl rfl (by decide +kernel) (fun _ _ _ _=>(wP 0 (show(List.Nodup (α:=PySem.Str) ["sign"]) from by decide +kernel))) (fun _ _ _ _=>xD) (fun _ _ _ _=>(zXJ (uT Qn Ua Us zXK (cJ rfl T.c_FLIPS) (zC (zV 0) yJ)))))
     (zT dY rfl (iV (zU nO) ["text","dims","flips","axes"] ["letter"] [] [] (mH 0) 3 iN.nd rfl rfl (zQZ (zW9 (zV 0) zX zX)) rfl rfl rfl (by decide +kernel) (fun _ _ _ _=>(wP 0 (show(List.Nodup (α:=PySem.Str) ["letter"]) from by decide +kernel))) (fun _ _ _ _=>xD) (fun _ _ _ _=>(zXJ (uT Qn Ua Us zXK (cJ rfl T.c_AXES) (zC (zV 0) yJ)))))
     (zT eO rfl (oF 2 (oF 3 (yB (jU (vM (zA zS6 (zSP zX) (zV 2)) (vZ (zA (kX hr) (xB (zTM rfl T.z_sorted (sO (zV 3)))) (xB (zRu rfl rfl T.z_list rfl T.z_range (zV 1))))))) (zR (yN tO)) yP)))
     (zR (yN (zTJ rfl rfl T.z_tuple rfl T.z_zip (zV 3) (zV 2))))))))
theorem vU:FnScope ["words","dims","row","back","corner","turn"] ["words","dims","row"] (zU lG):=wY (by decide +kernel)
def zZu:Sf:=(xA (zZV "Part" ["corner","turn","back"] 3 zU4 (zY (eV 4) (zY (eV 5) (zY (eV 3) zS)))))
def oA:Sf:=(zF (sIf (qV (eB2 zZi (eV 4) (eC .non)) (eB2 zZi (eV 5) (eC .non))) (fun _=>none) vY)
   (zZu))
def nY:Sf:=(zF (yH 5 (zI 2 vP (zY (eIx (eV 0) (eC (.int 2))) (zY (eV 1) zS))))
   (oA))
def nW:Sf:=(zF (yH 4 (zI 2 wX (zY (eIx (eV 0) (eC (.int 1))) (zY (eV 1) zS))))
   (nY))
def oE:Sf:=(zF (sIf (qV (eB2 dA (eIx (eV 0) (eC (.int 0))) (eC (.str "part"))) (eB2 dA (wS (eV 0)) (eIf (tB1 (eV 3)) (eC (.int 4)) (eC (.int 3))))) (fun _=>none) vY)
   (nW))
def rM:Sf:=(zF (yH 3 (qO (eB2 zRc (eL (xI (eV 0) (xW (eC (.int 3))) oNo)) (eL (yM (zY (eC (.str "back")) zS))))))
   (oE))
def dP:Sf :=
   (rM)
def vD:List D->Option D:=fnF 6 dP
def qI:Ef:=(oY nU (yH 3 (qO (eB2 zRc (eL (xI (eV 0) (xW (eC (.int 3))) oNo)) (eL (yM (zY (eC (.str "back")) zS)))))) (oY (vIf (qV (eB2 dA (eIx (eV 0) (eC (.int 0))) (eC (.str "part"))) (eB2 dA (wS (eV 0)) (eIf (tB1 (eV 3)) (eC (.int 4)) (eC (.int 3))))) (uD "BadRow" ["row"] 1 xX (zY (eV 2) zS)) nU) (sIf (qV (eB2 dA (eIx (eV 0) (eC (.int 0))) (eC (.str "part"))) (eB2 dA (wS (eV 0)) (eIf (tB1 (eV 3)) (eC (.int 4)) (eC (.int 3))))) (fun _=>none) vY) (oY nU (yH 4 (zI 2 wX (zY (eIx (eV 0) (eC (.int 1))) (zY (eV 1) zS)))) (oY nU (yH 5 (zI 2 vP (zY (eIx (eV 0) (eC (.int 2))) (zY (eV 1) zS)))) (vIf (qV (eB2 zZi (eV 4) (eC .non)) (eB2 zZi (eV 5) (eC .non))) (uD "BadRow" ["row"] 1 xX (zY (eV 2) zS)) nU)))))
def yO:List D->Option D:=fnV 6 qI
theorem qL (T:Txt w K mg):FnOk P w K mg base (CXv P w) 3 T.q15.f T.q15.fd ["words","dims","row"] (spV K 3 vD yO) :=
 fL (N:=["words","dims","row","back","corner","turn"]) (ps:=["words","dims","row"]) (k:=2) (body:=dP) (xb:=qI) T.q15.F vU (fun cdv A outer s H E hr =>
   (zT rM rfl (zM 3 vU.nd (oK (zSg hr) (xB (wC (zV 0) (uS zX) tX)) (xB (yQ (zZ zP zW)))))
     (zT oE rfl (yB (jU (vM (zA (kX hr) (y0 (zV 0) zX) zP) (vZ (zA (kX hr) (xM rfl T.z_len (zV 0)) (zW0 (wG (zV 3)) zX zX))))) (zR vR) yP)
     (zT nW rfl (zM 4 vU.nd (vC (iC T) hr (zZ (y0 (zV 0) zX) (zZ (zV 1) zW))))
     (zT nY rfl (zM 5 vU.nd (vC (zZK T) hr (zZ (y0 (zV 0) zX) (zZ (zV 1) zW))))
     (zT oA rfl (yB (jU (vM (zA zYn (zV 4) tO) (vZ (zA zYn (zV 5) tO)))) (zR vR) yP)
     (zR (yN (zU1 T.ca_Part T.mk_Part (zRD T) (hr.mono (by omega)) T.mc_Part T.bi_Part rfl (zZ (zV 4) (zZ (zV 5) (zZ (zV 3) zW))))))))))))
   (fun cdv A outer s H E hr=>(uC fX (PFS.nox (zM 3 vU.nd (oK (zSg hr) (xB (wC (zV 0) (uS zX) tX)) (xB (yQ (zZ zP zW)))))) (uC (dR (jU (vM (zA (kX hr) (y0 (zV 0) zX) zP) (vZ (zA (kX hr) (xM rfl T.z_len (zV 0)) (zW0 (wG (zV 3)) zX zX))))) (uP (rE T.ca_BadRow T.xm_BadRow (rP T) rfl (hr.mono (by omega)) T.mc_BadRow T.bi_TextError rfl rfl mT (zZ (zV 2) zW))) lJ) (PFS.nox (yB (jU (vM (zA (kX hr) (y0 (zV 0) zX) zP) (vZ (zA (kX hr) (xM rfl T.z_len (zV 0)) (zW0 (wG (zV 3)) zX zX))))) (zR vR) yP)) (uC fX (PFS.nox (zM 4 vU.nd (vC (iC T) hr (zZ (y0 (zV 0) zX) (zZ (zV 1) zW))))) (uC fX (PFS.nox (zM 5 vU.nd (vC (zZK T) hr (zZ (y0 (zV 0) zX) (zZ (zV 1) zW))))) (uP (dR (jU (vM (zA zYn (zV 4) tO) (vZ (zA zYn (zV 5) tO)))) (uP (rE T.ca_BadRow T.xm_BadRow (rP T) rfl (hr.mono (by omega)) T.mc_BadRow T.bi_TextError rfl rfl mT (zZ (zV 2) zW))) lJ)))))))
theorem cV:FnScope ["dims","level","places","halving"] ["dims","level"] (zU zWa):=wY (by decide +kernel)
def zTW:Sf:=(yH 2 (zXx (eV 2) (eC (.int 2))))
def zSi:Sf:=(xA (eV 2))
def zWu:Sf:=(zF (gG (iR (zXx (eV 0) (eV 1))) (gN 3) (zTW))
   (zSi))
def zWr:Sf:=(zF (yH 2 (eC (.int 1)))
   (zWu))
def zOm:Sf :=
   (zWr)
def fF:List D->Option D:=fnF 4 zOm
theorem zUU (T:Txt w K mg):OkT P w base T.q16 1 2 fF :=
 rC (k:=0) T.q16.F cV fun cdv A outer s H E hr =>
   (zT zWr rfl (zM 2 cV.nd zX)
     (zT zWu rfl (kA Rm rfl (zQv rfl T.z_range (fQ (zV 0) (zV 1))) (wP 3 cV.nd) (zR (zM 2 cV.nd (fQ (zV 2) zX))))
     (zR (yN (zV 2)))))
theorem yZ:FnScope ["rows","name","joined","dims","parts","seen","row","part"] ["rows"] (zU lY):=wY (by decide +kernel)
def lN:Sf:=(cC 4 (eV 7))
def uG:Sf:=(zF (zUo 5 (pM "Part" "corner" (eV 7)) (eC (.bl true)))
   (lN))
def uH:Sf:=(zF (sIf (zWs 5 (pM "Part" "corner" (eV 7))) (fun _=>none) vY)
   (uG))
def yD:Sf:=(zF (yH 7 (zI 3 vD (zY (zI 2 yA (zY (eV 0) (zY (eV 6) zS))) (zY (eV 3) (zY (eV 6) zS)))))
   (uH))
def zZQ:Sf:=(dB 4 (xA (zZV "Curve" ["name","dims","joined","parts"] 4 gF (zY (eV 1) (zY (eV 3) (zY (eV 2) (zY (eV 4) zS)))))))
def pY:Sf:=(zF (gG (iR2 (eC (.int 2)) (tU (eC (.int 2)) (zI 2 fF (zY (eV 3) (zY (eC (.int 1)) zS))))) (gN 6) (yD))
   (zZQ))
def pS:Sf:=(zF (zSj 5)
   (pY))
def pZ:Sf:=(zF (qZ 4 (yM zS))
   (pS))
def sZ:Sf:=(zF (bC (zI 1 rJ (zY (zI 2 yA (zY (eV 0) (zY (eC (.int 1)) zS))) zS)) (gT (zB (gN 1) (zB (gN 2) (zB (gN 3) wR)))))
   (pZ))
def hV:Sf :=
   (sZ)
def vA:List D->Option D:=fnF 8 hV
def wV:Ef:=(oY (vOr (zI 2 wI (zY (eV 0) (zY (eC (.int 1)) zS))) (zI 1 vG (zY (zI 2 yA (zY (eV 0) (zY (eC (.int 1)) zS))) zS))) (bC (zI 1 rJ (zY (zI 2 yA (zY (eV 0) (zY (eC (.int 1)) zS))) zS)) (gT (zB (gN 1) (zB (gN 2) (zB (gN 3) wR))))) (oY nU (qZ 4 (yM zS)) (oY nU (zSj 5) (zSX (iR2 (eC (.int 2)) (tU (eC (.int 2)) (zI 2 fF (zY (eV 3) (zY (eC (.int 1)) zS))))) (gN 6) (yD) (oY (vOr (zI 2 wI (zY (eV 0) (zY (eV 6) zS))) (zI 3 yO (zY (zI 2 yA (zY (eV 0) (zY (eV 6) zS))) (zY (eV 3) (zY (eV 6) zS))))) (yH 7 (zI 3 vD (zY (zI 2 yA (zY (eV 0) (zY (eV 6) zS))) (zY (eV 3) (zY (eV 6) zS))))) (vIf (zWs 5 (pM "Part" "corner" (eV 7))) (uD "CornerTwice" ["row"] 1 xX (zY (eV 6) zS)) nU))))))
def xZ:List D->Option D:=fnV 8 wV
theorem uM (T:Txt w K mg):FnOk P w K mg base (CXv P w) 4 T.q17.f T.q17.fd ["rows"] (spV K 1 vA xZ) :=
 fL (N:=["rows","name","joined","dims","parts","seen","row","part"]) (ps:=["rows"]) (k:=3) (body:=hV) (xb:=wV) T.q17.F yZ (fun cdv A outer s H E hr =>
   (zT sZ rfl (gB (xO (mY T) (hr.mono (by omega)) T.q11.m T.q11.F.kp T.q11.b rfl (zZ (xO (wM T) (hr.mono (by omega)) T.q12.m T.q12.F.kp T.q12.b rfl (zZ (zV 0) (zZ zX zW))) zW)) (fO 3 rfl (yV (wP 1 yZ.nd) (yV (wP 2 yZ.nd) (yV (wP 3 yZ.nd) wD))) (yE (yE (yE uV)))))
     (zT pZ rfl (tR 4 yZ.nd (yQ zW))
     (zT pS rfl (zUF 5 yZ.nd)
     (zT pY rfl (kA Rm rfl (zPG rfl T.z_range zX (vX zX (vC (zUU T) hr (zZ (zV 3) (zZ zX zW))))) (wP 6 yZ.nd) (zT yD rfl (zM 7 yZ.nd (xO (qL T) (hr.mono (by omega)) T.q15.m T.q15.F.kp T.q15.b rfl (zZ (xO (wM T) (hr.mono (by omega)) T.q12.m T.q12.F.kp T.q12.b rfl (zZ (zV 0) (zZ (zV 6) zW))) (zZ (zV 3) (zZ (zV 6) zW)))))
     (zT uH rfl (yB (zVF 5 hr (oJ T.ca_Part T.cl_Part T.n_Part_corner (zV 7))) (zR vR) yP)
     (zT uG rfl (zUh 5 hr nB (oJ T.ca_Part T.cl_Part T.n_Part_corner (zV 7)))
     (zR (zZO 4 (uT Em Rf Rg qF (pv 4) (zC (zV 7) yJ))))))))
     (zR (oF 4 (yN (zU1 T.ca_Curve T.mk_Curve (zTi T) (hr.mono (by omega)) T.mc_Curve T.bi_Curve rfl (zZ (zV 1) (zZ (zV 3) (zZ (zV 2) (zZ (zV 4) zW)))))))))))))
   (fun cdv A outer s H E hr=>(uC (zOx (zWC (mY T) cL (hr.mono (by omega)) T.q11.m T.q11.F.kp T.q11.b rfl (gS (wM T) cL (hr.mono (by omega)) T.q12.m T.q12.F.kp T.q12.b rfl (zZ (zV 0) (zZ zX zW))) zW (zZ (xO (wM T) (hr.mono (by omega)) T.q12.m T.q12.F.kp T.q12.b rfl (zZ (zV 0) (zZ zX zW))) zW)) (fO 3 rfl (yV (wP 1 yZ.nd) (yV (wP 2 yZ.nd) (yV (wP 3 yZ.nd) wD))) (yE (yE (yE uV))))) (PFS.nox (gB (xO (mY T) (hr.mono (by omega)) T.q11.m T.q11.F.kp T.q11.b rfl (zZ (xO (wM T) (hr.mono (by omega)) T.q12.m T.q12.F.kp T.q12.b rfl (zZ (zV 0) (zZ zX zW))) zW)) (fO 3 rfl (yV (wP 1 yZ.nd) (yV (wP 2 yZ.nd) (yV (wP 3 yZ.nd) wD))) (yE (yE (yE uV)))))) (uC fX (PFS.nox (tR 4 yZ.nd (yQ zW))) (uC fX (PFS.nox (zUF 5 yZ.nd)) (uP (zPp rfl (zPG rfl T.z_range zX (vX zX (vC (zUU T) hr (zZ (zV 3) (zZ zX zW))))) (wP 6 yZ.nd) (zT yD rfl (zM 7 yZ.nd (xO (qL T) (hr.mono (by omega)) T.q15.m T.q15.F.kp T.q15.b rfl (zZ (xO (wM T) (hr.mono (by omega)) T.q12.m T.q12.F.kp T.q12.b rfl (zZ (zV 0) (zZ (zV 6) zW))) (zZ (zV 3) (zZ (zV 6) zW)))))
     (zT uH rfl (yB (zVF 5 hr (oJ T.ca_Part T.cl_Part T.n_Part_corner (zV 7))) (zR vR) yP)
     (zT uG rfl (zUh 5 hr nB (oJ T.ca_Part T.cl_Part T.n_Part_corner (zV 7)))
     (zR (zZO 4 (uT Em Rf Rg qF (pv 4) (zC (zV 7) yJ))))))) (uC (zSs 7 yZ.nd (zWC (qL T) zUD (hr.mono (by omega)) T.q15.m T.q15.F.kp T.q15.b rfl (gS (wM T) zUD (hr.mono (by omega)) T.q12.m T.q12.F.kp T.q12.b rfl (zZ (zV 0) (zZ (zV 6) zW))) (zZ (zV 3) (zZ (zV 6) zW)) (zZ (xO (wM T) (hr.mono (by omega)) T.q12.m T.q12.F.kp T.q12.b rfl (zZ (zV 0) (zZ (zV 6) zW))) (zZ (zV 3) (zZ (zV 6) zW))))) (PFS.nox (zM 7 yZ.nd (xO (qL T) (hr.mono (by omega)) T.q15.m T.q15.F.kp T.q15.b rfl (zZ (xO (wM T) (hr.mono (by omega)) T.q12.m T.q12.F.kp T.q12.b rfl (zZ (zV 0) (zZ (zV 6) zW))) (zZ (zV 3) (zZ (zV 6) zW)))))) (uP (dR (zVF 5 hr (oJ T.ca_Part T.cl_Part T.n_Part_corner (zV 7))) (uP (rE T.ca_CornerTwice T.xm_CornerTwice (dH T) rfl (hr.mono (by omega)) T.mc_CornerTwice T.bi_TextError rfl rfl zUA (zZ (zV 6) zW))) lJ)))))))))
def mP:List D->Option D:=fun _=>none
theorem jN (T:Txt w K mg):OkT P w base T.q18 1 1 mP:=zSV
theorem rX:FnScope ["curve","unmet","first","level"] ["curve"] (zU cD):=wY (by decide +kernel)
def zV9:Sf:=(xA (eV 0))
def aU:Sf:=(zF (sIf (eB2 zZA (eV 1) (eC .non)) (zF (bC (eV 1) (gT (zB (gN 2) (zB (gN 3) wR))))
   (fun _=>none)) vY)
   (zV9))
def bU:Sf:=(zF (yH 1 (eIf (tB1 (pM "Curve" "joined" (eV 0))) (zI 1 mP (zY (eV 0) zS)) (eC .non)))
   (aU))
def zXn:Sf :=
   (bU)
def zWi:List D->Option D:=fnF 4 zXn
def zYW:Ef:=(oY nU (yH 1 (eIf (tB1 (pM "Curve" "joined" (eV 0))) (zI 1 mP (zY (eV 0) zS)) (eC .non))) (vIf (eB2 zZA (eV 1) (eC .non)) (oY nU (bC (eV 1) (gT (zB (gN 2) (zB (gN 3) wR)))) (uD "Unmet" ["first","second","level"] 3 zWB (zY (eV 2) (zY (tU (eV 2) (eC (.int 1))) (zY (eV 3) zS))))) nU))
def zW4:List D->Option D:=fnV 4 zYW
theorem zYL (T:Txt w K mg):FnOk P w K mg base (CXv P w) 3 T.q19.f T.q19.fd ["curve"] (spV K 1 zWi zW4) :=
 fL (N:=["curve","unmet","first","level"]) (ps:=["curve"]) (k:=2) (body:=zXn) (xb:=zYW) T.q19.F rX (fun cdv A outer s H E hr =>
   (zT bU rfl (zM 1 rX.nd (zW0 (wG (oJ T.ca_Curve T.cl_Curve T.n_Curve_joined (zV 0))) (vC (jN T) hr (zZ (zV 0) zW)) tO))
     (zT aU rfl (yB (zA zZW (zV 1) tO) (tY (gB (zV 1) (fO 2 rfl (yV (wP 2 rX.nd) (yV (wP 3 rX.nd) wD)) (yE (yE uV))))
     (zR vR)) yP)
     (zR (yN (zV 0))))))
   (fun cdv A outer s H E hr=>(uC fX (PFS.nox (zM 1 rX.nd (zW0 (wG (oJ T.ca_Curve T.cl_Curve T.n_Curve_joined (zV 0))) (vC (jN T) hr (zZ (zV 0) zW)) tO))) (uP (dR (zA zZW (zV 1) tO) (uC fX (PFS.nox (gB (zV 1) (fO 2 rfl (yV (wP 2 rX.nd) (yV (wP 3 rX.nd) wD)) (yE (yE uV))))) (uP (rE T.ca_Unmet T.xm_Unmet (zTT T) rfl (hr.mono (by omega)) T.mc_Unmet T.bi_Unmet rfl rfl mT (zZ (zV 2) (zZ (vX (zV 2) zX) (zZ (zV 3) zW)))))) lJ))))
theorem w8:FnScope ["text","rows","curve","told"] ["text"] (zU iO):=wY (by decide +kernel)
def iI:Sf:=(xA (zI 1 zWi (zY (eV 2) zS)))
def mF:Sf:=(zF (sIf (eB2 gGt (wS (eV 1)) (eV 3)) (fun _=>none) vY)
   (iI))
def lW:Sf:=(zF (yH 3 (tU (eC (.int 1)) (wS (pM "Curve" "parts" (eV 2)))))
   (mF))
def mN:Sf:=(zF (yH 2 (zI 1 vA (zY (eV 1) zS)))
   (lW))
def qR:Sf:=(zF (yH 1 (eL (vV (eV 0) (eC (.str "\n")))))
   (mN))
def bF:Sf :=
   (qR)
def mC:List D->Option D:=fnF 4 bF
def uA:Ef:=(oY nU (yH 1 (eL (vV (eV 0) (eC (.str "\n"))))) (oY (zI 1 xZ (zY (eV 1) zS)) (yH 2 (zI 1 vA (zY (eV 1) zS))) (oY nU (yH 3 (tU (eC (.int 1)) (wS (pM "Curve" "parts" (eV 2))))) (oY (vIf (eB2 gGt (wS (eV 1)) (eV 3)) (uD "BadRow" ["row"] 1 xX (zY (tU (eV 3) (eC (.int 1))) zS)) nU) (sIf (eB2 gGt (wS (eV 1)) (eV 3)) (fun _=>none) vY) (zI 1 zW4 (zY (eV 2) zS))))))
def sC:List D->Option D:=fnV 4 uA
theorem lD (T:Txt w K mg):FnOk P w K mg base (CXv P w) 5 T.q20.f T.q20.fd ["text"] (spV K 1 mC sC) :=
 fL (N:=["text","rows","curve","told"]) (ps:=["text"]) (k:=4) (body:=bF) (xb:=uA) T.q20.F w8 (fun cdv A outer s H E hr =>
   (zT qR rfl (zM 1 w8.nd (xB (kL (uT Qn Rr Rt nG (zV 0) (zC zP yJ)))))
     (zT mN rfl (zM 2 w8.nd (xO (uM T) (hr.mono (by omega)) T.q17.m T.q17.F.kp T.q17.b rfl (zZ (zV 1) zW)))
     (zT lW rfl (zM 3 w8.nd (vX zX (xM rfl T.z_len (oJ T.ca_Curve T.cl_Curve T.n_Curve_parts (zV 2)))))
     (zT mF rfl (yB (zA zZP (xM rfl T.z_len (zV 1)) (zV 3)) (zR vR) yP)
     (zR (yN (xO (zYL T) (hr.mono (by omega)) T.q19.m T.q19.F.kp T.q19.b rfl (zZ (zV 2) zW)))))))))
   (fun cdv A outer s H E hr=>(uC fX (PFS.nox (zM 1 w8.nd (xB (kL (uT Qn Rr Rt nG (zV 0) (zC zP yJ)))))) (uC (zSs 2 w8.nd (gS (uM T) cL (hr.mono (by omega)) T.q17.m T.q17.F.kp T.q17.b rfl (zZ (zV 1) zW))) (PFS.nox (zM 2 w8.nd (xO (uM T) (hr.mono (by omega)) T.q17.m T.q17.F.kp T.q17.b rfl (zZ (zV 1) zW)))) (uC fX (PFS.nox (zM 3 w8.nd (vX zX (xM rfl T.z_len (oJ T.ca_Curve T.cl_Curve T.n_Curve_parts (zV 2)))))) (uC (dR (zA zZP (xM rfl T.z_len (zV 1)) (zV 3)) (uP (rE T.ca_BadRow T.xm_BadRow (rP T) rfl (hr.mono (by omega)) T.mc_BadRow T.bi_TextError rfl rfl mT (zZ (vX (zV 3) zX) zW))) lJ) (PFS.nox (yB (zA zZP (xM rfl T.z_len (zV 1)) (zV 3)) (zR vR) yP)) (uP (zOw (gS (zYL T) cL (hr.mono (by omega)) T.q19.m T.q19.F.kp T.q19.b rfl (zZ (zV 2) zW)))))))))
theorem rL:FnScope ["_law_rows_here","_law_whole","_law_caught_here","e"] ["_law_rows_here","_law_whole"] (zU mB):=wY (by decide +kernel)
def bG:Sf:=(xA (eV 2))
def tG:Sf:=(zF (zWM ["BadRow","CornerTwice","Unmet"] (vIf (tB1 (eV 1)) (zI 1 sC (zY (uR (eC (.str "\n")) (iL (eV 0))) zS)) (zI 1 xZ (zY (eV 0) zS))) (sIf (tB1 (eV 1)) (zXd (zI 1 mC (zY (uR (eC (.str "\n")) (iL (eV 0))) zS))) (zXd (zI 1 vA (zY (eV 0) zS)))) 3 (yH 2 (eV 3)))
   (bG))
def w9:Sf:=(zF (yH 2 (eC .non))
   (tG))
def zYb:Sf :=
   (w9)
def vW:List D->Option D:=fnF 4 zYb
theorem jC (T:Txt w K mg):OkT P w base T.q21 6 2 vW :=
 rC (k:=5) T.q21.F rL fun cdv A outer s H E hr =>
   (zT w9 rfl (zM 2 rL.nd tO)
     (zT tG rfl (zQB (i:=3) (zZn T) (zPq zOQ (wG (zV 1)) (zW8 (zWY zOQ (lD T) (hr.mono (by omega)) T.q20.m T.q20.F.kp T.q20.b rfl (zZ (oR (uT Qn Ej Ek oO zP (zC (sO (zV 0)) yJ))) zW))) (zW8 (zWY zOQ (uM T) (hr.mono (by omega)) T.q17.m T.q17.F.kp T.q17.b rfl (zZ (zV 0) zW)))) (yB (wG (zV 1)) (zR (zXv (xO (lD T) (hr.mono (by omega)) T.q20.m T.q20.F.kp T.q20.b rfl (zZ (oR (uT Qn Ej Ek oO zP (zC (sO (zV 0)) yJ))) zW)))) (zR (zXv (xO (uM T) (hr.mono (by omega)) T.q17.m T.q17.F.kp T.q17.b rfl (zZ (zV 0) zW))))) rfl rfl rfl T.mc_YardError rL.nd (fun _=>(zR (zM 2 rL.nd (zV 3)))))
     (zR (yN (zV 2)))))
theorem vF:FnScope ["_law_dims","_law_plain","_law_parts"] ["_law_dims"] (zU iX):=wY (by decide +kernel)
def zYf:Sf:=(dB 2 (zRs (vI (iL (eV 2)) (yM (zY (yL (zY (yL (zY (eC (.int 1)) (zY (eC (.int 0)) (zY (eC (.int 0)) zS)))) (zY (yL (zY (yL (zY (eC (.int 1)) (zY (eC (.int 1)) zS))) (zY (yL (zY (eC (.int 0)) (zY (eC (.int 1)) zS))) (zY (yL (zY (eC (.int 2)) (zY (eC (.int 0)) zS))) zS)))) zS))) zS)))))
def fY:Sf:=(zF (dB 2 (qZ 2 (vI (iL (eV 2)) (yM (zY (yL (zY (yL (zY (eC (.int 1)) (zY (eC (.int 1)) (zY (eC (.int 1)) zS)))) (zY (eV 1) zS))) (zY (yL (zY (yL (zY (eC (.int 1)) (zY (eC (.int 1)) (zY (eC (.int 0)) zS)))) (zY (yL (zY (yL (zY (eC (.int 1)) (zY (eC (.int 1)) zS))) (zY (yL (zY (eC (.int 2)) (zY (eC (.int 0)) zS))) (zY (yL (zY (eC (.int 0)) (zY (eC (.int 1)) zS))) zS)))) zS))) zS))))))
   (zYf))
def gX:Sf:=(zF (dB 2 (qZ 2 (vI (iL (eV 2)) (yM (zY (yL (zY (yL (zY (eC (.int 0)) (zY (eC (.int 0)) (zY (eC (.int 1)) zS)))) (zY (yL (zY (yL (zY (eC (.int 1)) (zY (eC (.int 1)) zS))) (zY (yL (zY (eC (.int 2)) (zY (eC (.int 1)) zS))) (zY (yL (zY (eC (.int 0)) (zY (eC (.int 0)) zS))) zS)))) zS))) (zY (yL (zY (yL (zY (eC (.int 1)) (zY (eC (.int 0)) (zY (eC (.int 1)) zS)))) (zY (yL (zY (yL (zY (eC (.int 1)) (zY (eC (.int 0)) zS))) (zY (yL (zY (eC (.int 2)) (zY (eC (.int 1)) zS))) (zY (yL (zY (eC (.int 0)) (zY (eC (.int 1)) zS))) zS)))) zS))) zS))))))
   (fY))
def gU:Sf:=(zF (qZ 2 (yM (zY (yL (zY (yL (zY (eC (.int 0)) (zY (eC (.int 0)) (zY (eC (.int 0)) zS)))) (zY (yL (zY (yL (zY (eC (.int 1)) (zY (eC (.int 0)) zS))) (zY (yL (zY (eC (.int 0)) (zY (eC (.int 0)) zS))) (zY (yL (zY (eC (.int 2)) (zY (eC (.int 0)) zS))) zS)))) zS))) (zY (yL (zY (yL (zY (eC (.int 0)) (zY (eC (.int 1)) (zY (eC (.int 0)) zS)))) (zY (yL (zY (yL (zY (eC (.int 1)) (zY (eC (.int 0)) zS))) (zY (yL (zY (eC (.int 2)) (zY (eC (.int 0)) zS))) (zY (yL (zY (eC (.int 0)) (zY (eC (.int 0)) zS))) zS)))) zS))) (zY (yL (zY (yL (zY (eC (.int 0)) (zY (eC (.int 1)) (zY (eC (.int 1)) zS)))) (zY (eV 1) zS))) zS)))))
   (gX))
def hW:Sf:=(zF (yH 1 (yL (zY (yL (zY (eC (.int 0)) (zY (eC (.int 0)) zS))) (zY (yL (zY (eC (.int 1)) (zY (eC (.int 0)) zS))) (zY (yL (zY (eC (.int 2)) (zY (eC (.int 0)) zS))) zS)))))
   (gU))
def gO:Sf:=(zF (sIf (eB2 gEq (eV 0) (eC (.int 2))) (zF (yH 1 (yL (zY (yL (zY (eC (.int 0)) (zY (eC (.int 0)) zS))) (zY (yL (zY (eC (.int 1)) (zY (eC (.int 0)) zS))) zS))))
   (zF (qZ 2 (yM (zY (yL (zY (yL (zY (eC (.int 0)) (zY (eC (.int 0)) zS))) (zY (yL (zY (yL (zY (eC (.int 1)) (zY (eC (.int 0)) zS))) (zY (yL (zY (eC (.int 0)) (zY (eC (.int 0)) zS))) zS))) zS))) (zY (yL (zY (yL (zY (eC (.int 0)) (zY (eC (.int 1)) zS))) (zY (eV 1) zS))) (zY (yL (zY (yL (zY (eC (.int 1)) (zY (eC (.int 1)) zS))) (zY (eV 1) zS))) (zY (yL (zY (yL (zY (eC (.int 1)) (zY (eC (.int 0)) zS))) (zY (yL (zY (yL (zY (eC (.int 1)) (zY (eC (.int 1)) zS))) (zY (yL (zY (eC (.int 0)) (zY (eC (.int 1)) zS))) zS))) zS))) zS))))))
   (zZG 2))) vY)
   (hW))
def zVP:Sf :=
   (gO)
def jA:List D->Option (List D):=fnL 3 zVP
theorem zXa (T:Txt w K mg):zSF P w base T.q22 1 1 jA :=
 zZE (k:=0) T.q22.F vF fun cdv A outer s H E hr =>
   (zT gO rfl (yB (zA rB (zV 0) zX) (tY (zM 1 vF.nd (zK (zZ (zK (zZ zX (zZ zX zW))) (zZ (zK (zZ zX (zZ zX zW))) zW))))
     (tY (tR 2 vF.nd (yQ (zZ (zK (zZ (zK (zZ zX (zZ zX zW))) (zZ (zK (zZ (zK (zZ zX (zZ zX zW))) (zZ (zK (zZ zX (zZ zX zW))) zW))) zW))) (zZ (zK (zZ (zK (zZ zX (zZ zX zW))) (zZ (zV 1) zW))) (zZ (zK (zZ (zK (zZ zX (zZ zX zW))) (zZ (zV 1) zW))) (zZ (zK (zZ (zK (zZ zX (zZ zX zW))) (zZ (zK (zZ (zK (zZ zX (zZ zX zW))) (zZ (zK (zZ zX (zZ zX zW))) zW))) zW))) zW))))))
     (zR (iG 2)))) yP)
     (zT hW rfl (zM 1 vF.nd (zK (zZ (zK (zZ zX (zZ zX zW))) (zZ (zK (zZ zX (zZ zX zW))) (zZ (zK (zZ zX (zZ zX zW))) zW)))))
     (zT gU rfl (tR 2 vF.nd (yQ (zZ (zK (zZ (zK (zZ zX (zZ zX (zZ zX zW)))) (zZ (zK (zZ (zK (zZ zX (zZ zX zW))) (zZ (zK (zZ zX (zZ zX zW))) (zZ (zK (zZ zX (zZ zX zW))) zW)))) zW))) (zZ (zK (zZ (zK (zZ zX (zZ zX (zZ zX zW)))) (zZ (zK (zZ (zK (zZ zX (zZ zX zW))) (zZ (zK (zZ zX (zZ zX zW))) (zZ (zK (zZ zX (zZ zX zW))) zW)))) zW))) (zZ (zK (zZ (zK (zZ zX (zZ zX (zZ zX zW)))) (zZ (zV 1) zW))) zW)))))
     (zT gX rfl (oF 2 (tR 2 vF.nd (tJ (sO (zV 2)) (pQ (yQ (zZ (zK (zZ (zK (zZ zX (zZ zX (zZ zX zW)))) (zZ (zK (zZ (zK (zZ zX (zZ zX zW))) (zZ (zK (zZ zX (zZ zX zW))) (zZ (zK (zZ zX (zZ zX zW))) zW)))) zW))) (zZ (zK (zZ (zK (zZ zX (zZ zX (zZ zX zW)))) (zZ (zK (zZ (zK (zZ zX (zZ zX zW))) (zZ (zK (zZ zX (zZ zX zW))) (zZ (zK (zZ zX (zZ zX zW))) zW)))) zW))) zW)))))))
     (zT fY rfl (oF 2 (tR 2 vF.nd (tJ (sO (zV 2)) (pQ (yQ (zZ (zK (zZ (zK (zZ zX (zZ zX (zZ zX zW)))) (zZ (zV 1) zW))) (zZ (zK (zZ (zK (zZ zX (zZ zX (zZ zX zW)))) (zZ (zK (zZ (zK (zZ zX (zZ zX zW))) (zZ (zK (zZ zX (zZ zX zW))) (zZ (zK (zZ zX (zZ zX zW))) zW)))) zW))) zW)))))))
     (zR (oF 2 (zQ6 (tJ (sO (zV 2)) (pQ (yQ (zZ (zK (zZ (zK (zZ zX (zZ zX (zZ zX zW)))) (zZ (zK (zZ (zK (zZ zX (zZ zX zW))) (zZ (zK (zZ zX (zZ zX zW))) (zZ (zK (zZ zX (zZ zX zW))) zW)))) zW))) zW))))))))))))
theorem zXB:FnScope ["_law_one","_law_other"] ["_law_one","_law_other"] (zU oX):=wY (by decide +kernel)
def jT:Sf:=(xA (tM (eL (xH (iT (eV 0)) 2 [1] (gT (zB (gN 0) (zB (gN 1) wR))) tOK (yL (zY (eIx (eIx (eV 2) (eV 0)) (eC (.int 0))) (zY (zVY (eIx (eIx (eV 2) (eV 0)) (eC (.int 1))) (eV 1)) zS)))))))
def eH:Sf :=
   (jT)
def wL:List D->Option D:=fnF 2 eH
theorem tD (T:Txt w K mg):OkT P w base T.q23 1 2 wL :=
 rC (k:=0) T.q23.F zXB fun cdv A outer s H E hr =>
   (zR (yN (nP rfl T.z_tuple (xB (sU (zU oX) ["_law_one","_law_other"] ["_law_axis","_law_flip"] ["_law_other"] [1] (zSe (uJ (mH 0) (uJ (mH 1) gY))) (zQp (zV 0)) rfl rfl rfl (by decide +kernel) (fun _ _ _ _=>(fO 2 rfl (yV (wP 0 (show(List.Nodup (α:=PySem.Str) ["_law_axis","_law_flip","_law_other"]) from by decide +kernel)) (yV (wP 1 (show(List.Nodup (α:=PySem.Str) ["_law_axis","_law_flip","_law_other"]) from by decide +kernel)) wD)) (yE (yE uV)))) (fun _ _ _ _=>xD) (fun _ _ _ _=>(zK (zZ (y0 (y0 (zV 2) (zV 0)) zX) (zZ (zS7 (y0 (y0 (zV 2) (zV 0)) zX) (zV 1)) zW)))))))))
theorem oM:FnScope ["_law_turn_here","_law_back","_law_k"] ["_law_turn_here"] (zU mE):=wY (by decide +kernel)
def dE:Sf:=(zWQ 1 (eIx (eIx (eV 0) (eV 2)) (eC (.int 0))) (yL (zY (eV 2) (zY (eIx (eIx (eV 0) (eV 2)) (eC (.int 1))) zS))))
def bR:Sf:=(dB 1 (xA (tM (eV 1))))
def lH:Sf:=(zF (gG (iR (wS (eV 0))) (gN 2) (dE))
   (bR))
def lM:Sf:=(zF (qZ 1 (zOO (yM (zY (eC .non) zS)) (wS (eV 0))))
   (lH))
def zXy:Sf :=
   (lM)
def vB:List D->Option D:=fnF 3 zXy
theorem jP (T:Txt w K mg):OkT P w base T.q24 1 1 vB :=
 rC (k:=0) T.q24.F oM fun cdv A outer s H E hr =>
   (zT lM rfl (tR 1 oM.nd (zOU (yQ (zZ tO zW)) (xM rfl T.z_len (zV 0))))
     (zT lH rfl (kA Rm rfl (zQv rfl T.z_range (xM rfl T.z_len (zV 0))) (wP 2 oM.nd) (zR (zUS 1 (zK (zZ (zV 2) (zZ (y0 (y0 (zV 0) (zV 2)) zX) zW))) (y0 (y0 (zV 0) (zV 2)) zX))))
     (zR (oF 1 (yN (nP rfl T.z_tuple (zV 1)))))))
theorem zZa:FnScope ["_law_turn_here","_law_corner"] ["_law_turn_here","_law_corner"] (zU qN):=wY (by decide +kernel)
def lF:Sf:=(xA (tM (eL (xH (iT (eV 0)) 2 [1] (gT (zB (gN 0) (zB (gN 1) wR))) tOK (zVY (eIx (eV 2) (eV 0)) (eV 1))))))
def gM:Sf :=
   (lF)
def sJ:List D->Option D:=fnF 2 gM
theorem zZe (T:Txt w K mg):OkT P w base T.q25 1 2 sJ :=
 rC (k:=0) T.q25.F zZa fun cdv A outer s H E hr =>
   (zR (yN (nP rfl T.z_tuple (xB (sU (zU qN) ["_law_turn_here","_law_corner"] ["_law_axis","_law_flip"] ["_law_corner"] [1] (zSe (uJ (mH 0) (uJ (mH 1) gY))) (zQp (zV 0)) rfl rfl rfl (by decide +kernel) (fun _ _ _ _=>(fO 2 rfl (yV (wP 0 (show(List.Nodup (α:=PySem.Str) ["_law_axis","_law_flip","_law_corner"]) from by decide +kernel)) (yV (wP 1 (show(List.Nodup (α:=PySem.Str) ["_law_axis","_law_flip","_law_corner"]) from by decide +kernel)) wD)) (yE (yE uV)))) (fun _ _ _ _=>xD) (fun _ _ _ _=>(zS7 (y0 (zV 2) (zV 0)) (zV 1))))))))
theorem yC:FnScope ["_law_dims","_law_number","_law_base_here","_law_turn_here","_law_mirror","_law_parts","_law_bits","_law_corner","_law_inner","_law_lies"] ["_law_dims","_law_number"] (zU qH):=wY (by decide +kernel)
def dI:Sf:=(yH 6 (pA (eV 6) (eC (.int 2))))
def uF:Sf:=(zF (cC 5 (yL (zY (zI 2 sJ (zY (eV 3) (zY (eV 7) zS))) (zY (eV 9) (zY (qO (eB2 gEq (uU (eV 6) (eC (.int 2))) (eC (.int 1)))) zS)))))
   (dI))
def qT:Sf:=(zF (sIf (eB2 gEq (uU (eV 6) (eC (.int 2))) (eC (.int 1))) (yH 9 (zI 2 wL (zY (eV 9) (zY (eV 4) zS)))) vY)
   (uF))
def wO:Sf:=(zF (yH 9 (zI 2 wL (zY (eV 3) (zY (zI 2 wL (zY (eV 8) (zY (zI 1 vB (zY (eV 3) zS)) zS))) zS))))
   (qT))
def aR:Sf:=(zZG 5)
def pL:Sf:=(zF (gG (iL (eV 2)) (gT (zB (gN 7) (zB (gN 8) wR))) (wO))
   (aR))
def qB:Sf:=(zF (yH 6 (pA (eV 1) (eC (.int 96))))
   (pL))
def pR:Sf:=(zF (qZ 5 (yM zS))
   (qB))
def qE:Sf:=(zF (yH 4 (zI 2 wL (zY (eV 3) (zY (zI 2 wL (zY (eV 4) (zY (zI 1 vB (zY (eV 3) zS)) zS))) zS))))
   (pR))
def sW:Sf:=(zF (yH 4 (tM (eL (xH (iR (eV 0)) 1 [] (gN 0) tOK (yL (zY (eV 0) (zY (fH (qO (eB2 gEq (eV 0) (eC (.int 0))))) zS)))))))
   (qE))
def qD:Sf:=(zF (sIf (eB2 gEq (uU (pA (eV 1) (eC (.int 48))) (eC (.int 2))) (eC (.int 1))) (yH 2 (eL (zVw (iL (eV 2))))) vY)
   (sW))
def pJ:Sf:=(zF (yH 3 (zI 2 wT (zY (eV 1) (zY (eV 0) zS))))
   (qD))
def sY:Sf:=(zF (yH 2 (eL (qS 1 jA (zY (eV 0) zS))))
   (pJ))
def zXG:Sf :=
   (sY)
def mM:List D->Option (List D):=fnL 10 zXG
theorem zZx (T:Txt w K mg):zSF P w base T.q26 2 2 mM :=
 zZE (k:=1) T.q26.F yC fun cdv A outer s H E hr =>
   (zT sY rfl (zM 2 yC.nd (xB (zT6 (zXa T) hr (zZ (zV 0) zW))))
     (zT pJ rfl (zM 3 yC.nd (vC (dS T) hr (zZ (zV 1) (zZ (zV 0) zW))))
     (zT qD rfl (yB (zA rB (wH (uE (zV 1) zX) zX) zX) (zR (zM 2 yC.nd (xB (zVt rfl rfl T.z_list rfl T.z_reversed (sO (zV 2)))))) yP)
     (zT sW rfl (zM 4 yC.nd (nP rfl T.z_tuple (xB (sU (zU qH) ["_law_dims","_law_number","_law_base_here","_law_turn_here","_law_mirror","_law_parts","_law_bits","_law_corner","_law_inner","_law_lies"] ["_law_axis"] [] [] (mH 0) (zQv rfl T.z_range (zV 0)) rfl rfl rfl (by decide +kernel) (fun _ _ _ _=>(wP 0 (show(List.Nodup (α:=PySem.Str) ["_law_axis"]) from by decide +kernel))) (fun _ _ _ _=>xD) (fun _ _ _ _=>(zK (zZ (zV 0) (zZ (zWU rfl T.z_int (oK rB (zV 0) zX)) zW))))))))
     (zT qE rfl (zM 4 yC.nd (vC (tD T) hr (zZ (zV 3) (zZ (vC (tD T) hr (zZ (zV 4) (zZ (vC (jP T) hr (zZ (zV 3) zW)) zW))) zW))))
     (zT pR rfl (tR 5 yC.nd (yQ zW))
     (zT qB rfl (zM 6 yC.nd (uE (zV 1) zX))
     (zT pL rfl (kA Rm rfl (zTO (zV 2)) (fO 2 rfl (yV (wP 7 yC.nd) (yV (wP 8 yC.nd) wD)) (yE (yE uV))) (zT wO rfl (zM 9 yC.nd (vC (tD T) hr (zZ (zV 3) (zZ (vC (tD T) hr (zZ (zV 8) (zZ (vC (jP T) hr (zZ (zV 3) zW)) zW))) zW))))
     (zT qT rfl (yB (zA rB (wH (zV 6) zX) zX) (zR (zM 9 yC.nd (vC (tD T) hr (zZ (zV 9) (zZ (zV 4) zW))))) yP)
     (zT uF rfl (zZO 5 (uT Em Rf Rg qF (pv 5) (zC (zK (zZ (vC (zZe T) hr (zZ (zV 3) (zZ (zV 7) zW))) (zZ (zV 9) (zZ (oK rB (wH (zV 6) zX) zX) zW)))) yJ)))
     (zR (zM 6 yC.nd (uE (zV 6) zX)))))))
     (zR (iG 5))))))))))
theorem zZF:FnScope ["_law_caught_here","_law_row","_law_kind"] ["_law_caught_here","_law_row","_law_kind"] (zU oH):=wY (by decide +kernel)
def cY:Sf:=(xA (zU2 (zQg isInt (zWy cU "row" (eV 0))) (zU2 (qO (oQ (tB1 (zQg zYj (zWy cU "row" (eV 0)))))) (qO (eB2 gEq (zWy cU "row" (eV 0)) (eV 1))))))
def lQ:Sf:=(zF (sIf (eB2 gNe (bP kJ (eV 0)) (qO (eB2 gEq (eV 2) (eC (.str "corner"))))) (xA (eC (.bl false))) vY)
   (cY))
def lT:Sf:=(zF (sIf (qV (tB1 (bP zNJ (eV 0))) (eB2 gNe (bP zYI (eV 0)) (qO (eB2 gEq (eV 2) (eC (.str "row")))))) (xA (eC (.bl false))) vY)
   (lQ))
def lO:Sf:=(zF (sIf (qV (oQ (tB1 (bP iE (eV 0)))) (oQ (tB1 (bP jG (eV 0))))) (xA (eC (.bl false))) vY)
   (lT))
def zZq:Sf :=
   (lO)
def uO:List D->Option D:=fnF 3 zZq
theorem lE (T:Txt w K mg):OkT P w base T.q27 1 3 uO :=
 rC (k:=0) T.q27.F zZF fun cdv A outer s H E hr =>
   (zT lO rfl (yB (jU (vM (mL (wG (zVu (zZm T) T.mc_TextError rfl rfl T.z_isinstance (zV 0)))) (vZ (mL (wG (zPT (T:="ValueError") (TT:="ValueError") rfl (cF T) T.z_ValueError rfl rfl T.z_isinstance (zV 0))))))) (zR (yN nB)) yP)
     (zT lT rfl (yB (jU (vM (wG (zPf (cs:=[T.C_OffFloor,T.C_Unmet]) (zNz T) (zZ2 (mK (v:=.ref T.C_OffFloor) rfl T.mc_OffFloor rfl) (zZ2 (mK (v:=.ref T.C_Unmet) rfl T.mc_Unmet rfl) zTs)) (Nat.le_of_ble_eq_true rfl) rfl T.z_isinstance (zV 0))) (vZ (zA jI (zVu (zV7 T) T.mc_BadRow rfl rfl T.z_isinstance (zV 0)) (oK rB (zV 2) zP))))) (zR (yN nB)) yP)
     (zT lQ rfl (yB (zA jI (zVu (dC T) T.mc_CornerTwice rfl rfl T.z_isinstance (zV 0)) (oK rB (zV 2) zP)) (zR (yN nB)) yP)
     (zR (yN (zVi (zSM (T:="int") (TT:="int") rfl zOW rfl T.z_isinstance rfl T.z_int (zX8 (zWc T) (zV 0))) (zVi (zOP (zSM (T:="bool") (TT:="bool") rfl zQ1 rfl T.z_isinstance rfl T.z_bool (zX8 (zWc T) (zV 0)))) (zR0 (oK rB (zX8 (zWc T) (zV 0)) (zV 1))))))))))
theorem qW:FnScope ["_law_script","_law_cell","_law_number","_law_dims","_law_parts","_law_good","_law_rows_here","_law_row","_law_kind","_law_caught_here"] ["_law_script"] (zU zSu):=wY (by decide +kernel)
def zY0:Sf:=(sIf (eB2 gNe (pM "Curve" "dims" (zI 1 mC (zY (uR (eC (.str "\n")) (iL (eV 5))) zS))) (eV 3)) (xA (eC (.bl false))) vY)
def aO:Sf:=(zF (sIf (eB2 gGt (eV 7) (wS (eV 5))) (sIf (eB2 zZA (eV 9) (eC .non)) (xA (eC (.bl false))) vY) (sIf (oQ (tB1 (zI 3 uO (zY (eV 9) (zY (eV 7) (zY (eV 8) zS)))))) (xA (eC (.bl false))) vY))
   (zY0))
def zZT:Sf:=(zF (yH 9 (zI 2 vW (zY (eV 6) (zY (eC (.bl false)) zS))))
   (aO))
def aC:Sf:=(zF (sIf (oQ (tB1 (zI 3 uO (zY (zI 2 vW (zY (eV 6) (zY (eC (.bl true)) zS))) (zY (eV 7) (zY (eV 8) zS)))))) (xA (eC (.bl false))) vY)
   (zZT))
def bD:Sf:=(zF (yH 6 (zI 3 qJ (zY (eV 6) (zY (eV 7) (zY (zI 2 uW (zY (eV 1) (zY (eC (.int 16807)) zS))) zS)))))
   (aC))
def bH:Sf:=(zF (bC (zI 2 uY (zY (eL (qS 3 lV (zY (eV 3) (zY (qO (eB2 gEq (uU (pA (eV 2) (eC (.int 4))) (eC (.int 2))) (eC (.int 1)))) (zY (eV 4) zS))))) (zY (zI 2 uW (zY (eV 1) (zY (eC (.int 39373)) zS))) zS))) (gT (zB (gN 6) (zB (gN 7) (zB (gN 8) wR)))))
   (bD))
def gW:Sf:=(zF (yH 5 (eL (qS 3 lV (zY (eV 3) (zY (eC (.bl false)) (zY (eV 4) zS))))))
   (bH))
def zZB:Sf:=(zF (sIf (eB2 gEq (uU (pA (eV 2) (eC (.int 2))) (eC (.int 2))) (eC (.int 1))) (yH 4 (eL (qS 2 mM (zY (eV 3) (zY (pA (eV 2) (eC (.int 8))) zS))))) vY)
   (gW))
def iA:Sf:=(zF (yH 4 (eL (qS 2 kY (zY (eV 3) (zY (eV 1) zS)))))
   (zZB))
def bA:Sf:=(zF (yH 3 (tU (eC (.int 2)) (uU (eV 2) (eC (.int 2)))))
   (iA))
def nJ:Sf:=(zF (yH 2 (zI 2 uW (zY (eV 1) (zY (eC (.int 69621)) zS))))
   (bA))
def zUQ:Sf:=(xA (eC (.bl true)))
def zUX:Sf:=(zF (gG (vI (xI (eV 0) oNo (xW (eC (.int 20)))) (yM (zY (eC (.int 13)) zS))) (gN 1) (nJ))
   (zUQ))
def zND:Sf :=
   (zUX)
def zYR:List D->Option D:=fnF 10 zND
theorem zO4 (T:Txt w K mg):OkT P w base T.q28 7 1 zYR :=
 rC (k:=6) T.q28.F qW fun cdv A outer s H E hr =>
   (zT zUX rfl (kA Rm rfl (zNZ (qA (wC (zV 0) tX (uS zX)) (yQ (zZ zX zW)))) (wP 1 qW.nd) (zT nJ rfl (zM 2 qW.nd (vC (mW T) hr (zZ (zV 1) (zZ zX zW))))
     (zT bA rfl (zM 3 qW.nd (vX zX (wH (zV 2) zX)))
     (zT iA rfl (zM 4 qW.nd (xB (zT6 (zXM T) hr (zZ (zV 3) (zZ (zV 1) zW)))))
     (zT zZB rfl (yB (zA rB (wH (uE (zV 2) zX) zX) zX) (zR (zM 4 qW.nd (xB (zT6 (zZx T) hr (zZ (zV 3) (zZ (uE (zV 2) zX) zW)))))) yP)
     (zT gW rfl (zM 5 qW.nd (xB (zT6 (eM T) hr (zZ (zV 3) (zZ nB (zZ (zV 4) zW))))))
     (zT bH rfl (gB (vC (zZo T) hr (zZ (xB (zT6 (eM T) hr (zZ (zV 3) (zZ (oK rB (wH (uE (zV 2) zX) zX) zX) (zZ (zV 4) zW))))) (zZ (vC (mW T) hr (zZ (zV 1) (zZ zX zW))) zW))) (fO 3 rfl (yV (wP 6 qW.nd) (yV (wP 7 qW.nd) (yV (wP 8 qW.nd) wD))) (yE (yE (yE uV)))))
     (zT bD rfl (zM 6 qW.nd (vC (zZh T) hr (zZ (zV 6) (zZ (zV 7) (zZ (vC (mW T) hr (zZ (zV 1) (zZ zX zW))) zW)))))
     (zT aC rfl (yB (mL (wG (vC (lE T) hr (zZ (vC (jC T) hr (zZ (zV 6) (zZ nB zW))) (zZ (zV 7) (zZ (zV 8) zW)))))) (zR (yN nB)) yP)
     (zT zZT rfl (zM 9 qW.nd (vC (jC T) hr (zZ (zV 6) (zZ nB zW))))
     (zT aO rfl (yB (zA zZP (zV 7) (xM rfl T.z_len (zV 5))) (zR (yB (zA zZW (zV 9) tO) (zR (yN nB)) yP)) (zR (yB (mL (wG (vC (lE T) hr (zZ (zV 9) (zZ (zV 7) (zZ (zV 8) zW)))))) (zR (yN nB)) yP)))
     (zR (yB (zA jI (oJ T.ca_Curve T.cl_Curve T.n_Curve_dims (xO (lD T) (hr.mono (by omega)) T.q20.m T.q20.F.kp T.q20.b rfl (zZ (oR (uT Qn Ej Ek oO zP (zC (sO (zV 5)) yJ))) zW))) (zV 3)) (zR (yN nB)) yP)))))))))))))
     (zR (yN nB)))
end
open PySem.W
theorem zOr {l:OpenLaw}{w:World}{K:Frag}{h:Heap}{mg:Str->Option Value}{fa:Addr}
   {cC0 cF0:Addr} {codi0 cani0:Option Addr} {csl0:Array (Option Value)} {coc0 ckV0 cdc0 cpm0 ccd0 cct0:Value}
   {cC1 cF1:Addr} {codi1 cani1:Option Addr} {csl1:Array (Option Value)} {coc1 ckV1 cdc1 cpm1 ccd1 cct1:Value}
   {yF0:Addr} {yodi0 yani0:Option Addr} {ysl0:Array (Option Value)} {yoc0 ykV0 ydc0 ypm0 ycd0 yct0:Value}
   {yF1:Addr} {yodi1 yani1:Option Addr} {ysl1:Array (Option Value)} {yoc1 ykV1 ydc1 ypm1 ycd1 yct1:Value}
   {xC0:Addr}
   {xC1:Addr}
   {xC2:Addr}
   {xC3:Addr}
   {xC4:Addr}
   {xC5:Addr}
   {t_BITS:Tok}
   {t_FLIPS:Tok}
   {t_AXES:Tok}
   {t_LETTERS:Tok}
   {t_LONGEST_WORD:Tok}
   {da_PROMISES:Addr} {dn_PROMISES:Nat} {dt_PROMISES_0  dt_PROMISES_1  : Tok}
   {da_DIMS:Addr} {dn_DIMS:Nat} {dt_DIMS_0 dv_DIMS_0 dt_DIMS_1 dv_DIMS_1:Tok} (X:K.In h) (G:h.Ns mainGlobals mg) (hfa:mg "law"=some (.ref fa))
   (g0:tW K "_law_mix" fU)
   (g1:tW K "_law_corners" uN)
   (g2:tW K "_law_turn" mG)
   (g3:tW K "_law_loose" kP)
   (g4:tW K "_law_rows" pI)
   (g5:tW K "_law_bad_head" pG)
   (g6:tW K "_law_bad_part" vH)
   (g7:tW K "_law_faulty" mX)
   (g8:tW K "_law_second" mO)
   (g9:tW K "is_made_of" qP)
   (g10:tW K "is_word" fE)
   (g11:tW K "read_head" kW)
   (g12:tW K "words_at" iJ)
   (g13:tW K "corner_of" oS)
   (g14:tW K "turn_of" nO)
   (g15:tW K "read_part" lG)
   (g16:tW K "full" zWa)
   (g17:tW K "curve_from" lY)
   (g18:tW K "meeting_of" iF)
   (g19:tW K "fitted" cD)
   (g20:tW K "curve_of" iO)
   (g21:tW K "_law_caught" mB)
   (g22:tW K "_law_base" iX)
   (g23:tW K "_law_after" oX)
   (g24:tW K "_law_undone" mE)
   (g25:tW K "_law_turned" qN)
   (g26:tW K "_law_joined" qH)
   (g27:tW K "_law_refused" oH)
   (g28:tW K "law" zSu)
   (ca0:nsIn K mainGlobals "Part"=some (some (.ref cC0))) (ci0:findIn K (.ref cC0) "__init__"=some (some (.ref cF0))) (cn0:isFn K (.ref cF0)=true) (cl0:K.lookup cF0=some ⟨coc0,codi0,.func (fnOf "__init__" "Part.__init__" (zE kB) (zJ kB) (zU kB) .none ckV0 cdc0 cpm0 cani0 ccd0 cct0),csl0⟩) (cc0:codeIn K ccd0 "Part.__init__"=true) (ck0:keepIn K (.ref cF0)=true)
   (cpg0:plainGet K cC0 Str.empty=true) (chd0:hasDictIn K cC0=true) (cpo0:plainOver K cC0=true) (csa0:findIn K (.ref cC0) "__setattr__"=some (some (.builtin "object.__setattr__"))) (cmk0:makesIn K cC0=true) (ckc0:keepIn K (.ref cC0)=true)
   (cf0_back:findIn K (.ref cC0) "back"=some none)
   (cf0_corner:findIn K (.ref cC0) "corner"=some none)
   (cf0_turn:findIn K (.ref cC0) "turn"=some none)
   (ca1:nsIn K mainGlobals "Curve"=some (some (.ref cC1))) (ci1:findIn K (.ref cC1) "__init__"=some (some (.ref cF1))) (cn1:isFn K (.ref cF1)=true) (cl1:K.lookup cF1=some ⟨coc1,codi1,.func (fnOf "__init__" "Curve.__init__" (zE nE) (zJ nE) (zU nE) .none ckV1 cdc1 cpm1 cani1 ccd1 cct1),csl1⟩) (cc1:codeIn K ccd1 "Curve.__init__"=true) (ck1:keepIn K (.ref cF1)=true)
   (cpg1:plainGet K cC1 Str.empty=true) (chd1:hasDictIn K cC1=true) (cpo1:plainOver K cC1=true) (csa1:findIn K (.ref cC1) "__setattr__"=some (some (.builtin "object.__setattr__"))) (cmk1:makesIn K cC1=true) (ckc1:keepIn K (.ref cC1)=true)
   (cf1_dims:findIn K (.ref cC1) "dims"=some none)
   (cf1_joined:findIn K (.ref cC1) "joined"=some none)
   (cf1_name:findIn K (.ref cC1) "name"=some none)
   (cf1_parts:findIn K (.ref cC1) "parts"=some none)
   (xa0:nsIn K mainGlobals "BadRow"=some (some (.ref xC0)))
   (xk0:zZ4 K xC0=true)
   (xe0:keepIn K (.ref xC0)=true)
   (xo0:aJ K xC0=true)
   (xi0:findIn K (.ref xC0) "__init__"=some (some (.ref yF0)))
   (xn0:isFn K (.ref yF0)=true)
   (xt0:findIn K (.ref xC0) "__setattr__"=some (some (.builtin "object.__setattr__")))
   (xf0_row:findIn K (.ref xC0) "row"=some none)
   (xa1:nsIn K mainGlobals "CornerTwice"=some (some (.ref xC1)))
   (xk1:zZ4 K xC1=true)
   (xe1:keepIn K (.ref xC1)=true)
   (xo1:aJ K xC1=true)
   (xi1:findIn K (.ref xC1) "__init__"=some (some (.ref yF0)))
   (xn1:isFn K (.ref yF0)=true)
   (xt1:findIn K (.ref xC1) "__setattr__"=some (some (.builtin "object.__setattr__")))
   (xf1_row:findIn K (.ref xC1) "row"=some none)
   (xa2:nsIn K mainGlobals "Unmet"=some (some (.ref xC2)))
   (xk2:zZ4 K xC2=true)
   (xe2:keepIn K (.ref xC2)=true)
   (xo2:aJ K xC2=true)
   (xi2:findIn K (.ref xC2) "__init__"=some (some (.ref yF1)))
   (xn2:isFn K (.ref yF1)=true)
   (xt2:findIn K (.ref xC2) "__setattr__"=some (some (.builtin "object.__setattr__")))
   (xf2_first:findIn K (.ref xC2) "first"=some none)
   (xf2_second:findIn K (.ref xC2) "second"=some none)
   (xf2_level:findIn K (.ref xC2) "level"=some none)
   (xa3:nsIn K mainGlobals "TextError"=some (some (.ref xC3)))
   (xa4:nsIn K mainGlobals "YardError"=some (some (.ref xC4)))
   (xa5:nsIn K mainGlobals "OffFloor"=some (some (.ref xC5)))
   (yl0:K.lookup yF0=some ⟨yoc0,yodi0,.func (fnOf "__init__" "TextError.__init__" (zE uX) (zJ uX) (zU uX) .none ykV0 ydc0 ypm0 yani0 ycd0 yct0),ysl0⟩) (yc0:codeIn K ycd0 "TextError.__init__"=true) (yk0:keepIn K (.ref yF0)=true)
   (yl1:K.lookup yF1=some ⟨yoc1,yodi1,.func (fnOf "__init__" "Unmet.__init__" (zE mZ) (zJ mZ) (zU mZ) .none ykV1 ydc1 ypm1 yani1 ycd1 yct1),ysl1⟩) (yc1:codeIn K ycd1 "Unmet.__init__"=true) (yk1:keepIn K (.ref yF1)=true)
   (ix_TextError:kZ K (.ref xC3) [(xC0,true),(xC1,true),(xC2,false)]=true)
   (ix_ValueError:kZ K (.type "ValueError") [(xC0,true),(xC1,true),(xC2,true)]=true)
   (ix_BadRow:kZ K (.ref xC0) [(xC0,true),(xC1,false),(xC2,false)]=true)
   (ix_CornerTwice:kZ K (.ref xC1) [(xC0,false),(xC1,true),(xC2,false)]=true)
   (iy_0:zXm K (zYx [xC5,xC2]) [(xC0,false),(xC1,false),(xC2,true)]=true)
   (em_YardError_BadRow:exmOne K (.ref xC0) (.ref xC4)=some true)
   (em_YardError_CornerTwice:exmOne K (.ref xC1) (.ref xC4)=some true)
   (em_YardError_Unmet:exmOne K (.ref xC2) (.ref xC4)=some true)
   (g_BITS:nsIn K mainGlobals "BITS"=some (some (.str "01" t_BITS)))
   (g_FLIPS:nsIn K mainGlobals "FLIPS"=some (some (.str "+-" t_FLIPS)))
   (g_AXES:nsIn K mainGlobals "AXES"=some (some (.str "xyz" t_AXES)))
   (g_LETTERS:nsIn K mainGlobals "LETTERS"=some (some (.str "abcdefghijklmnopqrstuvwxyz" t_LETTERS)))
   (g_LONGEST_WORD:nsIn K mainGlobals "LONGEST_WORD"=some (some (.int 12 t_LONGEST_WORD)))
   (g_PROMISES:nsIn K mainGlobals "PROMISES"=some (some (.ref da_PROMISES))) (dl_PROMISES:K.lookup da_PROMISES=some ⟨.type "dict",none,.dict #[⟨PyData.keyHash w.params "joined",.str "joined" dt_PROMISES_0,.bool true⟩,⟨PyData.keyHash w.params "loose",.str "loose" dt_PROMISES_1,.bool false⟩] dn_PROMISES,#[]⟩) (ds_PROMISES:(da_PROMISES==sysModules)=false)
   (g_DIMS:nsIn K mainGlobals "DIMS"=some (some (.ref da_DIMS))) (dl_DIMS:K.lookup da_DIMS=some ⟨.type "dict",none,.dict #[⟨PyData.keyHash w.params "2",.str "2" dt_DIMS_0,.int 2 dv_DIMS_0⟩,⟨PyData.keyHash w.params "3",.str "3" dt_DIMS_1,.int 3 dv_DIMS_1⟩] dn_DIMS,#[]⟩) (ds_DIMS:(da_DIMS==sysModules)=false)
   (z_ValueError:nsIn K mainGlobals "ValueError"=some none)
   (z_all:nsIn K mainGlobals "all"=some none)
   (z_bool:nsIn K mainGlobals "bool"=some none)
   (z_int:nsIn K mainGlobals "int"=some none)
   (z_isinstance:nsIn K mainGlobals "isinstance"=some none)
   (z_len:nsIn K mainGlobals "len"=some none)
   (z_list:nsIn K mainGlobals "list"=some none)
   (z_range:nsIn K mainGlobals "range"=some none)
   (z_reversed:nsIn K mainGlobals "reversed"=some none)
   (z_sorted:nsIn K mainGlobals "sorted"=some none)
   (z_str:nsIn K mainGlobals "str"=some none)
   (z_tuple:nsIn K mainGlobals "tuple"=some none)
   (z_zip:nsIn K mainGlobals "zip"=some none) :
   ∃fd:FuncData,(∀(s:Shared) (v:Value),BindsTo s fd ⟨[v],[]⟩ [("_law_script",v)])/\∀base:Heap,K.In base->base.Ns mainGlobals mg->FnOk l.prog w K mg base CX0 7 fa fd ["_law_script"] (spF K 1 zYR):=by
 have cFF0:=eT (st:=kB) cl0 cc0 ck0
 have cb0:=cFF0.binds (ps:=["self","corner","turn","back"]) fun _ _ _ _ _ _ us hl=>match us,hl with | [_,_,_,_],_=>rfl
 have cFF1:=eT (st:=nE) cl1 cc1 ck1
 have cb1:=cFF1.binds (ps:=["self","name","dims","joined","parts"]) fun _ _ _ _ _ _ us hl=>match us,hl with | [_,_,_,_,_],_=>rfl
 have yFF0:=eT (st:=uX) yl0 yc0 yk0
 have yb0:=yFF0.binds (ps:=["self","row"]) fun _ _ _ _ _ _ us hl=>match us,hl with | [_,_],_=>rfl
 have yFF1:=eT (st:=mZ) yl1 yc1 yk1
 have yb1:=yFF1.binds (ps:=["self","first","second","level"]) fun _ _ _ _ _ _ us hl=>match us,hl with | [_,_,_,_],_=>rfl
 exact zOE _ (bd1 fun _ _ _ _ _ _ _=>rfl) hfa fun base=>zO4 ({ q0:=sM X G g0 (bd2 fun _ _ _ _ _ _ _ _=>rfl),q1:=sM X G g1 (bd1 fun _ _ _ _ _ _ _=>rfl),q2:=sM X G g2 (bd2 fun _ _ _ _ _ _ _ _=>rfl),q3:=sM X G g3 (bd2 fun _ _ _ _ _ _ _ _=>rfl),q4:=sM X G g4 (bd3 fun _ _ _ _ _ _ _ _ _=>rfl),q5:=sM X G g5 (bd2 fun _ _ _ _ _ _ _ _=>rfl),q6:=sM X G g6 (bd2 fun _ _ _ _ _ _ _ _=>rfl),q7:=sM X G g7 (bd2 fun _ _ _ _ _ _ _ _=>rfl),q8:=sM X G g8 (bd3 fun _ _ _ _ _ _ _ _ _=>rfl),q9:=sM X G g9 (bd3 fun _ _ _ _ _ _ _ _ _=>rfl),q10:=sM X G g10 (bd1 fun _ _ _ _ _ _ _=>rfl),q11:=sM X G g11 (bd1 fun _ _ _ _ _ _ _=>rfl),q12:=sM X G g12 (bd2 fun _ _ _ _ _ _ _ _=>rfl),q13:=sM X G g13 (bd2 fun _ _ _ _ _ _ _ _=>rfl),q14:=sM X G g14 (bd2 fun _ _ _ _ _ _ _ _=>rfl),q15:=sM X G g15 (bd3 fun _ _ _ _ _ _ _ _ _=>rfl),q16:=sM X G g16 (bd2 fun _ _ _ _ _ _ _ _=>rfl),q17:=sM X G g17 (bd1 fun _ _ _ _ _ _ _=>rfl),q18:=sM X G g18 (bd1 fun _ _ _ _ _ _ _=>rfl),q19:=sM X G g19 (bd1 fun _ _ _ _ _ _ _=>rfl),q20:=sM X G g20 (bd1 fun _ _ _ _ _ _ _=>rfl),q21:=sM X G g21 (bd2 fun _ _ _ _ _ _ _ _=>rfl),q22:=sM X G g22 (bd1 fun _ _ _ _ _ _ _=>rfl),q23:=sM X G g23 (bd2 fun _ _ _ _ _ _ _ _=>rfl),q24:=sM X G g24 (bd1 fun _ _ _ _ _ _ _=>rfl),q25:=sM X G g25 (bd2 fun _ _ _ _ _ _ _ _=>rfl),q26:=sM X G g26 (bd2 fun _ _ _ _ _ _ _ _=>rfl),q27:=sM X G g27 (bd3 fun _ _ _ _ _ _ _ _ _=>rfl),q28:=sM X G g28 (bd1 fun _ _ _ _ _ _ _=>rfl),C_Part:=_,fi_Part:=_,fdi_Part:=_,ca_Part:=ca0,cl_Part:=⟨cpg0,chd0,cpo0,csa0⟩,mc_Part:=mg_of X G ca0,Fi_Part:=cFF0,bi_Part:=cb0,mk_Part:=⟨cmk0,ci0,cn0,ckc0⟩,n_Part_back:=cf0_back,n_Part_corner:=cf0_corner,n_Part_turn:=cf0_turn,C_Curve:=_,fi_Curve:=_,fdi_Curve:=_,ca_Curve:=ca1,cl_Curve:=⟨cpg1,chd1,cpo1,csa1⟩,mc_Curve:=mg_of X G ca1,Fi_Curve:=cFF1,bi_Curve:=cb1,mk_Curve:=⟨cmk1,ci1,cn1,ckc1⟩,n_Curve_dims:=cf1_dims,n_Curve_joined:=cf1_joined,n_Curve_name:=cf1_name,n_Curve_parts:=cf1_parts,C_BadRow:=_,ca_BadRow:=xa0,mc_BadRow:=mg_of X G xa0,xk_BadRow:=kD xk0,xs_BadRow:=⟨kD xk0,jY xo0,xt0⟩,xm_BadRow:=⟨jY xo0,xi0,xn0,xe0⟩,n_BadRow_row:=xf0_row,C_CornerTwice:=_,ca_CornerTwice:=xa1,mc_CornerTwice:=mg_of X G xa1,xk_CornerTwice:=kD xk1,xs_CornerTwice:=⟨kD xk1,jY xo1,xt1⟩,xm_CornerTwice:=⟨jY xo1,xi1,xn1,xe1⟩,n_CornerTwice_row:=xf1_row,C_Unmet:=_,ca_Unmet:=xa2,mc_Unmet:=mg_of X G xa2,xk_Unmet:=kD xk2,xs_Unmet:=⟨kD xk2,jY xo2,xt2⟩,xm_Unmet:=⟨jY xo2,xi2,xn2,xe2⟩,n_Unmet_first:=xf2_first,n_Unmet_second:=xf2_second,n_Unmet_level:=xf2_level,C_TextError:=_,ca_TextError:=xa3,mc_TextError:=mg_of X G xa3,C_YardError:=_,ca_YardError:=xa4,mc_YardError:=mg_of X G xa4,C_OffFloor:=_,ca_OffFloor:=xa5,mc_OffFloor:=mg_of X G xa5,fi_TextError:=_,fdi_TextError:=_,Fi_TextError:=yFF0,bi_TextError:=yb0,fi_Unmet:=_,fdi_Unmet:=_,Fi_Unmet:=yFF1,bi_Unmet:=yb1,ix_TextError:=ix_TextError,ix_ValueError:=ix_ValueError,ix_BadRow:=ix_BadRow,ix_CornerTwice:=ix_CornerTwice,iy_0:=iy_0,em_YardError_BadRow:=em_YardError_BadRow,em_YardError_CornerTwice:=em_YardError_CornerTwice,em_YardError_Unmet:=em_YardError_Unmet,t_BITS:=t_BITS,c_BITS:=mg_of X G g_BITS,t_FLIPS:=t_FLIPS,c_FLIPS:=mg_of X G g_FLIPS,t_AXES:=t_AXES,c_AXES:=mg_of X G g_AXES,t_LETTERS:=t_LETTERS,c_LETTERS:=mg_of X G g_LETTERS,t_LONGEST_WORD:=t_LONGEST_WORD,c_LONGEST_WORD:=mg_of X G g_LONGEST_WORD,da_PROMISES:=da_PROMISES,c_PROMISES:=mg_of X G g_PROMISES,dc_PROMISES:=zWx [("joined",dt_PROMISES_0,.bool true),("loose",dt_PROMISES_1,.bool false)] dl_PROMISES ds_PROMISES,da_DIMS:=da_DIMS,c_DIMS:=mg_of X G g_DIMS,dc_DIMS:=zWx [("2",dt_DIMS_0,.int 2 dv_DIMS_0),("3",dt_DIMS_1,.int 3 dv_DIMS_1)] dl_DIMS ds_DIMS,z_ValueError:=mg_none_of X G z_ValueError,z_all:=mg_none_of X G z_all,z_bool:=mg_none_of X G z_bool,z_int:=mg_none_of X G z_int,z_isinstance:=mg_none_of X G z_isinstance,z_len:=mg_none_of X G z_len,z_list:=mg_none_of X G z_list,z_range:=mg_none_of X G z_range,z_reversed:=mg_none_of X G z_reversed,z_sorted:=mg_none_of X G z_sorted,z_str:=mg_none_of X G z_str,z_tuple:=mg_none_of X G z_tuple,z_zip:=mg_none_of X G z_zip }:Txt w K mg)
theorem zO7 {K:Frag}{H:Hp}{a:Addr}{ns:List Int}(hS:SqL K H a (ns.map V.int))(h:zYR [.lst (ns.map .int)]=some (.bl true)):spF K 1 zYR [.ref a] H (fun v _=>v = .bl true) fun _ _ _=>False:=by
 have rs:∀ns:List Int,Reps K H (ns.map .int) (ns.map V.int):=fun ns=>by
   induction ns with
   | nil=>exact yR.mpr rfl
   | cons n r ih=>exact zG.mpr ⟨_,_,rfl,zD.mpr rfl,ih⟩
 exact⟨H,[.lst (ns.map .int)],.bl true,Same.refl _,zG.mpr ⟨_,_,rfl,xY.mpr ⟨a,_,rfl,hS,rs ns⟩,yR.mpr rfl⟩,rfl,h,fun v H' G' _ r=>xF.mp r⟩
end My
end
namespace My
open PySem L2
theorem zPA:cG 0 2=[.int 0,.int 1]:=rfl
theorem zNc:cG 0 3=[.int 0,.int 1,.int 2]:=rfl
theorem bit (x:Int):x % 2=0∨x % 2=1:=by omega
def zTq (a b c:Int):Prop:=(a=0/\b=1/\c=2)∨(a=0/\b=2/\c=1)∨(a=1/\b=0/\c=2)∨(a=1/\b=2/\c=0)∨(a=2/\b=0/\c=1)∨(a=2/\b=1/\c=0)
abbrev Tn:=List (Int×Int)
def iM (p:Int×Int):D:=.tup [.int p.1,.int p.2]
def yT (t:Tn):D:=.tup (t.map iM)
def xS (c:List Int):D:=.tup (c.map .int)
def wZ (t:Tn)(c:List Int):List Int:=t.map fun p=>Builtin.bitXor (c.getD p.1.toNat 0) p.2
def xT (t u:Tn):Tn:=t.map fun p=>((u.getD p.1.toNat (0,0)).1,Builtin.bitXor (u.getD p.1.toNat (0,0)).2 p.2)
theorem iK {elt:Ef}{h:Int×Int->D}{rest:List B}:∀(t:Tn) (x0 x1:B) (acc:List D),(∀p∈t,elt (.fz (.int p.1) :: .fz (.int p.2)::rest)=some (h p)) ->
   gK (gT (zB (gN 0) (zB (gN 1) wR))) tOK elt (t.map iM) (x0::x1::rest) acc=some (acc++t.map h)
 | [],_,_,acc,_=>by simp[gK]
 | p::r,x0,x1,acc,hh=>by
   rw[Qx]
   unfold gK
   have e1:gT (zB (gN 0) (zB (gN 1) wR)) (iM p) (x0::x1::rest)=some (.fz (.int p.1) :: .fz (.int p.2)::rest):=rfl
   rw[e1,Qw]
   have e2:tOK (.fz (.int p.1) :: .fz (.int p.2)::rest)=some true:=rfl
   rw[e2,Qw,Wr rfl,hh p Qc,Qw,iK r _ _ _ fun q hq=>hh q (Qi _ hq)]
   simp
theorem gA {α:Type}(xs:List α)(i:Int)(d:α)(h0:0<=i)(h1:i < xs.length):atI xs i=some (xs.getD i.toNat d):=by
 unfold atI ixN
 rw[Wr h0,Wr h1]
 have:i.toNat < xs.length:=by omega
 simp[List.getD,this]
def zOn (t:Tn)(n:Nat):Prop:=∀p∈t,0<=p.1/\p.1 < n
theorem zUT {t:List D}(h:t.length<=1000):okL t=some t:=by
 unfold okL
 rw[Wr (Wv h (by decide))]
theorem cP {α β:Type}(f:α->β)(xs:List α)(i:Int):atI (xs.map f) i=(atI xs i).map f:=by
 unfold atI
 rw[Qu]
 cases ixN xs.length i with
 | none=>rfl
 | some j=>simp
theorem zT3 (t:Tn)(c:List Int)(h:zOn t c.length)(hl:t.length<=1000):sJ [yT t,xS c]=some (xS (wZ t c)):=by
 have e1:qX 2 [yT t,xS c]=[.fz (yT t),.fz (xS c)]:=rfl
 have e2:=iK (elt:=zVY (eIx (eV 2) (eV 0)) (eV 1)) (h:=fun p=>.int (Builtin.bitXor (c.getD p.1.toNat 0) p.2)) (rest:=[.fz (xS c)]) t .no .no [] fun p hp=>by
   obtain⟨h0,h1⟩:=h p hp
   simp[eI,eIx,eV,fM,xS,atD,cP,gA c p.1 0 h0 h1]
 have e3:okL (t.map iM)=some (t.map iM):=zUT (by rw[Qu];exact hl)
 have e4:upB 2 [1] [.fz (yT t),.fz (xS c)]=[.no,.no,.fz (xS c)]:=rfl
 unfold sJ fnF
 rw[e1]
 have e5:xH (iT (eV 0)) 2 [1] (gT (zB (gN 0) (zB (gN 1) wR))) tOK (zVY (eIx (eV 2) (eV 0)) (eV 1)) [.fz (yT t),.fz (xS c)]=some (t.map fun p=>D.int (Builtin.bitXor (c.getD p.1.toNat 0) p.2)):=by
   unfold xH
   have e6:iT (eV 0) [.fz (yT t),.fz (xS c)]=some (t.map iM):=rfl
   rw[e6,Qw,e3,Qw,e4,e2]
   simp
 simp only[gM,lF,xA,tM,eL,e5,Ed,Qw,zV8,qY]
 simp only[xS,wZ,Th,Ii]
theorem zRH (t u:Tn)(h:zOn t u.length)(hl:t.length<=1000):wL [yT t,yT u]=some (yT (xT t u)):=by
 have e1:qX 2 [yT t,yT u]=[.fz (yT t),.fz (yT u)]:=rfl
 have e2:=iK (elt:=yL (zY (eIx (eIx (eV 2) (eV 0)) (eC (.int 0))) (zY (zVY (eIx (eIx (eV 2) (eV 0)) (eC (.int 1))) (eV 1)) zS))) (h:=fun p=>iM ((u.getD p.1.toNat (0,0)).1,Builtin.bitXor (u.getD p.1.toNat (0,0)).2 p.2)) (rest:=[.fz (yT u)]) t .no .no [] fun p hp=>by
   obtain⟨h0,h1⟩:=h p hp
   have a0:∀x y:D,atI [x,y] 0=some x:=fun _ _=>rfl
   have a1:∀x y:D,atI [x,y] 1=some y:=fun _ _=>rfl
   simp[eI,eIx,eV,eC,fM,yT,atD,cP,gA u p.1 (0,0) h0 h1,iM,yL,zY,zS,okL,lim,a0,a1]
 have e3:okL (t.map iM)=some (t.map iM):=zUT (by rw[Qu];exact hl)
 have e4:upB 2 [1] [.fz (yT t),.fz (yT u)]=[.no,.no,.fz (yT u)]:=rfl
 unfold wL fnF
 rw[e1]
 have e5:xH (iT (eV 0)) 2 [1] (gT (zB (gN 0) (zB (gN 1) wR))) tOK (yL (zY (eIx (eIx (eV 2) (eV 0)) (eC (.int 0))) (zY (zVY (eIx (eIx (eV 2) (eV 0)) (eC (.int 1))) (eV 1)) zS))) [.fz (yT t),.fz (yT u)]=some (t.map fun p=>iM ((u.getD p.1.toNat (0,0)).1,Builtin.bitXor (u.getD p.1.toNat (0,0)).2 p.2)):=by
   unfold xH
   have e6:iT (eV 0) [.fz (yT t),.fz (yT u)]=some (t.map iM):=rfl
   rw[e6,Qw,e3,Qw,e4,e2]
   simp
 simp only[eH,jT,xA,tM,eL,e5,Ed,Qw,zV8,qY]
 simp only[yT,xT,Th,Ii]
def tV:List Int:=[0,1]
def vL:List Tn:=[((0:Int),(1:Int)),(1,0)].flatMap fun o=>tV.flatMap fun f=>tV.map fun g=>[(o.1,f),(o.2,g)]
def vJ:List Tn:=[((0:Int),(1:Int),(2:Int)),(0,2,1),(1,0,2),(1,2,0),(2,0,1),(2,1,0)].flatMap fun o=>tV.flatMap fun f=>tV.flatMap fun g=>tV.map fun h=>[(o.1,f),(o.2.1,g),(o.2.2,h)]
theorem zOZ {a b f g:Int}(h1:a=0/\b=1∨a=1/\b=0)(h2:f=0∨f=1)(h3:g=0∨g=1):[(a,f),(b,g)]∈vL:=by
 rcases h1 with⟨rfl,rfl⟩ | ⟨rfl,rfl⟩<;>rcases h2 with rfl | rfl<;>rcases h3 with rfl | rfl<;>decide
theorem zNl {a b c f g h:Int}(h1:zTq a b c)(h2:f=0∨f=1)(h3:g=0∨g=1)(h4:h=0∨h=1):[(a,f),(b,g),(c,h)]∈vJ:=by
 rcases h1 with⟨rfl,rfl,rfl⟩ | ⟨rfl,rfl,rfl⟩ | ⟨rfl,rfl,rfl⟩ | ⟨rfl,rfl,rfl⟩ | ⟨rfl,rfl,rfl⟩ | ⟨rfl,rfl,rfl⟩<;>rcases h2 with rfl | rfl<;>rcases h3 with rfl | rfl<;>rcases h4 with rfl | rfl<;>decide
theorem zU0 {t:Tn}(h:t∈vL):∃a b f g,(a=0/\b=1∨a=1/\b=0)/\(f=0∨f=1)/\(g=0∨g=1)/\t=[(a,f),(b,g)]:=by
 simp only[vL,tV,List.mem_flatMap,Wg,Qf,Wt,Eb] at h
 obtain⟨o,ho,f,hf,g,hg,rfl⟩:=h
 refine⟨o.1,o.2,f,g,?_,hf,hg,rfl⟩
 rcases ho with rfl | rfl
 · exact .inl ⟨rfl,rfl⟩
 · exact .inr ⟨rfl,rfl⟩
theorem zUM {t:Tn}(h:t∈vJ):∃a b c f g j,zTq a b c/\(f=0∨f=1)/\(g=0∨g=1)/\(j=0∨j=1)/\t=[(a,f),(b,g),(c,j)]:=by
 simp only[vJ,tV,List.mem_flatMap,Wg,Qf,Wt,Eb] at h
 obtain⟨o,ho,f,hf,g,hg,j,hj,rfl⟩:=h
 refine⟨o.1,o.2.1,o.2.2,f,g,j,?_,hf,hg,hj,rfl⟩
 unfold zTq
 rcases ho with rfl | rfl | rfl | rfl | rfl | rfl<;>simp
structure Tr (n:Nat)(t:Tn):Prop where
 len:t.length=n
 fits:zOn t n
 flip:∀p∈t,p.2=0∨p.2=1
theorem tr2 {t:Tn}(h:t∈vL):Tr 2 t:=by
 obtain⟨a,b,f,g,h1,h2,h3,rfl⟩:=zU0 h
 refine⟨rfl,fun p hp=>?_,fun p hp=>?_⟩
 · simp only[Qf,Wt,Eb] at hp
   rcases h1 with⟨rfl,rfl⟩ | ⟨rfl,rfl⟩<;>rcases hp with rfl | rfl<;>exact⟨by simp,by simp⟩
 · simp only[Qf,Wt,Eb] at hp
   rcases hp with rfl | rfl
   · exact h2
   · exact h3
theorem tr3 {t:Tn}(h:t∈vJ):Tr 3 t:=by
 obtain⟨a,b,c,f,g,j,h1,h2,h3,h4,rfl⟩:=zUM h
 refine⟨rfl,fun p hp=>?_,fun p hp=>?_⟩
 · simp only[Qf,Wt,Eb] at hp
   unfold zTq at h1
   rcases h1 with⟨rfl,rfl,rfl⟩ | ⟨rfl,rfl,rfl⟩ | ⟨rfl,rfl,rfl⟩ | ⟨rfl,rfl,rfl⟩ | ⟨rfl,rfl,rfl⟩ | ⟨rfl,rfl,rfl⟩<;>rcases hp with rfl | rfl | rfl<;>exact⟨by simp,by simp⟩
 · simp only[Qf,Wt,Eb] at hp
   rcases hp with rfl | rfl | rfl
   · exact h2
   · exact h3
   · exact h4
def zR2 (t:Tn):Bool:=match t with | [(a,f),(b,g)]=>(decide (a=0)&&decide (b=1)||decide (a=1)&&decide (b=0))&&(decide (f=0)||decide (f=1))&&(decide (g=0)||decide (g=1)) | _=>false
def zN3 (a b c:Int):Bool:=(decide (a=0)&&decide (b=1)&&decide (c=2))||(decide (a=0)&&decide (b=2)&&decide (c=1))||(decide (a=1)&&decide (b=0)&&decide (c=2))||(decide (a=1)&&decide (b=2)&&decide (c=0))||(decide (a=2)&&decide (b=0)&&decide (c=1))||(decide (a=2)&&decide (b=1)&&decide (c=0))
def zSN (t:Tn):Bool:=match t with | [(a,f),(b,g),(c,h)]=>zN3 a b c&&(decide (f=0)||decide (f=1))&&(decide (g=0)||decide (g=1))&&(decide (h=0)||decide (h=1)) | _=>false
theorem zW6 {t:Tn}(h:zR2 t=true):t∈vL:=by
 unfold zR2 at h
 split at h
 · simp only[Qg,Rv,Wh] at h
   exact zOZ h.1.1 h.1.2 h.2
 · cases h
theorem zWv {t:Tn}(h:zSN t=true):t∈vJ:=by
 unfold zSN zN3 at h
 split at h
 · simp only[Qg,Rv,Wh] at h
   obtain⟨⟨⟨h1,h2⟩,h3⟩,h4⟩:=h
   refine zNl ?_ h2 h3 h4
   unfold zTq
   rcases h1 with((((h1 | h1) | h1) | h1) | h1) | h1
   · exact .inl ⟨h1.1.1,h1.1.2,h1.2⟩
   · exact .inr (.inl ⟨h1.1.1,h1.1.2,h1.2⟩)
   · exact .inr (.inr (.inl ⟨h1.1.1,h1.1.2,h1.2⟩))
   · exact .inr (.inr (.inr (.inl ⟨h1.1.1,h1.1.2,h1.2⟩)))
   · exact .inr (.inr (.inr (.inr (.inl ⟨h1.1.1,h1.1.2,h1.2⟩))))
   · exact .inr (.inr (.inr (.inr (.inr ⟨h1.1.1,h1.1.2,h1.2⟩))))
 · cases h
theorem zVo {t u:Tn}(ht:t∈vL)(hu:u∈vL):xT t u∈vL:=by
 have key:(vL.all fun t=>vL.all fun u=>zR2 (xT t u))=true:=by decide +kernel
 exact zW6 (Wq.mp (Wq.mp key t ht) u hu)
theorem zVN {t u:Tn}(ht:t∈vJ)(hu:u∈vJ):xT t u∈vJ:=by
 have key:(vJ.all fun t=>vJ.all fun u=>zSN (xT t u))=true:=by decide +kernel
 exact zWv (Wq.mp (Wq.mp key t ht) u hu)
def zRf (k n:Nat):List Int:=(List.range n).map fun i=>(((k >>> i) % 2:Nat):Int)
def zQ (n:Nat):List (List Int):=(List.range (2^n)).map fun k=>zRf k n
def zSa (n:Nat):Tn:=(List.range n).map fun(i:Nat)=>((i:Int),(0:Int))
def wK (t:Tn):Tn:=(List.range t.length).map fun(i:Nat)=>match t.zipIdx.find? fun q=>q.1.1==(i:Int) with | some q=>((q.2:Int),q.1.2) | none=>(0,0)
def nK (n:Nat)(ok:Tn->Bool)(t:Tn):Bool:=ok (wK t)&&decide (xT (wK t) t=zSa n)&&decide (xT t (wK t)=zSa n)&&(zQ n).all fun c=>decide (wZ (wK t) (wZ t c)=c)
theorem zVe {t:Tn}(ht:t∈vL):nK 2 zR2 t=true:=Wq.mp (show(vL.all (nK 2 zR2))=true by decide +kernel) t ht
theorem zVW {t:Tn}(ht:t∈vJ):nK 3 zSN t=true:=Wq.mp (show(vJ.all (nK 3 zSN))=true by decide +kernel) t ht
def zL (n:Nat):List Tn:=if n=2 then vL else vJ
section
variable {n:Nat} (hn:n=2∨n=3)
include hn
theorem trM {t:Tn}(h:t∈zL n):Tr n t:=by
 rcases hn with rfl | rfl
 · exact tr2 h
 · exact tr3 h
theorem kM {t u:Tn}(h:t∈zL n)(h':u∈zL n):xT t u∈zL n:=by
 rcases hn with rfl | rfl
 · exact zVo h h'
 · exact zVN h h'
theorem dO {t:Tn}(h:t∈zL n):wK t∈zL n/\∀c∈zQ n,wZ (wK t) (wZ t c)=c:=by
 rcases hn with rfl | rfl
 · have q:=zVe h
   unfold nK at q
   simp only[Qg,Wh,Wq] at q
   exact⟨zW6 q.1.1.1,q.2⟩
 · have q:=zVW h
   unfold nK at q
   simp only[Qg,Wh,Wq] at q
   exact⟨zWv q.1.1.1,q.2⟩
end
def zRk (c f:Int):Int:=((c*f+12345) % 2147483647)*((c*f+12345) % 2147483647) % 2147483629 / 3
theorem zYh (c f:Int)(h1 : -18446744073709551616 < f)(h2:f < 18446744073709551616):uW [.int c,.int f]=some (.int (zRk c f)):=by
 have e1:zXX c f=true:=zO9 h1 h2
 have e2:zXX ((c*f+12345) % 2147483647) ((c*f+12345) % 2147483647)=true:=zRQ (by omega) (by omega)
 have d1:decide ((0:Int) < 2147483647)=true:=rfl
 have d2:decide ((0:Int) < 2147483629)=true:=rfl
 have d3:(decide ((0:Int) < 3)&&decide ((3:Int) < 1073741824))=true:=rfl
 simp only[uW,fnF,zYQ,lC,dW,qX,zF,yH,xA,eI,eV,eC,fM,List.map,Qo,Rq,List.replicate,Wd,We,Rj,Ez,Qw,Ed,e1,e2,d1,d2,d3,Ys,qY,List.set,zYm]
 rfl
mutual
def okS:Nat->D->Bool
 | 0,_=>false
 | _+1,.obj _ _ _=>false
 | _+1,.exc _ _ _=>false
 | n+1,.tup ds=>decide (ds.length<=1000)&&zP2 n ds
 | n+1,.lst ds=>decide (ds.length<=1000)&&zP2 n ds
 | _+1,_=>true
def zP2:Nat->List D->Bool
 | _,[]=>true
 | n,d::r=>okS n d&&zP2 n r
end
structure Pt where
 c:List Int
 t:Tn
 b:Bool
def xJ (p:Pt):D:=.tup [xS p.c,yT p.t,.bl p.b]
def wB (p:Pt):D:=.obj (Str.ofString "Part") [Str.ofString "corner",Str.ofString "turn",Str.ofString "back"] [xS p.c,yT p.t,.bl p.b]
def jK (wN:Str)(n:Int)(j:Bool)(ps:List Pt):D:=.obj (Str.ofString "Curve") [Str.ofString "name",Str.ofString "dims",Str.ofString "joined",Str.ofString "parts"] [.str wN,.int n,.bl j,.lst (ps.map wB)]
theorem zWF (ρ:List B)(f:Ef)(p:Pt)(h:f ρ=some (wB p)):pM (Str.ofString "Part") (Str.ofString "corner") f ρ=some (xS p.c):=by
 unfold pM;rw[h];rfl
theorem zUR (ρ:List B)(f:Ef){n:Int}{j:Bool}{ps:List Pt}(h:f ρ=some (jK wN n j ps)):pM (Str.ofString "Curve") (Str.ofString "parts") f ρ=some (.lst (ps.map wB)):=by
 unfold pM;rw[h];rfl
structure PtsOk (n:Nat)(ps:List Pt):Prop where
 perm:(ps.map (·.c)).Perm (zQ n)
 turn:∀p∈ps,p.t∈zL n
theorem lK {n:Nat}(hn:n=2∨n=3):(zQ n).Nodup:=by
 rcases hn with rfl | rfl<;>decide +kernel
theorem zXU {n:Nat}(hn:n=2∨n=3):∀c∈zQ n,c.length=n:=by
 rcases hn with rfl | rfl<;>decide +kernel
theorem jS (n:Nat):(zQ n).length=2^n:=by simp[zQ]
theorem PtsOk.len {n:Nat}{ps:List Pt}(h:PtsOk n ps):ps.length=2^n:=by
 have:=h.perm.length_eq
 rw[Qu,jS] at this
 exact this
theorem PtsOk.small {n:Nat}{ps:List Pt}(hn:n=2∨n=3)(h:PtsOk n ps):ps.length<=8:=by
 rw[h.len]
 rcases hn with rfl | rfl<;>decide
theorem zUC (q:Int){n:Nat}(hn:n=2∨n=3):∃t∈zL n,wT [.int q,.int n]=some (yT t):=by
 have q1:q / 1=q:=Int.ediv_one q
 rcases hn with rfl | rfl
 · rcases bit (q / 8) with h | h
   · refine⟨[(0,q / 1 % 2),(1,q / 2 % 2)],zOZ (.inl ⟨rfl,rfl⟩) (bit _) (bit _),?_⟩
     simp[wT,fnF,mI,sL,tQ,tN,qX,zF,yH,sIf,xA,vY,eI,eV,eC,fM,qY,zYm,eL,yM,zS,zY,okL,lim,eB2,gEq,h,xH,iR,zPA,upB,gK,gN,tOK,yL,eIx,atD,atI,ixN,tM,zV8,yT,iM]
   · refine⟨[(1,q / 1 % 2),(0,q / 2 % 2)],zOZ (.inr ⟨rfl,rfl⟩) (bit _) (bit _),?_⟩
     simp[wT,fnF,mI,sL,tQ,tN,qX,zF,yH,sIf,xA,vY,eI,eV,eC,fM,qY,zYm,eL,yM,zS,zY,okL,lim,eB2,gEq,h,xH,iR,zPA,upB,gK,gN,tOK,yL,eIx,atD,atI,ixN,tM,zV8,yT,iM]
 · have h6:q / 8 % 6=0∨q / 8 % 6=1∨q / 8 % 6=2∨q / 8 % 6=3∨q / 8 % 6=4∨q / 8 % 6=5:=by omega
   have key:∀a b c:Int,zTq a b c->atD (.lst [.lst [.int 0,.int 1,.int 2],.lst [.int 0,.int 2,.int 1],.lst [.int 1,.int 0,.int 2],.lst [.int 1,.int 2,.int 0],.lst [.int 2,.int 0,.int 1],.lst [.int 2,.int 1,.int 0]]) (.int (q / 8 % 6))=some (.lst [.int a,.int b,.int c])->∃t∈zL 3,wT [.int q,.int 3]=some (yT t):=fun a b c ho ha=>by
     refine⟨[(a,q / 1 % 2),(b,q / 2 % 2),(c,q / 4 % 2)],zNl ho (bit _) (bit _) (bit _),?_⟩
     have r:wT [.int q,.int 3]=(tN [.fz (.int q),.fz (.int 3),.fz (.lst [.int a,.int b,.int c])]).bind qY:=by
       have d6:decide ((0:Int) < 6)=true:=rfl
       have o3:∀x y z:D,okL [x,y,z]=some [x,y,z]:=fun _ _ _=>rfl
       have o2:∀x y:D,okL [x,y]=some [x,y]:=fun _ _=>rfl
       have o6:∀x y z u v w:D,okL [x,y,z,u,v,w]=some [x,y,z,u,v,w]:=fun _ _ _ _ _ _=>rfl
       have g3:gEq (.int 3) (.int 3)=some true:=rfl
       have c8:zYm q 8=true:=rfl
       simp only[wT,fnF,mI,sL,tQ,qX,zF,yH,sIf,eI,eV,eC,fM,eL,yM,zS,zY,eB2,eIx,Qx,Ea,Qo,Rq,List.replicate,Wd,We,Rj,Ez,Qw,Ed,o2,o3,o6,g3,c8,d6,Ys,ha,List.set]
     rw[r]
     simp[tN,xA,eI,eV,eC,fM,qY,zYm,eL,yM,zS,zY,okL,lim,xH,iR,zNc,upB,gK,gN,tOK,yL,eIx,atD,atI,ixN,tM,zV8,yT,iM]
   rcases h6 with h | h | h | h | h | h
   · exact key 0 1 2 (.inl ⟨rfl,rfl,rfl⟩) (by rw[h];rfl)
   · exact key 0 2 1 (.inr (.inl ⟨rfl,rfl,rfl⟩)) (by rw[h];rfl)
   · exact key 1 0 2 (.inr (.inr (.inl ⟨rfl,rfl,rfl⟩))) (by rw[h];rfl)
   · exact key 1 2 0 (.inr (.inr (.inr (.inl ⟨rfl,rfl,rfl⟩)))) (by rw[h];rfl)
   · exact key 2 0 1 (.inr (.inr (.inr (.inr (.inl ⟨rfl,rfl,rfl⟩))))) (by rw[h];rfl)
   · exact key 2 1 0 (.inr (.inr (.inr (.inr (.inr ⟨rfl,rfl,rfl⟩))))) (by rw[h];rfl)
def fR:Sf:=zF (yH 4 (zI 2 uW (zY (eV 1) (zY (tU (eC (.int 48271)) (zXx (eC (.int 997)) (hG 2))) zS))))
   (zF (zTS 5 2 (uU (eV 4) (hG 2)))
   (cC 3 (yL (zY (eV 5) (zY (zI 2 wT (zY (pA (eV 4) (eC (.int 8))) (zY (eV 0) zS))) (zY (qO (eB2 gEq (uU (pA (eV 4) (eC (.int 800))) (eC (.int 2))) (eC (.int 1)))) zS))))))
theorem jE {α:Type}:∀(l:List α) (i:Nat) (x:α),l[i]?=some x->(x::l.eraseIdx i).Perm l
 | [],_,_,h=>by simp at h
 | a::r,0,x,h=>by cases h;exact .refl _
 | a::r,i+1,x,h=>by
   rw[Ez] at h
   rw[Tz]
   exact(List.Perm.swap a x _).trans (List.Perm.cons a (jE r i x h))
theorem gP {α β:Type}(f:α->β):∀(l:List α) (i:Nat),(l.map f).eraseIdx i=(l.eraseIdx i).map f
 | [],_=>rfl
 | a::r,0=>rfl
 | a::r,i+1=>by rw[Qx,Tz,Tz,Qx,gP f r i]
theorem zVJ {n:Nat}(hn:n=2∨n=3)(cell:Int)(left:List (List Int))(acc:List Pt)(x4 x5:B)(h0:left≠[])(hl:left.length<=8)(ha:acc.length<=8)(ht:∀p∈acc,p.t∈zL n) :
   ∃(left':List (List Int)) (acc':List Pt) (y4 y5:B),left'.length+1=left.length/\acc'.length=acc.length+1/\(acc'.map (·.c)++left').Perm (acc.map (·.c)++left)/\(∀p∈acc',p.t∈zL n) /\
     fR [.fz (.int n),.fz (.int cell),.ow (left.map xS),.ow (acc.map xJ),x4,x5]=some (.nx [.fz (.int n),.fz (.int cell),.ow (left'.map xS),.ow (acc'.map xJ),y4,y5]):=by
 have hpos:0 < left.length:=List.length_pos_iff.mpr h0
 have m1:zXX 997 (left.length:Int)=true:=zRQ (by decide) (by decide)
 have hm:=zYh cell (48271+997*(left.length:Int)) (by omega) (by omega)
 generalize zRk cell (48271+997*(left.length:Int))=r at hm
 have i0:0<=r % (left.length:Int):=Tc _ (by omega)
 have i1:r % (left.length:Int) < left.length:=Rz _ (by omega)
 generalize hi:r % (left.length:Int)=iv at i0 i1
 have hlt:iv.toNat < left.length:=by omega
 obtain⟨t,tm,te⟩:=zUC (r / 8) hn
 have px:=Qs hlt
 have pm:=jE left iv.toNat _ px
 generalize left[iv.toNat]=c at px pm
 refine⟨left.eraseIdx iv.toNat,acc++[⟨c,t,decide (r / 800 % 2=1)⟩],.fz (.int r),.fz (xS c),?_,?_,?_,?_,?_⟩
 · rw[List.length_eraseIdx_of_lt hlt];omega
 · simp
 · rw[Et,Qv]
   exact List.Perm.append_left _ pm
 · intro p hp
   rcases El.mp hp with q | q
   · exact ht p q
   · rw[Ey.mp q];exact tm
 · have d1:decide ((0:Int) < (left.length:Nat))=true:=Qm (by omega)
   have d2:decide ((0:Int) < 2)=true:=rfl
   have c8:zYm r 8=true:=rfl
   have c800:zYm r 800=true:=rfl
   have ix:ixN left.length iv=some iv.toNat:=by unfold ixN;rw[Wr i0,Wr i1]
   have lz:left.length<=lim:=by show left.length<=100000;omega
   have az:acc.length < lim:=by show acc.length < 100000;omega
   have gx:(left.map xS)[iv.toNat]?=some (xS c):=by rw[Wx,px];rfl
   have o3:okL [xS c,yT t,.bl (decide (r / 800 % 2=1))]=some [xS c,yT t,.bl (decide (r / 800 % 2=1))]:=rfl
   simp only[fR,zF,yH,zTS,cC,zI,zY,zS,eI,eV,eC,fM,hG,yL,qO,eB2,gEq,Rj,Ez,Qu,Qo,Rq,Qw,Ed,m1,hm,d1,d2,hi,ix,Wr lz,Wr az,gx,c8,c800,te,o3,Ys,List.set,gP,Et,Qx,Ea,xJ]
theorem bE {n:Nat}(hn:n=2∨n=3)(cell:Int):∀(m fuel:Nat) (left:List (List Int)) (acc:List Pt) (x4 x5:B),left.length=m->m < fuel->left.length+acc.length<=8->(∀p∈acc,p.t∈zL n) ->
   ∃(acc':List Pt) (y4 y5:B),(acc'.map (·.c)).Perm (acc.map (·.c)++left)/\(∀p∈acc',p.t∈zL n) /\
     oG (eQ 2) fR fuel [.fz (.int n),.fz (.int cell),.ow (left.map xS),.ow (acc.map xJ),x4,x5]=some (.nx [.fz (.int n),.fz (.int cell),.ow [],.ow (acc'.map xJ),y4,y5])
 | 0,0,_,_,_,_,_,hf,_,_=>by omega
 | m+1,0,_,_,_,_,_,hf,_,_=>by omega
 | 0,f+1,left,acc,x4,x5,hm,_,_,ht=>by
   have e:left=[]:=List.eq_nil_of_length_eq_zero hm
   subst e
   exact⟨acc,x4,x5,by rw[Qb],ht,rfl⟩
 | m+1,f+1,left,acc,x4,x5,hm,hf,hs,ht=>by
   have hne:left≠[]:=fun z=>by rw[z] at hm;simp at hm
   obtain⟨left',acc',y4,y5,l1,l2,l3,l4,l5⟩:=zVJ hn cell left acc x4 x5 hne (by omega) (by omega) ht
   obtain⟨acc2,z4,z5,p1,p2,p3⟩:=bE hn cell m f left' acc' y4 y5 (by omega) (by omega) (by omega) l4
   refine⟨acc2,z4,z5,p1.trans l3,p2,?_⟩
   have t:eQ 2 [.fz (.int n),.fz (.int cell),.ow (left.map xS),.ow (acc.map xJ),x4,x5]=some true:=by
     cases left with
     | nil=>exact absurd rfl hne
     | cons a r=>rfl
   rw[oG,t,Qw,Wr rfl,l5,Qw]
   exact p3
section
variable {n:Nat} (hn:n=2∨n=3) {ps:List Pt} (ok:PtsOk n ps) {t:Tn} (ht:t∈zL n) (b j:Bool)
include hn ok ht
end
theorem zVy {n:Nat}(hn:n=2∨n=3):rO [.int n]=some ((zQ n).map xS):=by
 rcases hn with rfl | rfl<;>kernel_rfl
theorem zTf {n:Nat}(hn:n=2∨n=3)(cell:Int):∃ps:List Pt,PtsOk n ps/\kY [.int n,.int cell]=some (ps.map xJ):=by
 have hl:(zQ n).length+([]:List Pt).length<=8:=by rw[jS];rcases hn with rfl | rfl<;>decide
 have hl2:(zQ n).length<=8:=by simpa using hl
 obtain⟨ps,y4,y5,p1,p2,p3⟩:=bE hn cell _ 100 (zQ n) [] .no .no rfl (by omega) hl (by simp)
 refine⟨ps,⟨p1,p2⟩,?_⟩
 have hc:=zVy hn
 have s0:qZ 2 (qS 1 rO (zY (eV 0) zS)) [.fz (.int n),.fz (.int cell),.no,.no,.no,.no]=some (.nx [.fz (.int n),.fz (.int cell),.ow ((zQ n).map xS),.no,.no,.no]):=by
   simp only[qZ,qS,zY,zS,eV,fM,Rj,Qw,Ed,Qo,Rq,Ys,hc,List.set]
 have s1:qZ 3 (yM zS) [.fz (.int n),.fz (.int cell),.ow ((zQ n).map xS),.no,.no,.no]=some (.nx [.fz (.int n),.fz (.int cell),.ow ((zQ n).map xS),.ow [],.no,.no]):=rfl
 rw[Ea] at p3
 show(rN [.fz (.int n),.fz (.int cell),.no,.no,.no,.no]).bind zRI=_
 unfold rN
 rw[yI s0]
 unfold nZ
 rw[yI s1]
 unfold nV
 have p4:oG (eQ 2) (zF (yH 4 (zI 2 uW (zY (eV 1) (zY (tU (eC (.int 48271)) (zXx (eC (.int 997)) (hG 2))) zS)))) (zF (zTS 5 2 (uU (eV 4) (hG 2))) (cC 3 (yL (zY (eV 5) (zY (zI 2 wT (zY (pA (eV 4) (eC (.int 8))) (zY (eV 0) zS))) (zY (qO (eB2 gEq (uU (pA (eV 4) (eC (.int 800))) (eC (.int 2))) (eC (.int 1)))) zS))))))) 100 _=_:=p3
 rw[yI p4]
 rfl
def p0:Pt:=⟨[],[],false⟩
def enB (e f:List Int)(b:Bool):List Int:=if b then f else e
def zPu (n i:Nat)(c c' x y:List Int):Prop:=i < n/\c.getD i 0≠c'.getD i 0/\x.getD i 0=c'.getD i 0/\y.getD i 0=c.getD i 0/\∀j,j < n->j≠i->c.getD j 0=c'.getD j 0/\x.getD j 0=y.getD j 0
structure Mt (n:Nat)(ps:List Pt)(e f:List Int):Prop where
 ec:e∈zQ n
 fc:f∈zQ n
 first:(ps.getD 0 p0).c=e/\wZ (ps.getD 0 p0).t (enB e f (ps.getD 0 p0).b)=e
 last:(ps.getD (ps.length - 1) p0).c=f/\wZ (ps.getD (ps.length - 1) p0).t (enB f e (ps.getD (ps.length - 1) p0).b)=f
 next:∀k,k+1 < ps.length->∃i,zPu n i (ps.getD k p0).c (ps.getD (k+1) p0).c (wZ (ps.getD k p0).t (enB f e (ps.getD k p0).b)) (wZ (ps.getD (k+1) p0).t (enB e f (ps.getD (k+1) p0).b))
theorem xQ {i:Nat}{f:Ef}{g:Sf}{ρ:List B}{d:D}(h:f ρ=some d):zF (yH i f) g ρ=g (ρ.set i (.fz d)):=yI (by unfold yH;rw[h];rfl)
theorem pT {f:List D->Option D}{fa:Ef}{ρ:List B}{x:D}(h:fa ρ=some x):zI 1 f (zY fa zS) ρ=f [x]:=bK (zH h rfl) rfl
theorem wQ {f:List D->Option D}{fa fb:Ef}{ρ:List B}{x y:D}(h1:fa ρ=some x)(h2:fb ρ=some y):zI 2 f (zY fa (zY fb zS)) ρ=f [x,y]:=bK (zH h1 (zH h2 rfl)) rfl
theorem zYy {f:List D->Option D}{fa fb fc:Ef}{ρ:List B}{x y z:D}(h1:fa ρ=some x)(h2:fb ρ=some y)(h3:fc ρ=some z):zI 3 f (zY fa (zY fb (zY fc zS))) ρ=f [x,y,z]:=bK (zH h1 (zH h2 (zH h3 rfl))) rfl
theorem zSq {f:List D->Option (List D)}{fa fb:Ef}{ρ:List B}{x y:D}(h1:fa ρ=some x)(h2:fb ρ=some y):qS 2 f (zY fa (zY fb zS)) ρ=f [x,y]:=by unfold qS;rw[zH h1 (zH h2 rfl),Qw];rfl
theorem xR {C:Int->Int->Bool}{g:Int->Int->Int}{fa fb:Ef}{ρ:List B}{i j:Int}(h1:fa ρ=some (.int i))(h2:fb ρ=some (.int j))(h:C i j=true):eI C g fa fb ρ=some (.int (g i j)):=by
 unfold eI
 rw[h1,Qw,h2,Qw]
 show(if C i j then _ else none)=_
 rw[Wr h]
theorem sH {t:Tf}{f:Sf}{ρ:List B}{b:Bool}(h:t ρ=some b):sIf t f vY ρ=if b then f ρ else some (.nx ρ):=by unfold sIf;rw[h];cases b<;>rfl
theorem zVV {i:Nat}{f:Ef}{ρ:List B}{d:D}{ds:List D}(e1:f ρ=some d)(e2:ρ[i]?=some (.ow ds))(e3:ds.length<=1000):cC i f ρ=some (.nx (ρ.set i (.ow (ds++[d])))):=by
 unfold cC;rw[e1,Qw,e2]
 show(if ds.length < lim then _ else none)=_
 rw[Wr (show ds.length < 100000 by omega)]
theorem mS {f:Ef}{ρ:List B}{x k:Int}(h:f ρ=some (.int x)):eB2 gEq f (eC (.int k)) ρ=some (decide (x=k)):=by unfold eB2;rw[h];rfl
theorem zUb {fa fb fc:Ef}{ρ:List B}{x y z:D}(h1:fa ρ=some x)(h2:fb ρ=some y)(h3:fc ρ=some z):yL (zY fa (zY fb (zY fc zS))) ρ=some (.tup [x,y,z]):=by
 unfold yL;rw[zH h1 (zH h2 (zH h3 rfl))];rfl
theorem zSC {t:Tn}(ht:t∈vL):vB [yT t]=some (yT (wK t)):=by
 obtain⟨a,b,f,g,h1,h2,h3,rfl⟩:=zU0 ht
 rcases h1 with⟨rfl,rfl⟩ | ⟨rfl,rfl⟩<;>rcases h2 with rfl | rfl<;>rcases h3 with rfl | rfl<;>kernel_rfl
theorem zRW {t:Tn}(ht:t∈vJ):vB [yT t]=some (yT (wK t)):=by
 obtain⟨a,b,c,f,g,j,h1,h2,h3,h4,rfl⟩:=zUM ht
 rcases h1 with⟨rfl,rfl,rfl⟩ | ⟨rfl,rfl,rfl⟩ | ⟨rfl,rfl,rfl⟩ | ⟨rfl,rfl,rfl⟩ | ⟨rfl,rfl,rfl⟩ | ⟨rfl,rfl,rfl⟩<;>rcases h2 with rfl | rfl<;>rcases h3 with rfl | rfl<;>rcases h4 with rfl | rfl<;>kernel_rfl
theorem zYP {n:Nat}(hn:n=2∨n=3){t:Tn}(h:t∈zL n):vB [yT t]=some (yT (wK t)):=by
 rcases hn with rfl | rfl
 · exact zSC h
 · exact zRW h
theorem kI {n:Nat}(hn:n=2∨n=3){t u:Tn}(h:t∈zL n)(h':u∈zL n):wL [yT t,yT u]=some (yT (xT t u)):=by
 have T:=trM hn h
 have U:=trM hn h'
 have small:n<=1000:=by rcases hn with rfl | rfl<;>decide
 exact zRH t u (by rw[U.len];exact T.fits) (by rw[T.len];exact small)
def zOM:List (List Int×Tn):=[([0,0],[(1,0),(0,0)]),([0,1],[(0,0),(1,0)]),([1,1],[(0,0),(1,0)]),([1,0],[(1,1),(0,1)])]
def zPi:List (List Int×Tn):=[([0,0,0],[(1,0),(0,0),(2,0)]),([0,1,0],[(1,0),(2,0),(0,0)]),([0,1,1],[(0,0),(1,0),(2,0)]),([0,0,1],[(1,1),(2,1),(0,0)]),([1,0,1],[(1,0),(2,1),(0,1)]),([1,1,1],[(0,0),(1,0),(2,0)]),([1,1,0],[(1,1),(2,0),(0,1)]),([1,0,0],[(1,1),(0,1),(2,0)])]
def lA (x:List Int×Tn):D:=.tup [xS x.1,yT x.2]
def jQ (n:Nat):List (List Int×Tn):=if n=2 then zOM else zPi
theorem zRi {n:Nat}(hn:n=2∨n=3):jA [.int n]=some ((jQ n).map lA):=by
 rcases hn with rfl | rfl<;>kernel_rfl
theorem zUL {n:Nat}(hn:n=2∨n=3):∀x∈jQ n,x.1∈zQ n/\x.2∈zL n:=by
 rcases hn with rfl | rfl<;>decide +kernel
theorem zYH {n:Nat}(hn:n=2∨n=3):∀t∈zL n,((jQ n).map fun x=>wZ t x.1).Perm (zQ n):=by
 rcases hn with rfl | rfl<;>decide +kernel
def zRe (t u:Tn):Tn:=xT t (xT u (wK t))
def mkP (t m:Tn)(x:List Int×Tn)(b:Bool):Pt:=⟨wZ t x.1,if b then xT (zRe t x.2) m else zRe t x.2,b⟩
theorem zTl {n:Nat}(hn:n=2∨n=3){t m u:Tn}{c:List Int}(ht:t∈zL n)(hm:m∈zL n)(hu:u∈zL n)(hc:c∈zQ n)(x0 x1 x2 x9:B)(acc:List D)(ha:acc.length<=100)(tV:Int) :
   ∃b:Bool,(mkP t m (c,u) b).t∈zL n/\wO [x0,x1,x2,.fz (yT t),.fz (yT m),.ow acc,.fz (.int tV),.fz (xS c),.fz (yT u),x9]=some (.nx [x0,x1,x2,.fz (yT t),.fz (yT m),.ow (acc++[xJ (mkP t m (c,u) b)]),.fz (.int (tV / 2)),.fz (xS c),.fz (yT u),.fz (yT (mkP t m (c,u) b).t)]):=by
 have um:=(dO hn ht).1
 have e1:=zYP hn ht
 have e2:=kI hn hu um
 have m2:=kM hn hu um
 have e3:=kI hn ht m2
 have m3:=kM hn ht m2
 have hl:zRe t u=xT t (xT u (wK t)):=rfl
 rw[←hl] at e3 m3
 generalize hlg:zRe t u=l at e3 m3
 have e4:=kI hn m3 hm
 have m4:=kM hn m3 hm
 have T:=trM hn ht
 have small:n<=1000:=by rcases hn with rfl | rfl<;>decide
 have e5:sJ [yT t,xS c]=some (xS (wZ t c)):=by
   exact zT3 t c (by rw[zXU hn c hc];exact T.fits) (by rw[T.len];exact small)
 have fin:∀w:Tn,w∈zL n->uF [x0,x1,x2,.fz (yT t),.fz (yT m),.ow acc,.fz (.int tV),.fz (xS c),.fz (yT u),.fz (yT w)]=some (.nx [x0,x1,x2,.fz (yT t),.fz (yT m),.ow (acc++[xJ ⟨wZ t c,w,decide (tV % 2=1)⟩]),.fz (.int (tV / 2)),.fz (xS c),.fz (yT u),.fz (yT w)]):=fun w hw=>by
   unfold uF
   rw[yI (zVV (d:=xJ ⟨wZ t c,w,decide (tV % 2=1)⟩) (ds:=acc) (zUb ((wQ rfl rfl).trans e5) rfl (by unfold qO;rw[mS (x:=tV % 2) (xR rfl rfl rfl)];rfl)) rfl (by omega))]
   rfl
 unfold wO
 rw[xQ (d:=yT l) ((wQ rfl ((wQ rfl ((pT rfl).trans e1)).trans e2)).trans e3)]
 unfold qT
 have ht1:eB2 gEq (uU (eV 6) (eC (.int 2))) (eC (.int 1)) [x0,x1,x2,.fz (yT t),.fz (yT m),.ow acc,.fz (.int tV),.fz (xS c),.fz (yT u),.fz (yT l)]=some (decide (tV % 2=1)):=mS (xR rfl rfl rfl)
 by_cases hb:tV % 2=1
 · have hmk:mkP t m (c,u) true=⟨wZ t c,xT l m,decide (tV % 2=1)⟩:=by unfold mkP;rw[Qm hb,hlg];rfl
   refine⟨true,by rw[hmk];exact m4,?_⟩
   rw[hmk]
   rw[yI (ρ':=[x0,x1,x2,.fz (yT t),.fz (yT m),.ow acc,.fz (.int tV),.fz (xS c),.fz (yT u),.fz (yT (xT l m))])]
   · exact fin _ m4
   · refine(sH ht1).trans ?_
     rw[Qm hb,Wr rfl]
     unfold yH
     rw[wQ rfl rfl,e4]
     rfl
 · have hmk:mkP t m (c,u) false=⟨wZ t c,l,decide (tV % 2=1)⟩:=by unfold mkP;rw[Qz hb,hlg];rfl
   refine⟨false,by rw[hmk];exact m3,?_⟩
   rw[hmk]
   rw[yI (ρ':=[x0,x1,x2,.fz (yT t),.fz (yT m),.ow acc,.fz (.int tV),.fz (xS c),.fz (yT u),.fz (yT l)])]
   · exact fin _ m3
   · refine(sH ht1).trans ?_
     rw[Qz hb]
     rfl
theorem zYp {n:Nat}(hn:n=2∨n=3){t m:Tn}(ht:t∈zL n)(hm:m∈zL n)(x0 x1 x2:B):∀(bs:List (List Int×Tn)) (acc:List Pt) (tV:Int) (x7 x8 x9:B),(∀x∈bs,x.1∈zQ n/\x.2∈zL n)->acc.length+bs.length<=100->(∀p∈acc,p.t∈zL n) ->
   ∃(bl:List Bool) (y6 y7 y8 y9:B),bl.length=bs.length/\(∀p∈acc++List.zipWith (mkP t m) bs bl,p.t∈zL n) /\
     jW (gT (zB (gN 7) (zB (gN 8) wR))) wO (bs.map lA) [x0,x1,x2,.fz (yT t),.fz (yT m),.ow (acc.map xJ),.fz (.int tV),x7,x8,x9]=some (.nx [x0,x1,x2,.fz (yT t),.fz (yT m),.ow ((acc++List.zipWith (mkP t m) bs bl).map xJ),y6,y7,y8,y9])
 | [],acc,tV,x7,x8,x9,_,_,ha=>⟨[],.fz (.int tV),x7,x8,x9,rfl,by simpa using ha,by simp[jW]⟩
 | x::r,acc,tV,x7,x8,x9,hb,hl,ha=>by
   obtain⟨h1,h2⟩:=hb x Qc
   obtain⟨b,p2,p3⟩:=zTl hn ht hm h2 h1 x0 x1 x2 x9 (acc.map xJ) (by rw[Qu];simp at hl;omega) tV
   obtain⟨bl,y6,y7,y8,y9,q1,q2,q3⟩:=zYp hn ht hm x0 x1 x2 r (acc++[mkP t m (x.1,x.2) b]) (tV / 2) (.fz (xS x.1)) (.fz (yT x.2)) (.fz (yT (mkP t m (x.1,x.2) b).t)) (fun y hy=>hb y (Qi _ hy)) (by simp at hl ⊢;omega) (fun q hq=>by
     rcases El.mp hq with z | z
     · exact ha q z
     · rw[Ey.mp z];exact p2)
   rw[Qv] at q2 q3
   refine⟨b::bl,y6,y7,y8,y9,by simp[q1],q2,?_⟩
   · rw[Qx,cW (ρ1:=[x0,x1,x2,.fz (yT t),.fz (yT m),.ow (acc.map xJ),.fz (.int tV),.fz (xS x.1),.fz (yT x.2),x9]) rfl p3]
     rw[Et,Et] at q3
     rw[Et]
     exact q3
def zOe (n:Nat):Tn:=if n=2 then [(0,1),(1,0)] else [(0,1),(1,0),(2,0)]
def dJ (n:Nat)(rev:Bool):List (List Int×Tn):=if rev then(jQ n).reverse else jQ n
instance (n i:Nat)(c c' x y:List Int):Decidable (zPu n i c c' x y):=by unfold zPu;infer_instance
theorem zQF {n:Nat}(hn:n=2∨n=3):zOe n∈zL n:=by
 rcases hn with rfl | rfl<;>decide +kernel
theorem zTD {n:Nat}(hn:n=2∨n=3)(rev:Bool):(dJ n rev).length=2^n:=by
 rcases hn with rfl | rfl<;>cases rev<;>rfl
theorem zSR {n:Nat}(hn:n=2∨n=3)(rev:Bool):∀x∈dJ n rev,x.1∈zQ n/\x.2∈zL n:=by
 intro x hx
 cases rev with
 | false=>exact zUL hn x hx
 | true=>exact zUL hn x (List.mem_reverse.mp hx)
theorem zZM {t m:Tn}:∀ {bs:List (List Int×Tn)} {bl:List Bool},bl.length=bs.length->(List.zipWith (mkP t m) bs bl).map (·.c)=bs.map fun x=>wZ t x.1
 | [],[],_=>rfl
 | [],_::_,h=>by simp at h
 | _::_,[],h=>by simp at h
 | x::bs,b::bl,h=>by
   rw[List.zipWith_cons_cons,Qx,Qx,zZM (by simpa using h)]
   rfl
theorem zTu {n:Nat}(hn:n=2∨n=3)(q:Int):∃ps:List Pt,PtsOk n ps/\mM [.int n,.int q]=some (ps.map xJ):=by
 obtain⟨t,tm,te⟩:=zUC q hn
 have hmir:∃m,m=zOe n/\∀r:List B,tM (eL (xH (iR (eV 0)) 1 [] (gN 0) tOK (yL (zY (eV 0) (zY (fH (qO (eB2 gEq (eV 0) (eC (.int 0))))) zS))))) (.fz (.int (n:Nat))::r)=some (yT m):=by
   rcases hn with rfl | rfl
   · exact⟨[(0,1),(1,0)],rfl,fun r=>by kernel_rfl⟩
   · exact⟨[(0,1),(1,0),(2,0)],rfl,fun r=>by kernel_rfl⟩
 obtain⟨m,mdef,me⟩:=hmir
 have mm:m∈zL n:=by rw[mdef];exact zQF hn
 have um:=(dO hn tm).1
 have e1:=zYP hn tm
 have e2:=kI hn mm um
 have m2:=kM hn mm um
 have e3:=kI hn tm m2
 have m3:=kM hn tm m2
 have go:∀rev:Bool,((dJ n rev).map fun x=>wZ t x.1).Perm (zQ n)->∃ps:List Pt,PtsOk n ps/\(sW [.fz (.int n),.fz (.int q),.fz (.lst ((dJ n rev).map lA)),.fz (yT t),.no,.no,.no,.no,.no,.no]).bind zRI=some (ps.map xJ):=fun rev h3=>by
   have hsm:(dJ n rev).length<=100:=by rw[zTD hn];rcases hn with rfl | rfl<;>decide
   obtain⟨bl,y6,y7,y8,y9,q1,q2,q3⟩:=zYp hn tm m3 (.fz (.int n)) (.fz (.int q)) (.fz (.lst ((dJ n rev).map lA))) (dJ n rev) [] (q / 96) .no .no .no (zSR hn rev) (by simpa using hsm) (by simp)
   rw[We] at q2 q3
   have hpc:=zZM (t:=t) (m:=xT t (xT m (wK t))) q1
   generalize hbs:dJ n rev=bs at *
   generalize List.zipWith (mkP t (xT t (xT m (wK t)))) bs bl=ps at *
   refine⟨ps,⟨?_,q2⟩,?_⟩
   · rw[hpc];exact h3
   · unfold sW
     rw[xQ (d:=yT m) (me _)]
     unfold qE
     rw[xQ (d:=yT (xT t (xT m (wK t)))) ((wQ rfl ((wQ rfl ((pT rfl).trans e1)).trans e2)).trans e3)]
     unfold pR
     rw[yI (ρ':=[.fz (.int n),.fz (.int q),.fz (.lst (bs.map lA)),.fz (yT t),.fz (yT (xT t (xT m (wK t)))),.ow [],.no,.no,.no,.no]) rfl]
     unfold qB
     rw[xQ (d:=.int (q / 96)) (xR rfl rfl rfl)]
     unfold pL
     have fr:gG (iL (eV 2)) (gT (zB (gN 7) (zB (gN 8) wR))) wO [.fz (.int n),.fz (.int q),.fz (.lst (bs.map lA)),.fz (yT t),.fz (yT (xT t (xT m (wK t)))),.ow [],.fz (.int (q / 96)),.no,.no,.no]=some (.nx [.fz (.int n),.fz (.int q),.fz (.lst (bs.map lA)),.fz (yT t),.fz (yT (xT t (xT m (wK t)))),.ow (ps.map xJ),y6,y7,y8,y9]):=q3
     dsimp only[List.set]
     rw[yI fr]
     rfl
 show ∃ps:List Pt,PtsOk n ps/\(sY [.fz (.int n),.fz (.int q),.no,.no,.no,.no,.no,.no,.no,.no]).bind zRI=some (ps.map xJ)
 unfold sY
 rw[xQ (d:=.lst ((jQ n).map lA)) (vE (by unfold qS;rw[zH (d:=.int n) rfl rfl,Qw];exact zRi hn))]
 unfold pJ
 rw[xQ (d:=yT t) ((wQ rfl rfl).trans te)]
 unfold qD
 have ht1:eB2 gEq (uU (pA (eV 1) (eC (.int 48))) (eC (.int 2))) (eC (.int 1)) [.fz (.int n),.fz (.int q),.fz (.lst ((jQ n).map lA)),.fz (yT t),.no,.no,.no,.no,.no,.no]=some (decide (q / 48 % 2=1)):=mS (xR (xR rfl rfl rfl) rfl rfl)
 by_cases hb:q / 48 % 2=1
 · obtain⟨ps,g1,g2⟩:=go true (by show((jQ n).reverse.map _).Perm _;rw[List.map_reverse];exact(List.reverse_perm _).trans (zYH hn t tm))
   refine⟨ps,g1,?_⟩
   rw[yI (ρ':=[.fz (.int n),.fz (.int q),.fz (.lst ((jQ n).reverse.map lA)),.fz (yT t),.no,.no,.no,.no,.no,.no])]
   · exact g2
   · refine(sH ht1).trans ?_
     rw[Qm hb,Wr rfl,List.map_reverse]
     rfl
 · obtain⟨ps,g1,g2⟩:=go false (zYH hn t tm)
   refine⟨ps,g1,?_⟩
   rw[yI (ρ':=[.fz (.int n),.fz (.int q),.fz (.lst ((jQ n).map lA)),.fz (yT t),.no,.no,.no,.no,.no,.no])]
   · exact g2
   · refine(sH ht1).trans ?_
     rw[Qz hb]
     rfl
section
variable {n:Nat} (hn:n=2∨n=3) {ps:List Pt} (ok:PtsOk n ps)
include hn ok
end
section
variable {ps:List Pt} (hB:0 < ps.length) (hs:ps.length<=8)
include hB hs
end
theorem zXj {t:Tf}{f g:Sf}{ρ:List B}{r:Option D}(h:t ρ=some false)(k:(g ρ).bind qY=r):(zF (sIf t f vY) g ρ).bind qY=r:=zUH (by unfold sIf;rw[h];rfl) k
theorem zP5 {f:Ef}{ρ:List B}(h:f ρ=some (.bl true)):oQ (tB1 f) ρ=some false:=by unfold oQ tB1;rw[h];rfl
section
variable {n:Nat} (hn:n=2∨n=3) {ps:List Pt} (ok:PtsOk n ps) (j:Bool)
include hn ok
end
section
variable {n:Nat} (hn:n=2∨n=3) {ps:List Pt} (ok:PtsOk n ps) {e f:List Int} (M:Mt n ps e f)
include hn ok M
end
end My
noncomputable section
namespace My
open PySem L2
def sts (n:Nat):List (Tn×Bool):=(zL n).flatMap fun t=>[(t,false),(t,true)]
section
variable {n:Nat} (hn:n=2∨n=3) {ps:List Pt} (ok:PtsOk n ps) {e f:List Int} (M:Mt n ps e f) (j:Bool)
include hn ok M
end
end My
end
namespace My
open PySem L2
def zO (c:List Int):Str:=⟨(c.map fun i=>if i=1 then 49 else 48).toArray⟩
def yW (t:Tn):Str:=⟨(t.flatMap fun p=>[if p.2=1 then 45 else 43,if p.1=0 then 120 else if p.1=1 then 121 else 122]).toArray⟩
def bkW (b:Bool):List Str:=if b=true then ["back"] else []
def ws3 (c t:Str)(b:Bool):List Str:="part"::c::t::bkW b
def xP (p:Pt):List Str:=ws3 (zO p.c) (yW p.t) p.b
def jn (ws:List Str):Str:=Str.join " " ws
def xU (p:Pt):Str:=jn (xP p)
def hJ (n:Nat)(j:Bool):List Str:=["curve","fold",if j=true then "joined" else "loose",if n=2 then "2" else "3"]
def xG (n:Nat)(j:Bool):Str:=jn (hJ n j)
theorem bM:(" ":Str)=⟨#[32]⟩:=by decide +kernel
theorem zN5:("\n":Str)=⟨#[10]⟩:=by decide +kernel
def Wf (w:Str):Bool := !w.cps.toList.contains 32 && !w.cps.toList.contains 10&&decide (w.length<=14)
structure Rw (ws:List Str):Prop where
 ne:ws≠[]
 few:ws.length<=6
 all:∀w∈ws,Wf w=true
theorem Wf.sp {w:Str}(h:Wf w=true):tL 32 w:=fun z=>by
 unfold Wf at h
 rw[Qg,Qg] at h
 have h:=h.1.1
 rw[Yi.mpr z] at h
 exact absurd h (by decide)
theorem Wf.nl {w:Str}(h:Wf w=true):tL 10 w:=fun z=>by
 unfold Wf at h
 rw[Qg,Qg] at h
 have h:=h.1.2
 rw[Yi.mpr z] at h
 exact absurd h (by decide)
theorem Wf.len {w:Str}(h:Wf w=true):w.length<=14:=by
 unfold Wf at h
 rw[Qg] at h
 exact Tu h.2
theorem zY7 {c d:Nat}(hcd:d≠c):∀ws:List Str,(∀w∈ws,tL d w)->tL d (Str.join ⟨#[c]⟩ ws)
 | [],_=>fun z=>by cases z
 | [x],h=>h x (by simp)
 | x::y::r,h=>fun z=>by
   have z:d∈(Str.join ⟨#[c]⟩ (x::y::r)).cps.toList:=z
   rw[lB,El,Qf] at z
   rcases z with z | z | z
   · exact h x (by simp) z
   · exact hcd z
   · exact zY7 hcd (y::r) (fun w hw=>h w (by simp[hw])) z
theorem zXW {k:Nat}:∀ws:List Str,(∀w∈ws,w.length<=k)->(ws.map (·.length)).sum<=k*ws.length
 | [],_=>by simp
 | x::r,h=>by
   have h1:=h x (by simp)
   have h2:=zXW r fun w hw=>h w (by simp[hw])
   rw[Qx,List.sum_cons,Qo,Nat.mul_succ]
   omega
theorem zSt {sep:Str}{k:Nat}(hs:sep.length=1){ws:List Str}(h:∀w∈ws,w.length<=k):(Str.join sep ws).length<=(k+1)*ws.length:=by
 refine Wv (StrLaws.join_length_le _ _) ?_
 have:=zXW ws h
 rw[hs,Nat.succ_mul]
 omega
theorem Rw.nl {ws:List Str}(h:Rw ws):tL 10 (jn ws):=by
 unfold jn
 rw[bM]
 exact zY7 (by decide) ws fun w hw=>Wf.nl (h.all w hw)
theorem Rw.len {ws:List Str}(h:Rw ws):(jn ws).length<=90:=by
 have:=zSt (sep:=" ") (by decide +kernel) fun w hw=>Wf.len (h.all w hw)
 have:=h.few
 unfold jn
 omega
theorem Rw.words {ws:List Str}(h:Rw ws):bI (.str (jn ws)) (.str " ")=some (ws.map .str):=by
 have hl:=h.len
 unfold jn at hl ⊢
 rw[bM] at hl ⊢
 show(if 1<=(⟨#[32]⟩:Str).length/\(Str.join ⟨#[32]⟩ ws).length<=100000 then some ((Txt.split (Str.join ⟨#[32]⟩ ws) ⟨#[32]⟩).map D.str) else none)=_
 rw[Wr ⟨Ql 1,by omega⟩,bS 32 ws (fun w hw=>Wf.sp (h.all w hw)) h.ne]
def bT (x:Str)(k:Nat):Str:=⟨(x.cps.toList.drop k).toArray⟩
def pO (k:Nat)(t:Str):List Str:=[bT t 2++"+w",⟨(List.replicate k [43,120]).flatten.toArray⟩,bT t 2,t++"+x",bT t 1++"+",upS t,"x"++bT t 1,t++"\t"]
def pB (c:Str):List Str:=["2"++bT c 1,bT c 1,c++"0",c++"1","-"++bT c 1,⟨(List.replicate (c.length - 1) 48++[79]).toArray⟩]
theorem zQb:(zQ 2).map (fun c=>wX [.str (zO c),.int 2])=(zQ 2).map fun c=>some (xS c):=by kernel_rfl
theorem zQE:(zQ 3).map (fun c=>wX [.str (zO c),.int 3])=(zQ 3).map fun c=>some (xS c):=by kernel_rfl
theorem zNX:(zL 2).map (fun t=>vP [.str (yW t),.int 2])=(zL 2).map fun t=>some (yT t):=by kernel_rfl
theorem zNx:(zL 3).map (fun t=>vP [.str (yW t),.int 3])=(zL 3).map fun t=>some (yT t):=by kernel_rfl
theorem zNT:(zQ 2).map (fun c=>(pB (zO c)).map fun x=>wX [.str x,.int 2])=(zQ 2).map fun c=>(pB (zO c)).map fun _=>some D.non:=by kernel_rfl
theorem zNh:(zQ 3).map (fun c=>(pB (zO c)).map fun x=>wX [.str x,.int 3])=(zQ 3).map fun c=>(pB (zO c)).map fun _=>some D.non:=by kernel_rfl
theorem zNt:(zL 2).map (fun t=>(pO 2 (yW t)).map fun x=>vP [.str x,.int 2])=(zL 2).map fun t=>(pO 2 (yW t)).map fun _=>some D.non:=by kernel_rfl
theorem zOh:(zL 3).map (fun t=>(pO 3 (yW t)).map fun x=>vP [.str x,.int 3])=(zL 3).map fun t=>(pO 3 (yW t)).map fun _=>some D.non:=by kernel_rfl
def zN7 (c:List Int):Bool:=(zO c::("part\t"++zO c)::pB (zO c)).all Wf
def zNp (k:Nat)(t:Tn):Bool:=(yW t::pO k (yW t)).all Wf
theorem zNC:(zQ 2).all zN7=true:=by kernel_rfl
theorem zNi:(zQ 3).all zN7=true:=by kernel_rfl
theorem zN1:(zL 2).all (zNp 2)=true:=by kernel_rfl
theorem zNL:(zL 3).all (zNp 3)=true:=by kernel_rfl
theorem xN {α β:Type}{f g:α->β}{l:List α}(h:l.map f=l.map g){x:α}(hx:x∈l):f x=g x:=List.map_inj_left.mp h x hx
section
variable {n:Nat} (hn:n=2∨n=3)
include hn
theorem oP {c:List Int}(h:c∈zQ n):wX [.str (zO c),.int n]=some (xS c):=by
 rcases hn with rfl | rfl
 · exact xN zQb h
 · exact xN zQE h
theorem fS {t:Tn}(h:t∈zL n):vP [.str (yW t),.int n]=some (yT t):=by
 rcases hn with rfl | rfl
 · exact xN zNX h
 · exact xN zNx h
theorem zVD {c:List Int}(h:c∈zQ n){x:Str}(hx:x∈pB (zO c)):wX [.str x,.int n]=some .non:=by
 rcases hn with rfl | rfl
 · exact xN (xN zNT h) hx
 · exact xN (xN zNh h) hx
theorem zWX {t:Tn}(h:t∈zL n){x:Str}(hx:x∈pO n (yW t)):vP [.str x,.int n]=some .non:=by
 rcases hn with rfl | rfl
 · exact xN (xN zNt h) hx
 · exact xN (xN zOh h) hx
theorem nD {c:List Int}(h:c∈zQ n):∀x∈zO c::("part\t"++zO c)::pB (zO c),Wf x=true:=by
 rcases hn with rfl | rfl
 · exact Wq.mp (Wq.mp zNC c h)
 · exact Wq.mp (Wq.mp zNi c h)
theorem kG {t:Tn}(h:t∈zL n):∀x∈yW t::pO n (yW t),Wf x=true:=by
 rcases hn with rfl | rfl
 · exact Wq.mp (Wq.mp zN1 t h)
 · exact Wq.mp (Wq.mp zNL t h)
end
theorem wE {x y:Ef}{f:Sf}{ρ ρ':List B}(h1:x ρ=none)(h2:f ρ=some (.nx ρ')):oY x f y ρ=y ρ':=by unfold oY;rw[h1];dsimp only;rw[h2];rfl
theorem nI {x y:Ef}{f:Sf}{ρ:List B}{t:D}(h:x ρ=some t):oY x f y ρ=some t:=by unfold oY;rw[h]
theorem zNW {x y:Ef}{ρ:List B}{t:D}(h:x ρ=some t):vOr x y ρ=some t:=by unfold vOr;rw[h]
theorem zUz {x y:Ef}{ρ:List B}(h:x ρ=none):vOr x y ρ=y ρ:=by unfold vOr;rw[h]
theorem zUP {t:Tf}{x y:Ef}{ρ:List B}(h:t ρ=some true):vIf t x y ρ=x ρ:=by unfold vIf;rw[h];rfl
theorem zWn {t:Tf}{x y:Ef}{ρ:List B}(h:t ρ=some false):vIf t x y ρ=y ρ:=by unfold vIf;rw[h];rfl
def xK (r:Int):D:=.exc "BadRow" ["row"] [.int r]
def bW (r:Int):D:=.exc "CornerTwice" ["row"] [.int r]
theorem zVq {f:Ef}{ρ:List B}{r:Int}(h:f ρ=some (.int r)):uD "BadRow" ["row"] 1 xX (zY f zS) ρ=some (xK r):=by unfold uD;rw[zH h rfl];rfl
theorem zRt {f:Ef}{ρ:List B}{r:Int}(h:f ρ=some (.int r)):uD "CornerTwice" ["row"] 1 xX (zY f zS) ρ=some (bW r):=by unfold uD;rw[zH h rfl];rfl
theorem qC {i:Nat}{f:Ef}{ρ:List B}{d:D}(h:f ρ=some d):yH i f ρ=some (.nx (ρ.set i (.fz d))):=by unfold yH;rw[h];rfl
theorem zUI (x:D):zZi x .non=some (uL x):=by cases x<;>rfl
abbrev tP:Tf:=qV (eB2 dA (eIx (eV 0) (eC (.int 0))) (eC (.str "part"))) (eB2 dA (wS (eV 0)) (eIf (tB1 (eV 3)) (eC (.int 4)) (eC (.int 3))))
theorem zXA (c t:Str)(b:Bool)(x1 x2 x4 x5:B):tP [.fz (.lst ((ws3 c t b).map .str)),x1,x2,.fz (.bl b),x4,x5]=some false:=by cases b<;>kernel_rfl
theorem zU8 (c t:Str)(b:Bool)(x1 x2 x3 x4 x5:B):qO (eB2 zRc (eL (xI (eV 0) (xW (eC (.int 3))) oNo)) (eL (yM (zY (eC (.str "back")) zS)))) [.fz (.lst ((ws3 c t b).map .str)),x1,x2,x3,x4,x5]=some (.bl b):=by cases b<;>kernel_rfl
theorem cM (c t:Str)(b:Bool)(x1 x2 x3 x4 x5:B):eIx (eV 0) (eC (.int 1)) [.fz (.lst ((ws3 c t b).map .str)),x1,x2,x3,x4,x5]=some (.str c)/\eIx (eV 0) (eC (.int 2)) [.fz (.lst ((ws3 c t b).map .str)),x1,x2,x3,x4,x5]=some (.str t):=by cases b<;>exact⟨by kernel_rfl,by kernel_rfl⟩
theorem zP7 {x y:D}(x0 x1 x2 x3:B):qV (eB2 zZi (eV 4) (eC .non)) (eB2 zZi (eV 5) (eC .non)) [x0,x1,x2,x3,.fz x,.fz y]=some (uL x||uL y):=by
 unfold qV
 rw[show eB2 zZi (eV 4) (eC .non) [x0,x1,x2,x3,.fz x,.fz y]=some (uL x) from zUI x,Qw,show eB2 zZi (eV 5) (eC .non) [x0,x1,x2,x3,.fz x,.fz y]=some (uL y) from zUI y]
 cases uL x<;>rfl
section
variable {n:Nat} {c t:Str} {x y:D} (hc:wX [.str c,.int n]=some x) (ht:vP [.str t,.int n]=some y)
include hc ht
theorem zUv (b:Bool)(r:Int):yO [.lst ((ws3 c t b).map .str),.int n,.int r]=if (uL x||uL y)=true then some (xK r) else none:=by
 show qI [.fz (.lst ((ws3 c t b).map .str)),.fz (.int n),.fz (.int r),.no,.no,.no]=_
 unfold qI
 rw[wE rfl (qC (zU8 c t b _ _ _ _ _))]
 dsimp only[List.set]
 rw[wE (zWn (zXA c t b _ _ _ _)) ((sH (zXA c t b _ _ _ _)).trans rfl)]
 rw[wE rfl (qC ((wQ (x:=.str c) (y:=.int n) (cM c t b _ _ _ _ _).1 rfl).trans hc))]
 dsimp only[List.set]
 rw[wE rfl (qC ((wQ (x:=.str t) (y:=.int n) (cM c t b _ _ _ _ _).2 rfl).trans ht))]
 dsimp only[List.set]
 unfold vIf
 rw[zP7,Qw,zVq (r:=r) rfl]
 rfl
theorem zNr (b:Bool)(r:Int)(hx:uL x=false)(hy:uL y=false):vD [.lst ((ws3 c t b).map .str),.int n,.int r]=some (.obj "Part" ["corner","turn","back"] [x,y,.bl b]):=by
 show(rM [.fz (.lst ((ws3 c t b).map .str)),.fz (.int n),.fz (.int r),.no,.no,.no]).bind qY=_
 unfold rM
 rw[xQ (zU8 c t b _ _ _ _ _)]
 dsimp only[List.set]
 unfold oE
 rw[yI ((sH (zXA c t b _ _ _ _)).trans rfl)]
 unfold nW
 rw[xQ ((wQ (x:=.str c) (y:=.int n) (cM c t b _ _ _ _ _).1 rfl).trans hc)]
 dsimp only[List.set]
 unfold nY
 rw[xQ ((wQ (x:=.str t) (y:=.int n) (cM c t b _ _ _ _ _).2 rfl).trans ht)]
 dsimp only[List.set]
 unfold oA
 rw[yI ((sH (zP7 _ _ _ _)).trans (by rw[hx,hy];rfl))]
 rfl
end
theorem f1 (c t:Str)(n r:Int):yO [.lst [.str "parts",.str c,.str t],.int n,.int r]=some (xK r):=by kernel_rfl
theorem f2 (c:Str)(n r:Int):yO [.lst [.str "part",.str c],.int n,.int r]=some (xK r):=by kernel_rfl
theorem f3 (c t:Str)(n r:Int):yO [.lst [.str "part",.str c,.str t,.str "Back"],.int n,.int r]=some (xK r):=by kernel_rfl
theorem f4 (n r:Int):yO [.lst [.str ""],.int n,.int r]=some (xK r):=by kernel_rfl
theorem f5 (c t:Str)(n r:Int):yO [.lst [.str "part",.str c,.str t,.str "back",.str "back"],.int n,.int r]=some (xK r):=by kernel_rfl
theorem f6 (c t:Str)(b:Bool)(n r:Int):yO [.lst ((ws3 c t b++([""]:List Str)).map .str),.int n,.int r]=some (xK r):=by cases b<;>kernel_rfl
theorem f7t (c t:Str)(n r:Int):yO [.lst [.str "",.str "part",.str c,.str t,.str "back"],.int n,.int r]=some (xK r):=by kernel_rfl
theorem zMO (c:Str)(r:Int):(zL 2).map (fun t=>yO [.lst [.str "",.str "part",.str c,.str (yW t)],.int 2,.int r])=(zL 2).map fun _=>some (xK r):=by kernel_rfl
theorem zM3 (c:Str)(r:Int):(zL 3).map (fun t=>yO [.lst [.str "",.str "part",.str c,.str (yW t)],.int 3,.int r])=(zL 3).map fun _=>some (xK r):=by kernel_rfl
theorem zM2 (c:Str)(r:Int):(zL 2).map (fun t=>yO [.lst [.str "part",.str "",.str c,.str (yW t)],.int 2,.int r])=(zL 2).map fun _=>some (xK r):=by kernel_rfl
theorem zMC (c:Str)(r:Int):(zL 3).map (fun t=>yO [.lst [.str "part",.str "",.str c,.str (yW t)],.int 3,.int r])=(zL 3).map fun _=>some (xK r):=by kernel_rfl
theorem zMD (t:Str)(b:Bool)(r:Int):(zQ 2).map (fun c=>yO [.lst ((("part\t"++zO c)::t::bkW b).map .str),.int 2,.int r])=(zQ 2).map fun _=>some (xK r):=by cases b<;>kernel_rfl
theorem zMP (t:Str)(b:Bool)(r:Int):(zQ 3).map (fun c=>yO [.lst ((("part\t"++zO c)::t::bkW b).map .str),.int 3,.int r])=(zQ 3).map fun _=>some (xK r):=by cases b<;>kernel_rfl
theorem f10 (c t:Str)(n r:Int):yO [.lst [.str "part",.str c,.str t,.str "back\t"],.int n,.int r]=some (xK r):=by kernel_rfl
structure Bad (n:Nat)(ws:List Str):Prop where
 rw:Rw ws
 no:∀r:Int,yO [.lst (ws.map .str),.int n,.int r]=some (xK r)
def zX3 (n:Nat)(p:Pt):List (List Str) :=
 ((pO n (yW p.t)).take 7).map (fun x=>(["part",zO p.c,x]:List Str))++(pB (zO p.c)).map (fun x=>(["part",x,yW p.t]:List Str)) ++
 ([["parts",zO p.c,yW p.t],["part",zO p.c],["part",zO p.c,yW p.t,"Back"],[""],["part",zO p.c,yW p.t,"back","back"],xP p++([""]:List Str),("":Str)::xP p,["part","",zO p.c,yW p.t],
   ("part\t"++zO p.c)::yW p.t::bkW p.b,if p.b=true then ["part",zO p.c,yW p.t,"back\t"] else ["part",zO p.c,yW p.t++"\t"]]:List (List Str))
theorem zSn:(["part","parts","Back","","back","back\t"]:List Str).all Wf=true:=by kernel_rfl
section
variable {n:Nat} (hn:n=2∨n=3) (p:Pt) (hc:p.c∈zQ n) (ht:p.t∈zL n)
include hn hc ht
theorem pE:Rw (xP p):=by
 have L:=Wq.mp zSn
 refine⟨Wk _ _,?_,fun w hw=>?_⟩
 · unfold xP ws3 bkW;split<;>simp
 · unfold xP ws3 bkW at hw
   simp only[Qf] at hw
   rcases hw with rfl | rfl | rfl | hw
   · exact L _ (by simp)
   · exact nD hn hc _ (by simp)
   · exact kG hn ht _ (by simp)
   · split at hw
     · rw[Ey.mp hw];exact L _ (by simp)
     · cases hw
theorem zQf (r:Int):vD [.lst ((xP p).map .str),.int n,.int r]=some (wB p)/\yO [.lst ((xP p).map .str),.int n,.int r]=none :=
 ⟨(zNr (oP hn hc) (fS hn ht) p.b r rfl rfl).trans rfl,(zUv (oP hn hc) (fS hn ht) p.b r).trans rfl⟩
theorem zQ9:∀ws∈zX3 n p,Bad n ws:=by
 have L:=Wq.mp zSn
 have wc:=nD hn hc
 have wt:=kG hn ht
 have wp:=pE hn p hc ht
 have l0:Wf "part"=true:=L _ (by simp)
 have l1:Wf (zO p.c)=true:=wc _ (by simp)
 have l2:Wf (yW p.t)=true:=wt _ (by simp)
 have l3:Wf ""=true:=L _ (by simp)
 have few:(xP p).length<=4:=by unfold xP ws3 bkW;split<;>simp
 have mk:∀ws:List Str,ws≠[]->ws.length<=6->(∀w∈ws,Wf w=true)->(∀r:Int,yO [.lst (ws.map .str),.int n,.int r]=some (xK r))->Bad n ws:=fun ws a b c d=>⟨⟨a,b,c⟩,d⟩
 intro ws hws
 unfold zX3 at hws
 rw[El,El] at hws
 rcases hws with(hws | hws) | hws
 · obtain⟨x,hx,rfl⟩:=Wg.mp hws
   have hx:=To hx
   refine mk _ (Wk _ _) (by simp) (fun w hw=>?_) fun r=>(zUv (b:=false) (oP hn hc) (zWX hn ht hx) r).trans rfl
   simp only[Qf,Wt,Eb] at hw
   rcases hw with rfl | rfl | rfl
   · exact l0
   · exact l1
   · exact wt _ (Qi _ hx)
 · obtain⟨x,hx,rfl⟩:=Wg.mp hws
   refine mk _ (Wk _ _) (by simp) (fun w hw=>?_) fun r=>(zUv (b:=false) (zVD hn hc hx) (fS hn ht) r).trans rfl
   simp only[Qf,Wt,Eb] at hw
   rcases hw with rfl | rfl | rfl
   · exact l0
   · exact wc _ (Qi _ (Qi _ hx))
   · exact l2
 · simp only[Qf,Wt,Eb] at hws
   rcases hws with rfl | rfl | rfl | rfl | rfl | rfl | rfl | rfl | rfl | rfl
   · refine mk _ (Wk _ _) (by simp) (fun w hw=>?_) fun r=>f1 _ _ _ r
     simp only[Qf,Wt,Eb] at hw
     rcases hw with rfl | rfl | rfl
     · exact L _ (by simp)
     · exact l1
     · exact l2
   · refine mk _ (Wk _ _) (by simp) (fun w hw=>?_) fun r=>f2 _ _ r
     simp only[Qf,Wt,Eb] at hw
     rcases hw with rfl | rfl
     · exact l0
     · exact l1
   · refine mk _ (Wk _ _) (by simp) (fun w hw=>?_) fun r=>f3 _ _ _ r
     simp only[Qf,Wt,Eb] at hw
     rcases hw with rfl | rfl | rfl | rfl
     · exact l0
     · exact l1
     · exact l2
     · exact L _ (by simp)
   · refine mk _ (Wk _ _) (by simp) (fun w hw=>?_) fun r=>f4 _ r
     rw[Ey.mp hw];exact l3
   · refine mk _ (Wk _ _) (by simp) (fun w hw=>?_) fun r=>f5 _ _ _ r
     simp only[Qf,Wt,Eb] at hw
     rcases hw with rfl | rfl | rfl | rfl | rfl
     · exact l0
     · exact l1
     · exact l2
     · exact L _ (by simp)
     · exact L _ (by simp)
   · refine mk _ (by simp) (by rw[Qd,Ew];omega) (fun w hw=>?_) fun r=>f6 _ _ _ _ r
     rcases El.mp hw with hw | hw
     · exact wp.all w hw
     · rw[Ey.mp hw];exact l3
   · refine mk _ (Wk _ _) (by rw[Qo];omega) (fun w hw=>?_) fun r=>?_
     · rcases Qf.mp hw with rfl | hw
       · exact l3
       · exact wp.all w hw
     · unfold xP ws3 bkW
       cases p.b with
       | true=>exact f7t _ _ _ r
       | false =>
         rcases hn with rfl | rfl
         · exact xN (zMO _ r) ht
         · exact xN (zM3 _ r) ht
   · refine mk _ (Wk _ _) (by simp) (fun w hw=>?_) fun r=>?_
     · simp only[Qf,Wt,Eb] at hw
       rcases hw with rfl | rfl | rfl | rfl
       · exact l0
       · exact l3
       · exact l1
       · exact l2
     · rcases hn with rfl | rfl
       · exact xN (zM2 _ r) ht
       · exact xN (zMC _ r) ht
   · refine mk _ (Wk _ _) (by unfold bkW;split<;>simp) (fun w hw=>?_) fun r=>?_
     · simp only[Qf] at hw
       rcases hw with rfl | rfl | hw
       · exact wc _ (by simp)
       · exact l2
       · exact wp.all w (by unfold xP ws3;simp[hw])
     · rcases hn with rfl | rfl
       · exact xN (zMD _ p.b r) hc
       · exact xN (zMP _ p.b r) hc
   · cases hb:p.b with
     | true =>
       rw[Wr rfl]
       refine mk _ (Wk _ _) (by simp) (fun w hw=>?_) fun r=>f10 _ _ _ r
       simp only[Qf,Wt,Eb] at hw
       rcases hw with rfl | rfl | rfl | rfl
       · exact l0
       · exact l1
       · exact l2
       · exact L _ (by simp)
     | false =>
       rw[Wj Qk]
       have hx:yW p.t++"\t"∈pO n (yW p.t):=by unfold pO;simp
       refine mk _ (Wk _ _) (by simp) (fun w hw=>?_) fun r=>(zUv (b:=false) (oP hn hc) (zWX hn ht hx) r).trans rfl
       simp only[Qf,Wt,Eb] at hw
       rcases hw with rfl | rfl | rfl
       · exact l0
       · exact l1
       · exact wt _ (Qi _ hx)
end
theorem uI {x y:Str}(h:x.cps.toList=y.cps.toList):x=y:=by
 obtain⟨a⟩:=x
 obtain⟨b⟩:=y
 exact Ec Str.mk (Array.toList_inj.mp h)
theorem w4 (x y:Str):(x++y).cps.toList=x.cps.toList++y.cps.toList:=Uz
theorem vK (a b:Str)(r:List Str):(jn (a::b::r)).cps.toList=a.cps.toList++32::(jn (b::r)).cps.toList:=by
 unfold jn
 rw[bM,lB]
theorem rV (a:Str):jn [a]=a:=rfl
theorem sQ {a b:Lf}{ρ:List B}{xs ys:List D}(h1:a ρ=some xs)(h2:b ρ=some ys)(hl:xs.length+ys.length<=100000):vI a b ρ=some (xs++ys):=by
 unfold vI
 rw[h1,Qw,h2,Qw,zVr (by rw[Qd];exact hl)]
theorem vQ {g:Lf}{ρ:List B}{ds:List D}(h:g ρ=some ds)(hl:ds.length<=100000):yM g ρ=some ds:=by
 unfold yM
 rw[h,Qw,zVr hl]
theorem zSb {fa fb:Ef}{ρ:List B}{x y:Str}(h1:fa ρ=some (.str x))(h2:fb ρ=some (.str y))(h:x.length+y.length<=100000):z0 fa fb ρ=some (.str (x++y)):=by unfold z0;rw[h1,h2];exact zWd h
theorem aS {fa fb:Ef}{ρ:List B}{x y:Str}(h1:fa ρ=some (.str x))(h2:fb ρ=some (.str y))(hl:x.length<=1000)(hl':y.length<=1000):z0 fa fb ρ=some (.str (x++y)):=zSb h1 h2 (by omega)
def tI (t:Str):List Str:=[bT t 2++"+w",bT t 2,t++"+x",bT t 1++"+","x"++bT t 1]
def tE:List Ef:=[z0 (uQ (eV 4) (xW (eC (.int 2))) oNo) (eC (.str "+w")),uQ (eV 4) (xW (eC (.int 2))) oNo,z0 (eV 4) (eC (.str "+x")),z0 (uQ (eV 4) (xW (eC (.int 1))) oNo) (eC (.str "+")),z0 (eC (.str "x")) (uQ (eV 4) (xW (eC (.int 1))) oNo)]
theorem tI2 (x0 x1 x2 x3 x5 x6 x7:B):(zL 2).map (fun t=>tE.map fun f=>f [x0,x1,x2,x3,.fz (.str (yW t)),x5,x6,x7])=(zL 2).map fun t=>(tI (yW t)).map fun x=>some (.str x):=by kernel_rfl
theorem tI3 (x0 x1 x2 x3 x5 x6 x7:B):(zL 3).map (fun t=>tE.map fun f=>f [x0,x1,x2,x3,.fz (.str (yW t)),x5,x6,x7])=(zL 3).map fun t=>(tI (yW t)).map fun x=>some (.str x):=by kernel_rfl
def cI (k:Nat)(c:Str):List Str:=⟨(List.replicate k [43,120]).flatten.toArray⟩::pB c
def cE:List Ef:=[zYX (eC (.str "+x")) (wS (eV 3)),z0 (eC (.str "2")) (uQ (eV 3) (xW (eC (.int 1))) oNo),uQ (eV 3) (xW (eC (.int 1))) oNo,z0 (eV 3) (eC (.str "0")),z0 (eV 3) (eC (.str "1")),z0 (eC (.str "-")) (uQ (eV 3) (xW (eC (.int 1))) oNo),z0 (zYX (eC (.str "0")) (cX (wS (eV 3)) (eC (.int 1)))) (eC (.str "O"))]
theorem cI2 (x0 x1 x2 x4 x5 x6 x7:B):(zQ 2).map (fun c=>cE.map fun f=>f [x0,x1,x2,.fz (.str (zO c)),x4,x5,x6,x7])=(zQ 2).map fun c=>(cI 2 (zO c)).map fun x=>some (.str x):=by kernel_rfl
theorem cI3 (x0 x1 x2 x4 x5 x6 x7:B):(zQ 3).map (fun c=>cE.map fun f=>f [x0,x1,x2,.fz (.str (zO c)),x4,x5,x6,x7])=(zQ 3).map fun c=>(cI 3 (zO c)).map fun x=>some (.str x):=by kernel_rfl
section
variable {n:Nat} (hn:n=2∨n=3)
include hn
theorem zNd {t:Tn}(ht:t∈zL n)(x0 x1 x2 x3 x5 x6 x7:B):tE.map (fun f=>f [x0,x1,x2,x3,.fz (.str (yW t)),x5,x6,x7])=(tI (yW t)).map fun x=>some (.str x):=by
 rcases hn with rfl | rfl
 · exact xN (tI2 x0 x1 x2 x3 x5 x6 x7) ht
 · exact xN (tI3 x0 x1 x2 x3 x5 x6 x7) ht
theorem zNK {c:List Int}(hc:c∈zQ n)(x0 x1 x2 x4 x5 x6 x7:B):cE.map (fun f=>f [x0,x1,x2,.fz (.str (zO c)),x4,x5,x6,x7])=(cI n (zO c)).map fun x=>some (.str x):=by
 rcases hn with rfl | rfl
 · exact xN (cI2 x0 x1 x2 x4 x5 x6 x7) hc
 · exact xN (cI3 x0 x1 x2 x4 x5 x6 x7) hc
end
theorem zUw (x:Str)(c i:Nat):Builtin.Str.subAt x ⟨#[c]⟩ i=true↔x.cps.toList[i]?=some c:=by
 unfold Builtin.Str.subAt
 rw[Eh]
 have e:(x.cps.extract i (i+(⟨#[c]⟩:Str).length)).toList=(x.cps.toList.drop i).take 1:=by
   rw[Uh]
   show List.extract x.cps.toList i (i+1)=_
   rw[Yn,Nat.add_sub_cancel_left]
 constructor
 · intro h
   rw[h] at e
   have e:[c]=(x.cps.toList.drop i).take 1:=e
   have:=Ec (fun l=>l[0]?) e
   simp at this
   simpa using this.symm
 · intro h
   apply Array.toList_inj.mp
   rw[e]
   apply List.ext_getElem?
   intro k
   cases k with
   | zero=>simpa using h
   | succ k=>simp;omega
theorem fG (x:Str)(w r:List Nat)(c:Nat)(hx:x.cps.toList=w++c::r)(hw:c∉w):Builtin.Str.occurrences x ⟨#[c]⟩ 0 x.length 1=[w.length]:=by
 have hlen:x.length=w.length+1+r.length:=by
   show x.cps.size=_
   rw[←Eg,hx]
   simp;omega
 have hat:StrLaws.At x ⟨#[c]⟩ x.length w.length:=⟨by show w.length+1<=_;omega,(zUw x c _).mpr (by rw[hx];simp)⟩
 have hno:∀k,k < w.length->¬StrLaws.At x ⟨#[c]⟩ x.length k:=fun k hk h=>by
   have:=(zUw x c k).mp h.2
   rw[hx,Wn hk] at this
   exact hw (Rp this)
 have hl:=StrLaws.occ_length_le x ⟨#[c]⟩ 0 x.length 1
 rcases StrLaws.occ_head x ⟨#[c]⟩ 1 (Ql 1) with⟨_,h⟩ | ⟨i,r',h1,h2,h3⟩
 · exact absurd hat (h _)
 · rw[h1] at hl ⊢
   have:r'=[]:=by
     cases r' with
     | nil=>rfl
     | cons _ _=>simp at hl
   subst this
   rcases Nat.lt_trichotomy i w.length with z | z | z
   · exact absurd h2 (hno i z)
   · rw[z]
   · exact absurd hat (h3 _ z)
theorem zYD (x z:Str)(w r:List Nat)(c:Nat)(hx:x.cps.toList=w++c::r)(hw:c∉w):(iH x ⟨#[c]⟩ z).cps.toList=w++(z.cps.toList++r):=by
 unfold iH
 rw[fG x w r c hx hw]
 have hlen:x.cps.size=w.length+1+r.length:=by
   rw[←Eg,hx]
   simp;omega
 have e1:(x.cps.extract 0 w.length).toList=w:=by
   rw[Uh,Yn,hx]
   simp
 have e2:(x.cps.extract (w.length+1) x.cps.size).toList=r:=by
   rw[Uh,Yn,hx,hlen]
   rw[show w++c::r=(w++[c])++r by simp,List.drop_append_of_le_length (by simp),List.drop_eq_nil_of_le (by simp)]
   rw[We,Uy (by omega)]
 show(x.cps.extract 0 w.length++z.cps++x.cps.extract (w.length+1) x.cps.size).toList=_
 rw[Uz,Uz,e1,e2,Qv]
theorem zQC (ws:List Str)(a b:Str)(h:Rw (a::b::ws)):dQ " " "\t" (eV 0)=dQ " " "\t" (eV 0)/\zZR (jn (a::b::ws)) " " "\t"=true/\iH (jn (a::b::ws)) " " "\t"=jn ((a++"\t"++b)::ws):=by
 have hw:32∉a.cps.toList:=Wf.sp (h.all a (by simp))
 have hx:=vK a b ws
 have hl:=h.len
 have h9:("\t":Str).cps.toList=[9]:=by decide +kernel
 have e:iH (jn (a::b::ws)) " " "\t"=jn ((a++"\t"++b)::ws):=by
   apply uI
   rw[bM,zYD _ _ _ _ _ hx hw]
   cases ws with
   | nil=>rw[rV,rV,w4,w4,Qv]
   | cons y r=>rw[vK,vK,w4,w4,Qv,Qv]
 have e2:(iH (jn (a::b::ws)) " " "\t").length<=100000:=by
   have:=Ec List.length (zYD (jn (a::b::ws)) "\t" _ _ _ hx hw)
   have z:=Ec List.length hx
   rw[←bM] at this
   rw[h9] at this
   simp only[Qd,Qo,Rq] at this z
   have hl':(jn (a::b::ws)).cps.toList.length<=90:=hl
   show(iH (jn (a::b::ws)) " " "\t").cps.size<=_
   rw[←Eg]
   omega
 refine⟨rfl,?_,e⟩
 unfold zZR
 rw[Qg,Qg]
 refine⟨⟨?_,?_⟩,Qm e2⟩
 · rw[bM,fG _ _ _ _ hx hw];rfl
 · rw[bM,fG _ _ _ _ hx hw]
   have:("\t":Str).length=1:=by decide +kernel
   rw[this]
   exact Qm (by simp;omega)
theorem zQ7 {n:Nat}(hn:n=2∨n=3){t:Tn}(ht:t∈zL n):(upS (yW t)).length<=14:=Wf.len (kG hn ht _ (by unfold pO;simp))
theorem zRS {t:Str}(h:(upS t).length<=14)(x0 x1 x2 x3 x5 x6 x7:B):zX7 (eV 4) [x0,x1,x2,x3,.fz (.str t),x5,x6,x7]=some (.str (upS t)):=by
 show(if (upS t).length<=100000 then some (D.str (upS t)) else none)=_
 rw[Wr (by omega)]
theorem zUk:("part ":Str).length=5/\(" ":Str).length=1/\("parts ":Str).length=6/\(" Back":Str).length=5/\(" back back":Str).length=10/\("part  ":Str).length=6/\("\t":Str).length=1:=by decide +kernel
theorem rK:("part ":Str).cps.toList=("part":Str).cps.toList++[32]/\(" ":Str).cps.toList=[32]/\("parts ":Str).cps.toList=("parts":Str).cps.toList++[32]/\(" Back":Str).cps.toList=32::("Back":Str).cps.toList/\(" back back":Str).cps.toList=32::(("back":Str).cps.toList++32::("back":Str).cps.toList)/\("part  ":Str).cps.toList=("part":Str).cps.toList++[32,32]/\("":Str).cps.toList=[]/\("part\t":Str).cps.toList=("part":Str).cps.toList++[9]/\("\t":Str).cps.toList=[9]/\("back\t":Str).cps.toList=("back":Str).cps.toList++[9]:=by decide +kernel
theorem j3 (c x:Str):"part "++c++" "++x=jn ["part",c,x]:=by
 have L:=rK
 apply uI
 simp only[w4,vK,rV,L.1,L.2.1,L.2.2.1,L.2.2.2.1,L.2.2.2.2.1,L.2.2.2.2.2.1,L.2.2.2.2.2.2.1,L.2.2.2.2.2.2.2.1,L.2.2.2.2.2.2.2.2.1,L.2.2.2.2.2.2.2.2.2,Qv,Wd,We,Qb]
theorem j3s (c x:Str):"parts "++c++" "++x=jn ["parts",c,x]:=by
 have L:=rK
 apply uI
 simp only[w4,vK,rV,L.1,L.2.1,L.2.2.1,L.2.2.2.1,L.2.2.2.2.1,L.2.2.2.2.2.1,L.2.2.2.2.2.2.1,L.2.2.2.2.2.2.2.1,L.2.2.2.2.2.2.2.2.1,L.2.2.2.2.2.2.2.2.2,Qv,Wd,We,Qb]
theorem j2 (c:Str):"part "++c=jn ["part",c]:=by
 have L:=rK
 apply uI
 simp only[w4,vK,rV,L.1,L.2.1,L.2.2.1,L.2.2.2.1,L.2.2.2.2.1,L.2.2.2.2.2.1,L.2.2.2.2.2.2.1,L.2.2.2.2.2.2.2.1,L.2.2.2.2.2.2.2.2.1,L.2.2.2.2.2.2.2.2.2,Qv,Wd,We,Qb]
theorem j4 (c x:Str):"part "++c++" "++x++" Back"=jn ["part",c,x,"Back"]:=by
 have L:=rK
 apply uI
 simp only[w4,vK,rV,L.1,L.2.1,L.2.2.1,L.2.2.2.1,L.2.2.2.2.1,L.2.2.2.2.2.1,L.2.2.2.2.2.2.1,L.2.2.2.2.2.2.2.1,L.2.2.2.2.2.2.2.2.1,L.2.2.2.2.2.2.2.2.2,Qv,Wd,We,Qb]
theorem j5 (c x:Str):"part "++c++" "++x++" back back"=jn ["part",c,x,"back","back"]:=by
 have L:=rK
 apply uI
 simp only[w4,vK,rV,L.1,L.2.1,L.2.2.1,L.2.2.2.1,L.2.2.2.2.1,L.2.2.2.2.2.1,L.2.2.2.2.2.2.1,L.2.2.2.2.2.2.2.1,L.2.2.2.2.2.2.2.2.1,L.2.2.2.2.2.2.2.2.2,Qv,Wd,We,Qb]
theorem j6 (c x:Str):"part  "++c++" "++x=jn ["part","",c,x]:=by
 have L:=rK
 apply uI
 simp only[w4,vK,rV,L.1,L.2.1,L.2.2.1,L.2.2.2.1,L.2.2.2.2.1,L.2.2.2.2.2.1,L.2.2.2.2.2.2.1,L.2.2.2.2.2.2.2.1,L.2.2.2.2.2.2.2.2.1,L.2.2.2.2.2.2.2.2.2,Qv,Wd,We,Qb]
theorem j7 (c x:Str)(b:Bool):jn (ws3 c x b)++" "=jn (ws3 c x b++([""]:List Str)):=by cases b<;>(unfold ws3 bkW;simp only[Wd,We,Ys,Wb,Te];have L:=rK;apply uI;simp only[w4,vK,rV,L.1,L.2.1,L.2.2.1,L.2.2.2.1,L.2.2.2.2.1,L.2.2.2.2.2.1,L.2.2.2.2.2.2.1,L.2.2.2.2.2.2.2.1,L.2.2.2.2.2.2.2.2.1,L.2.2.2.2.2.2.2.2.2,Qv,Wd,We,Qb])
theorem j8 (c x:Str)(b:Bool):" "++jn (ws3 c x b)=jn (("":Str)::ws3 c x b):=by unfold ws3;have L:=rK;apply uI;simp only[w4,vK,rV,L.1,L.2.1,L.2.2.1,L.2.2.2.1,L.2.2.2.2.1,L.2.2.2.2.2.1,L.2.2.2.2.2.2.1,L.2.2.2.2.2.2.2.1,L.2.2.2.2.2.2.2.2.1,L.2.2.2.2.2.2.2.2.2,Qv,Wd,We,Qb]
theorem j9 (c x:Str)(b:Bool):jn (("part"++"\t"++c)::x::bkW b)=jn (("part\t"++c)::x::bkW b):=by
 have e:("part"++"\t"++c:Str)="part\t"++c:=by
   have L:=rK
   apply uI
   simp only[w4,vK,rV,L.1,L.2.1,L.2.2.1,L.2.2.2.1,L.2.2.2.2.1,L.2.2.2.2.2.1,L.2.2.2.2.2.2.1,L.2.2.2.2.2.2.2.1,L.2.2.2.2.2.2.2.2.1,L.2.2.2.2.2.2.2.2.2,Qv,Wd,We,Qb]
 rw[e]
theorem j10 (c x:Str)(b:Bool):jn (ws3 c x b)++"\t"=jn (if b=true then ["part",c,x,"back\t"] else ["part",c,x++"\t"]):=by cases b<;>(unfold ws3 bkW;simp only[Ys,Wb,Te];have L:=rK;apply uI;simp only[w4,vK,rV,L.1,L.2.1,L.2.2.1,L.2.2.2.1,L.2.2.2.2.1,L.2.2.2.2.2.1,L.2.2.2.2.2.2.1,L.2.2.2.2.2.2.2.1,L.2.2.2.2.2.2.2.2.1,L.2.2.2.2.2.2.2.2.2,Qv,Wd,We,Qb])
theorem pC {fa fb:Ef}{ρ:List B}{x y:D}(h1:fa ρ=some x)(h2:fb ρ=some y):eIx fa fb ρ=atD x y:=by unfold eIx;rw[h1,h2];rfl
theorem zX5 (c t:Str)(b:Bool):atD (.lst ((ws3 c t b).map .str)) (.int 1)=some (.str c)/\atD (.lst ((ws3 c t b).map .str)) (.int 2)=some (.str t):=by cases b<;>exact⟨by kernel_rfl,by kernel_rfl⟩
theorem gZ {fa:Ef}{ρ:List B}{ws:List Str}(h:fa ρ=some (.str (jn ws)))(r:Rw ws):vV fa (eC (.str " ")) ρ=some (ws.map .str):=by
 unfold vV
 rw[h,Qw,show eC (.str " ") ρ=some (D.str " ") from rfl,Qw]
 exact r.words
theorem zY6 {src:Lf}{j:Nat}{elt:Ef}{ρ:List B}{xs:List Str}{d:D}{h:Str->Str}(h1:src ρ=some (xs.map .str))(hl:xs.length<=1000)(hj:upB 1 [j] ρ=[.no,.fz d])(he:∀x∈xs,elt [.fz (.str x),.fz d]=some (.str (h x))):xH src 1 [j] (gN 0) tOK elt ρ=some ((xs.map h).map .str):=by
 unfold xH
 rw[h1,Qw,zVr (by rw[Qu];omega),Qw,hj]
 have e:=zWI (elt:=elt) (h:=fun d=>match d with | .str x=>.str (h x) | _=>.non) (rest:=[.fz d]) (xs.map .str) .no [] (fun q hq=>by
   obtain⟨x,hx,rfl⟩:=Wg.mp hq
   exact he x hx)
 rw[e,We,Th,Th]
 rfl
theorem zWb {l:List Str}{k:Nat}(hk:0 < k)(hl:l.length=k)(m:Int):∃x∈l,atI (l.map D.str) (m % (k:Nat))=some (.str x):=by
 have h0:=Tc m (show((k:Nat):Int)≠0 by omega)
 have h1:=Rz m (show(0:Int) < (k:Nat) by omega)
 have hi:(m % (k:Nat)).toNat < l.length:=by omega
 refine⟨l[(m % (k:Nat)).toNat],List.getElem_mem hi,?_⟩
 rw[cP,gA l _ "" h0 (by omega)]
 simp[List.getD,hi]
section
variable {n:Nat} (hn:n=2∨n=3) (p:Pt) (hc:p.c∈zQ n) (ht:p.t∈zL n)
include hn hc ht
theorem zRx (m:Int):∃ws,Bad n ws/\tT [.str (xU p),.int m]=some (.str (jn ws)):=by
 have all:=zQ9 hn p hc ht
 have wp:=pE hn p hc ht
 have lc:(zO p.c).length<=14:=Wf.len (nD hn hc _ (by simp))
 have lt:(yW p.t).length<=14:=Wf.len (kG hn ht _ (by simp))
 have lr:(xU p).length<=90:=wp.len
 have wbt:∀x∈(pO n (yW p.t)).take 7,x.length<=14:=fun x hx=>Wf.len (kG hn ht _ (Qi _ (To hx)))
 have wbc:∀x∈pB (zO p.c),x.length<=14:=fun x hx=>Wf.len (nD hn hc _ (Qi _ (Qi _ hx)))
 have hT:=fun x0 x1 x2 x3 x5 x6 x7=>zNd hn ht x0 x1 x2 x3 x5 x6 x7
 have hC:=fun x0 x1 x2 x4 x5 x6 x7=>zNK hn hc x0 x1 x2 x4 x5 x6 x7
 simp only[tE,tI,Qx,Ea,List.cons.injEq,and_true] at hT
 simp only[cE,cI,pB,Qx,Ea,List.cons.injEq,and_true] at hC
 have hU:=fun x0 x1 x2 x3 x5 x6 x7=>zRS (zQ7 hn ht) x0 x1 x2 x3 x5 x6 x7
 obtain⟨r1,r2,r3⟩:=zQC (yW p.t::bkW p.b) "part" (zO p.c) wp
 have e9:=j9 (zO p.c) (yW p.t) p.b
 obtain⟨LL1,LL2,LL3,LL4,LL5,LL6,LL7⟩:=zUk
 have hl23:(zX3 n p).length=23:=by unfold zX3 pO pB;simp
 have key:∃y2 y3 y4 y5 y6:B,wA [.fz (.str (xU p)),.fz (.int m),.no,.no,.no,.no,.no,.no]=tK [.fz (.str (xU p)),.fz (.int m),y2,y3,y4,y5,y6,.fz (.lst (((zX3 n p).map jn).map .str))]:=by
   refine⟨.fz (.lst ((xP p).map .str)),.fz (.str (zO p.c)),.fz (.str (yW p.t)),.fz (.lst (((pO n (yW p.t)).take 7).map .str)),.fz (.lst ((pB (zO p.c)).map .str)),?_⟩
   unfold wA
   rw[xQ (d:=.lst ((xP p).map .str)) (vE (gZ rfl wp))]
   dsimp only[List.set]
   unfold rY
   rw[xQ ((pC rfl rfl).trans (zX5 (zO p.c) (yW p.t) p.b).1)]
   dsimp only[List.set]
   unfold rQ
   rw[xQ ((pC rfl rfl).trans (zX5 (zO p.c) (yW p.t) p.b).2)]
   dsimp only[List.set]
   unfold rZ
   rw[xQ (vE (vQ (zH (hT _ _ _ _ _ _ _).1 (zH (hC _ _ _ _ _ _ _).1 (zH (hT _ _ _ _ _ _ _).2.1 (zH (hT _ _ _ _ _ _ _).2.2.1 (g:=zS) (ds:=[]) rfl)))) (by simp)))]
   dsimp only[List.set]
   unfold sF
   rw[xQ (vE (sQ (a:=iL (eV 5)) rfl (vQ (zH (hT _ _ _ _ _ _ _).2.2.2.1 (zH (hU _ _ _ _ _ _ _) (zH (hT _ _ _ _ _ _ _).2.2.2.2 (g:=zS) (ds:=[]) rfl))) (by simp)) (by simp)))]
   dsimp only[List.set]
   unfold rW
   rw[xQ (vE (vQ (zH (hC _ _ _ _ _ _ _).2.1 (zH (hC _ _ _ _ _ _ _).2.2.1 (zH (hC _ _ _ _ _ _ _).2.2.2.1 (zH (hC _ _ _ _ _ _ _).2.2.2.2.1 (g:=zS) (ds:=[]) rfl)))) (by simp)))]
   dsimp only[List.set]
   unfold rS
   rw[xQ (vE (sQ (a:=iL (eV 6)) rfl (vQ (zH (hC _ _ _ _ _ _ _).2.2.2.2.2.1 (zH (hC _ _ _ _ _ _ _).2.2.2.2.2.2 (g:=zS) (ds:=[]) rfl)) (by simp)) (by simp)))]
   dsimp only[List.set]
   unfold rR
   show zF _ _ [.fz (.str (xU p)),.fz (.int m),.fz (.lst ((xP p).map .str)),.fz (.str (zO p.c)),.fz (.str (yW p.t)),.fz (.lst (((pO n (yW p.t)).take 7).map .str)),.fz (.lst ((pB (zO p.c)).map .str)),.no]=_
   have s1:=zY6 (src:=iL (eV 5)) (j:=3) (elt:=z0 (z0 (z0 (eC (.str "part ")) (eV 1)) (eC (.str " "))) (eV 0)) (ρ:=[.fz (.str (xU p)),.fz (.int m),.fz (.lst ((xP p).map .str)),.fz (.str (zO p.c)),.fz (.str (yW p.t)),.fz (.lst (((pO n (yW p.t)).take 7).map .str)),.fz (.lst ((pB (zO p.c)).map .str)),.no]) (xs:=(pO n (yW p.t)).take 7) (d:=.str (zO p.c)) (h:=fun x=>jn ["part",zO p.c,x]) rfl (by simp[pO]) rfl (fun x hx=>by
     have hx:=wbt x hx
     rw[←j3]
     exact aS (aS (aS rfl rfl (by omega) (by omega)) rfl (by rw[yX];omega) (by omega)) rfl (by rw[yX,yX];omega) (by omega))
   have s2:=zY6 (src:=iL (eV 6)) (j:=4) (elt:=z0 (z0 (z0 (eC (.str "part ")) (eV 0)) (eC (.str " "))) (eV 1)) (ρ:=[.fz (.str (xU p)),.fz (.int m),.fz (.lst ((xP p).map .str)),.fz (.str (zO p.c)),.fz (.str (yW p.t)),.fz (.lst (((pO n (yW p.t)).take 7).map .str)),.fz (.lst ((pB (zO p.c)).map .str)),.no]) (xs:=pB (zO p.c)) (d:=.str (yW p.t)) (h:=fun x=>jn ["part",x,yW p.t]) rfl (by simp[pB]) rfl (fun x hx=>by
     have hx:=wbc x hx
     rw[←j3]
     exact aS (aS (aS rfl rfl (by omega) (by omega)) rfl (by rw[yX];omega) (by omega)) rfl (by rw[yX,yX];omega) (by omega))
   rw[xQ (vE (sQ s1 s2 (by simp[pO,pB])))]
   dsimp only[List.set]
   unfold sE
   have a3:∀(x0 x1 x2 x5 x6 x7:B) (l:Str),l.length<=10->z0 (z0 (z0 (eC (.str l)) (eV 3)) (eC (.str " "))) (eV 4) [x0,x1,x2,.fz (.str (zO p.c)),.fz (.str (yW p.t)),x5,x6,x7]=some (.str (l++zO p.c++" "++yW p.t)):=fun x0 x1 x2 x5 x6 x7 l hl =>
     aS (aS (aS rfl rfl (by omega) (by omega)) rfl (by rw[yX];omega) (by omega)) rfl (by rw[yX,yX];omega) (by omega)
   have l3:∀l:Str,l.length<=10->(l++zO p.c++" "++yW p.t).length<=1000:=fun l hl=>by rw[yX,yX,yX];omega
   rw[xQ (vE (sQ (a:=iL (eV 7)) rfl (vQ (zH (a3 _ _ _ _ _ _ "parts " (by omega)) (zH (aS (x:="part ") (y:=zO p.c) rfl rfl (by omega) (by omega)) (zH (aS (y:=" Back") (a3 _ _ _ _ _ _ "part " (by omega)) rfl (l3 _ (by omega)) (by omega)) (zH (f:=eC (.str "")) (d:=.str "") (g:=zS) (ds:=[]) rfl rfl)))) (by simp)) (by simp[pO,pB])))]
   dsimp only[List.set]
   unfold sB
   rw[xQ (vE (sQ (a:=iL (eV 7)) rfl (vQ (zH (aS (y:=" back back") (a3 _ _ _ _ _ _ "part " (by omega)) rfl (l3 _ (by omega)) (by omega)) (zH (aS (x:=xU p) (y:=" ") rfl rfl (by omega) (by omega)) (zH (aS (x:=" ") (y:=xU p) rfl rfl (by omega) (by omega)) (zH (a3 _ _ _ _ _ _ "part  " (by omega)) (g:=zS) (ds:=[]) rfl)))) (by simp)) (by simp[pO,pB])))]
   dsimp only[List.set]
   unfold tS
   have er:∀x1 x2 x3 x4 x5 x6 x7:B,dQ " " "\t" (eV 0) [.fz (.str (xU p)),x1,x2,x3,x4,x5,x6,x7]=some (.str (jn (("part\t"++zO p.c)::yW p.t::bkW p.b))):=fun x1 x2 x3 x4 x5 x6 x7=>by
     show(if zZR (xU p) " " "\t" then some (D.str (iH (xU p) " " "\t")) else none)=_
     have h2:zZR (xU p) " " "\t"=true:=r2
     have h3:iH (xU p) " " "\t"=jn (("part"++"\t"++zO p.c)::yW p.t::bkW p.b):=r3
     rw[Wr h2,h3,e9]
   rw[xQ (vE (sQ (a:=iL (eV 7)) rfl (vQ (zH (er _ _ _ _ _ _ _) (zH (aS (x:=xU p) (y:="\t") rfl rfl (by omega) (by omega)) (g:=zS) (ds:=[]) rfl)) (by simp)) (by simp[pO,pB])))]
   dsimp only[List.set]
   have k7:xU p++" "=jn (xP p++([""]:List Str)):=j7 _ _ _
   have k8:" "++xU p=jn (("":Str)::xP p):=j8 _ _ _
   have k10:xU p++"\t"=jn (if p.b=true then ["part",zO p.c,yW p.t,"back\t"] else ["part",zO p.c,yW p.t++"\t"]):=j10 _ _ _
   rw[j3s,j4,j5,j6,j2,k7,k8,k10]
   unfold zX3
   simp only[Et,Qx,Ea,Qv,Wd,We,Th,Ii]
   rfl
 obtain⟨y2,y3,y4,y5,y6,e⟩:=key
 obtain⟨x,hx,ea⟩:=zWb (l:=(zX3 n p).map jn) (k:=23) (by decide) (by rw[Qu];exact hl23) m
 obtain⟨ws,hws,rfl⟩:=Wg.mp hx
 refine⟨ws,all ws hws,?_⟩
 show(wA [.fz (.str (xU p)),.fz (.int m),.no,.no,.no,.no,.no,.no]).bind qY=_
 rw[e]
 unfold tK
 refine(iW _).trans ?_
 have el:wS (eV 7) [.fz (.str (xU p)),.fz (.int m),y2,y3,y4,y5,y6,.fz (.lst (((zX3 n p).map jn).map .str))]=some (.int 23):=by
   show some (D.int (((((zX3 n p).map jn).map D.str).length:Nat):Int))=_
   rw[Qu,Qu,hl23]
   rfl
 refine(pC rfl (xR (i:=m) (j:=23) rfl el rfl)).trans ?_
 exact ea
end
def aI (n:Nat)(j:Bool):List (List Str) :=
 let J:Str:=if j=true then "joined" else "loose"
 let N:Str:=if n=2 then "2" else "3"
 [["curves","fold",J,N],["curve","fold",J],["curve","fold",J,N,""],["","curve","fold",J,N],["curve","","fold",J,N],["curve\tfold",J,N],["curve","fold",J,N++"\t"],
   ["curve","fold","joine","2"],["curve","fold","loose","1"],["curve","fold","loose","4"],["curve","fold","loose","02"],[""],["curve","Fold","loose","2"],["curve","abcdefghijklm","loose","3"],["curve","","loose","2"],["curve","f1","joined","3"],
   ["curve","fold","Joined","2"],["curve","fold",J,N,"back"],["curve","fold","loose","+2"],["curve","fold","joined","two"]]
def rwB (ws:List Str):Bool := !ws.isEmpty&&decide (ws.length<=6)&&ws.all Wf
theorem zSS {ws:List Str}(h:rwB ws=true):Rw ws:=by
 unfold rwB at h
 rw[Qg,Qg] at h
 refine⟨fun z=>?_,Tu h.1.2,Wq.mp h.2⟩
 rw[z] at h
 exact absurd h.1.1 (by decide)
theorem zZH:∀n,n=2∨n=3->∀j,(aI n j).all rwB=true/\rwB (hJ n j)=true:=by
 rintro n (rfl | rfl) j<;>cases j<;>exact⟨by kernel_rfl,by kernel_rfl⟩
theorem zSQ:∀n,n=2∨n=3->∀j,(aI n j).map (fun ws=>vG [.lst (ws.map .str)])=(aI n j).map fun _=>some (xK 1):=by
 rintro n (rfl | rfl) j<;>cases j<;>kernel_rfl
theorem zTy:∀n,n=2∨n=3->∀j,rJ [.lst ((hJ n j).map .str)]=some (.tup [.str "fold",.bl j,.int n])/\vG [.lst ((hJ n j).map .str)]=none:=by
 rintro n (rfl | rfl) j<;>cases j<;>exact⟨by kernel_rfl,by kernel_rfl⟩
theorem zRz:∀n,n=2∨n=3->∀j,∀mm:B,∃y2,uZ [.fz (.str (xG n j)),mm,.no,.no]=sA [.fz (.str (xG n j)),mm,y2,.fz (.lst (((aI n j).map jn).map .str))]:=by
 rintro n (rfl | rfl) j mm<;>cases j
 · exact⟨.fz (.lst ((hJ 2 false).map .str)),by kernel_rfl⟩
 · exact⟨.fz (.lst ((hJ 2 true).map .str)),by kernel_rfl⟩
 · exact⟨.fz (.lst ((hJ 3 false).map .str)),by kernel_rfl⟩
 · exact⟨.fz (.lst ((hJ 3 true).map .str)),by kernel_rfl⟩
theorem zSI {n:Nat}(hn:n=2∨n=3)(j:Bool)(m:Int):∃ws,Rw ws/\vG [.lst (ws.map .str)]=some (xK 1)/\sK [.str (xG n j),.int m]=some (.str (jn ws)):=by
 have hl:(aI n j).length=20:=rfl
 obtain⟨x,hx,ea⟩:=zWb (l:=(aI n j).map jn) (k:=20) (by decide) (by rw[Qu];exact hl) m
 obtain⟨ws,hws,rfl⟩:=Wg.mp hx
 obtain⟨y2,e⟩:=zRz n hn j (.fz (.int m))
 refine⟨ws,zSS (Wq.mp (zZH n hn j).1 ws hws),xN (zSQ n hn j) hws,?_⟩
 show(uZ [.fz (.str (xG n j)),.fz (.int m),.no,.no]).bind qY=_
 rw[e]
 unfold sA
 refine(iW _).trans ?_
 have el:wS (eV 3) [.fz (.str (xG n j)),.fz (.int m),y2,.fz (.lst (((aI n j).map jn).map .str))]=some (.int 20):=rfl
 refine(pC rfl (xR (i:=m) (j:=20) rfl el rfl)).trans ?_
 exact ea
theorem hZ (R:List Str)(i:Nat)(ws:List Str)(hz:R[i]?=some (jn ws))(r:Rw ws):yA [.lst (R.map .str),.int ((i:Int)+1)]=some (.lst (ws.map .str))/\wI [.lst (R.map .str),.int ((i:Int)+1)]=none:=by
 have hi:i < R.length:=by
   rcases Nat.lt_or_ge i R.length with h | h
   · exact h
   · rw[Ri h] at hz;cases hz
 have t:eB2 gGt (eV 1) (wS (eV 0)) [.fz (.lst (R.map .str)),.fz (.int ((i:Int)+1))]=some false:=by
   show some (decide ((((R.map D.str).length:Nat):Int) < (i:Int)+1))=_
   rw[Qu,Qz (by omega)]
 constructor
 · show(qQ [.fz (.lst (R.map .str)),.fz (.int ((i:Int)+1))]).bind qY=_
   unfold qQ
   rw[yI (ρ':=[.fz (.lst (R.map .str)),.fz (.int ((i:Int)+1))]) ((sH t).trans rfl)]
   unfold gJ
   have e1:cX (eV 1) (eC (.int 1)) [.fz (.lst (R.map .str)),.fz (.int ((i:Int)+1))]=some (.int (i:Int)):=by
     refine(xR (i:=(i:Int)+1) (j:=1) rfl rfl rfl).trans ?_
     show some (D.int ((i:Int)+1 - 1))=_
     rw[show(i:Int)+1 - 1=i from by omega]
   have e2:eIx (eV 0) (cX (eV 1) (eC (.int 1))) [.fz (.lst (R.map .str)),.fz (.int ((i:Int)+1))]=some (.str (jn ws)):=by
     refine(pC rfl e1).trans ?_
     show atI (R.map D.str) (i:Int)=_
     unfold atI
     rw[Qu]
     have:ixN R.length (i:Int)=some i:=by unfold ixN;rw[Wr (by omega),Wr (by omega)];rfl
     rw[this]
     show(R.map D.str)[i]?=_
     rw[Wx,hz];rfl
   exact(iW _).trans (vE (gZ e2 r))
 · show tZ [.fz (.lst (R.map .str)),.fz (.int ((i:Int)+1))]=_
   unfold tZ
   rw[zWn t]
   rfl
theorem zTd (R:List Str)(i:Nat)(h:R.length=i):wI [.lst (R.map .str),.int ((i:Int)+1)]=some (xK ((i:Int)+1)):=by
 have t:eB2 gGt (eV 1) (wS (eV 0)) [.fz (.lst (R.map .str)),.fz (.int ((i:Int)+1))]=some true:=by
   show some (decide ((((R.map D.str).length:Nat):Int) < (i:Int)+1))=_
   rw[Qu,Qm (by omega)]
 show tZ [.fz (.lst (R.map .str)),.fz (.int ((i:Int)+1))]=_
 unfold tZ
 rw[zUP t]
 exact zVq rfl
def kC (xs:List Int):KT:=.tup (xs.map .int)
theorem zY8 (n:Nat):∀xs:List Int,zVQ (ktD n) (xs.map .int)=some (xs.map .int)
 | []=>rfl
 | x::r=>by
   have e:ktD n (.int x)=some (.int x):=by cases n<;>rfl
   rw[Qx,zVQ,e,zY8 n r]
   rfl
theorem zRK (xs:List Int):zQn (xS xs)=some (kC xs):=by
 show(zVQ (ktD 7) (xs.map .int)).map KT.tup=_
 rw[zY8]
 rfl
theorem zMU (xs:List Int):ktD 8 (xS xs)=some (kC xs):=zRK xs
theorem zP0 {xs ys:List Int}(h:kC xs=kC ys):xs=ys:=by
 unfold kC at h
 injection h with h
 exact(List.map_inj_right (fun a b e=>by injection e)).mp h
def pU (ps:List Pt):List (D×D):=ps.map fun p=>(xS p.c,.bl true)
theorem zTK (ps:List Pt):(pU ps).map (fun p=>ktD 8 p.1)=ps.map fun p=>some (kC p.c):=by
 unfold pU
 rw[Th]
 exact List.map_congr_left fun p _=>zMU p.c
theorem zWh {ps:List Pt}{c:List Int}:(some (kC c)∈(pU ps).map fun p=>ktD 8 p.1)↔c∈ps.map (·.c):=by
 rw[zTK]
 constructor
 · intro z
   obtain⟨p,hp,e⟩:=Wg.mp z
   exact Wg.mpr ⟨p,hp,zP0 (Wo e)⟩
 · intro z
   obtain⟨p,hp,e⟩:=Wg.mp z
   exact Wg.mpr ⟨p,hp,by rw[←e]⟩
abbrev stL (n:Nat)(R:List Str)(a b:D)(acc:List Pt)(x6 x7:B):List B:=[.fz (.lst (R.map .str)),.fz a,.fz b,.fz (.int n),.ow (acc.map wB),.od (pU acc),x6,x7]
abbrev xL:Ef:=(oY (vOr (zI 2 wI (zY (eV 0) (zY (eV 6) zS))) (zI 3 yO (zY (zI 2 yA (zY (eV 0) (zY (eV 6) zS))) (zY (eV 3) (zY (eV 6) zS))))) (yH 7 (zI 3 vD (zY (zI 2 yA (zY (eV 0) (zY (eV 6) zS))) (zY (eV 3) (zY (eV 6) zS))))) (vIf (zWs 5 (pM "Part" "corner" (eV 7))) (uD "CornerTwice" ["row"] 1 xX (zY (eV 6) zS)) nU))
theorem zP6 {n:Nat}{R:List Str}{a b:D}{acc:List Pt}{x6:B}{p:Pt}:zWs 5 (pM "Part" "corner" (eV 7)) (stL n R a b acc x6 (.fz (wB p)))=some (decide (p.c∈acc.map (·.c))):=by
 have hf:=zWF (stL n R a b acc x6 (.fz (wB p))) (eV 7) p rfl
 have hf:pM "Part" "corner" (eV 7) (stL n R a b acc x6 (.fz (wB p)))=some (xS p.c):=hf
 unfold zWs
 rw[hf,Qw,zRK,Qw]
 show some (decide (some (kC p.c)∈(pU acc).map fun p=>ktD 8 p.1))=_
 congr 1
 exact Ue.mpr zWh
section
variable {n:Nat} (hn:n=2∨n=3)
include hn
theorem zY3 (R:List Str)(i:Nat)(p:Pt)(hc:p.c∈zQ n)(ht:p.t∈zL n)(hz:R[i]?=some (xU p))(a b:D)(acc:List Pt)(x7:B) :
   zI 3 vD (zY (zI 2 yA (zY (eV 0) (zY (eV 6) zS))) (zY (eV 3) (zY (eV 6) zS))) (stL n R a b acc (.fz (.int ((i:Int)+1))) x7)=some (wB p) /\
   vOr (zI 2 wI (zY (eV 0) (zY (eV 6) zS))) (zI 3 yO (zY (zI 2 yA (zY (eV 0) (zY (eV 6) zS))) (zY (eV 3) (zY (eV 6) zS)))) (stL n R a b acc (.fz (.int ((i:Int)+1))) x7)=none:=by
 obtain⟨h1,h2⟩:=hZ R i _ hz (pE hn p hc ht)
 obtain⟨h3,h4⟩:=zQf hn p hc ht ((i:Int)+1)
 have hw:zI 2 yA (zY (eV 0) (zY (eV 6) zS)) (stL n R a b acc (.fz (.int ((i:Int)+1))) x7)=some (.lst ((xP p).map .str)):=(wQ rfl rfl).trans h1
 refine⟨(zYy hw rfl rfl).trans h3,?_⟩
 rw[zUz ((wQ rfl rfl).trans h2)]
 exact(zYy hw rfl rfl).trans h4
theorem zYT (R:List Str)(i:Nat)(p:Pt)(hc:p.c∈zQ n)(ht:p.t∈zL n)(hz:R[i]?=some (xU p))(acc:List Pt)(ha:acc.length<=100)(hnew:p.c∉acc.map (·.c))(a b:D)(x7:B) :
   yD (stL n R a b acc (.fz (.int ((i:Int)+1))) x7)=some (.nx (stL n R a b (acc++[p]) (.fz (.int ((i:Int)+1))) (.fz (wB p))))/\xL (stL n R a b acc (.fz (.int ((i:Int)+1))) x7)=none:=by
 obtain⟨h1,h0⟩:=zY3 hn R i p hc ht hz a b acc x7
 have hf:∀ρ:List B,eV 7 ρ=some (wB p)->pM "Part" "corner" (eV 7) ρ=some (xS p.c):=fun ρ h=>zWF ρ (eV 7) p h
 have t:zWs 5 (pM "Part" "corner" (eV 7)) (stL n R a b acc (.fz (.int ((i:Int)+1))) (.fz (wB p)))=some false:=by rw[zP6,Qz hnew]
 constructor
 · unfold yD
   rw[xQ h1]
   dsimp only[List.set]
   unfold uH
   rw[yI (ρ':=stL n R a b acc (.fz (.int ((i:Int)+1))) (.fz (wB p))) ((sH t).trans rfl)]
   unfold uG
   rw[yI (ρ':=[.fz (.lst (R.map .str)),.fz a,.fz b,.fz (.int n),.ow (acc.map wB),.od (pU (acc++[p])),.fz (.int ((i:Int)+1)),.fz (wB p)])]
   · unfold lN
     rw[zVV (d:=wB p) (ds:=acc.map wB) rfl rfl (by rw[Qu];omega)]
     unfold stL
     rw[Et,Qx,Ea]
     rfl
   · unfold zUo
     rw[show eC (.bl true) _=some (D.bl true) from rfl,Qw,hf _ rfl,Qw,zRK,Qw]
     show(if (pU acc).length<=lim/\_ then _ else none)=_
     rw[Wr]
     · unfold pU
       rw[Et]
       rfl
     · refine⟨?_,?_,?_⟩
       · unfold pU;rw[Qu];show acc.length<=100000;omega
       · rfl
       · exact fun z=>hnew (zWh.mp z)
 · unfold xL
   rw[wE h0 (qC h1)]
   dsimp only[List.set]
   rw[zWn t]
   rfl
theorem zRq (R:List Str)(i:Nat)(p:Pt)(hc:p.c∈zQ n)(ht:p.t∈zL n)(hz:R[i]?=some (xU p))(acc:List Pt)(hold:p.c∈acc.map (·.c))(a b:D)(x7:B) :
   xL (stL n R a b acc (.fz (.int ((i:Int)+1))) x7)=some (bW ((i:Int)+1)):=by
 obtain⟨h1,h0⟩:=zY3 hn R i p hc ht hz a b acc x7
 unfold xL
 rw[wE h0 (qC h1)]
 dsimp only[List.set]
 rw[zUP (by rw[zP6,Qm hold])]
 exact zRt rfl
omit hn in
theorem zOv (R:List Str)(i:Nat)(ws:List Str)(hb:Bad n ws)(hz:R[i]?=some (jn ws))(acc:List Pt)(a b:D)(x7:B) :
   xL (stL n R a b acc (.fz (.int ((i:Int)+1))) x7)=some (xK ((i:Int)+1)):=by
 obtain⟨h1,h2⟩:=hZ R i _ hz hb.rw
 refine nI ?_
 rw[zUz ((wQ rfl rfl).trans h2)]
 exact(zYy ((wQ rfl rfl).trans h1) rfl rfl).trans (hb.no _)
omit hn in
theorem zQT (R:List Str)(i:Nat)(hz:R.length=i)(acc:List Pt)(a b:D)(x7:B) :
   xL (stL n R a b acc (.fz (.int ((i:Int)+1))) x7)=some (xK ((i:Int)+1)) :=
 nI (zNW ((wQ rfl rfl).trans (zTd R i hz)))
abbrev mQ (N k:Nat):List D:=(List.range N).map fun(i:Nat)=>D.int (((k+i:Nat):Int)+1)
omit hn in
theorem iP (N k:Nat):mQ (N+1) k=D.int ((k:Int)+1)::mQ N (k+1):=by
 unfold mQ
 rw[List.range_succ_eq_map,Qx,Th]
 congr 1
 refine List.map_congr_left fun i _=>?_
 show D.int (((k+(i+1):Nat):Int)+1)=D.int (((k+1+i:Nat):Int)+1)
 rw[show k+1+i=k+(i+1) from by omega]
theorem bO (R:List Str)(a b:D)(t:D):∀(r acc:List Pt) (k N:Nat) (x6 x7:B),(∀(i:Nat) (p:Pt),r[i]?=some p->R[k+i]?=some (xU p))->(∀p∈r,p.c∈zQ n/\p.t∈zL n)->((acc++r).map (·.c)).Nodup->acc.length+r.length<=100->r.length < N ->
   (∀x7,xL (stL n R a b (acc++r) (.fz (.int (((k+r.length:Nat):Int)+1))) x7)=some t)->lS (gN 6) yD xL (mQ N k) (stL n R a b acc x6 x7)=some t
 | [],acc,k,N+1,x6,x7,_,_,_,_,_,hx=>by
   rw[iP]
   unfold lS
   have h:=hx x7
   rw[Qb] at h
   show(match xL (stL n R a b acc (.fz (.int ((k:Int)+1))) x7) with | some t=>some t | none=>_)=_
   have h:xL (stL n R a b acc (.fz (.int ((k:Int)+1))) x7)=some t:=h
   rw[h]
 | p::r,acc,k,N+1,x6,x7,hR,ok,nd,hl,hN,hx=>by
   rw[Qo] at hl hN
   have hp:=ok p Qc
   have hnew:p.c∉acc.map (·.c):=by
     rw[Et,Qx] at nd
     intro z
     exact(Yy.mp nd).2.2 _ z _ Qc rfl
   obtain⟨s1,s2⟩:=zYT hn R k p hp.1 hp.2 (by have h:=hR 0 p rfl;exact h) acc (by omega) hnew a b x7
   have ih:=bO R a b t r (acc++[p]) (k+1) N (.fz (.int ((k:Int)+1))) (.fz (wB p)) (fun i q hq=>by have h:=hR (i+1) q hq;rw[show k+1+i=k+(i+1) from by omega];exact h) (fun q hq=>ok q (Qi _ hq)) (by rw[Qv,Tq];exact nd) (by rw[Qd,Ew];omega) (by omega) (fun x7=>by
     have h:=hx x7
     rw[Qo] at h
     rw[Qv,Tq,show k+1+r.length=k+(r.length+1) from by omega]
     exact h)
   rw[iP]
   unfold lS
   show(match xL (stL n R a b acc (.fz (.int ((k:Int)+1))) x7) with | some t=>some t | none=>(yD (stL n R a b acc (.fz (.int ((k:Int)+1))) x7)).bind _)=_
   rw[s2]
   dsimp only
   rw[s1,Qw]
   exact ih
theorem zYr (R:List Str)(a b:D):∀(r acc:List Pt) (k:Nat) (x6 x7:B),(∀(i:Nat) (p:Pt),r[i]?=some p->R[k+i]?=some (xU p))->(∀p∈r,p.c∈zQ n/\p.t∈zL n)->((acc++r).map (·.c)).Nodup->acc.length+r.length<=100 ->
   (∃y6 y7,jW (gN 6) yD (mQ r.length k) (stL n R a b acc x6 x7)=some (.nx (stL n R a b (acc++r) y6 y7)))/\lS (gN 6) yD xL (mQ r.length k) (stL n R a b acc x6 x7)=none
 | [],acc,k,x6,x7,_,_,_,_=>by
   refine⟨⟨x6,x7,?_⟩,?_⟩
   · rw[Rq,Qb]
     unfold mQ
     rw[List.range_zero,Ea,jW]
   · rw[Rq]
     unfold mQ
     rw[List.range_zero,Ea,lS]
 | p::r,acc,k,x6,x7,hR,ok,nd,hl=>by
   rw[Qo] at hl
   have hp:=ok p Qc
   have hnew:p.c∉acc.map (·.c):=by
     rw[Et,Qx] at nd
     intro z
     exact(Yy.mp nd).2.2 _ z _ Qc rfl
   obtain⟨s1,s2⟩:=zYT hn R k p hp.1 hp.2 (by have h:=hR 0 p rfl;exact h) acc (by omega) hnew a b x7
   obtain⟨⟨y6,y7,e1⟩,e2⟩:=zYr R a b r (acc++[p]) (k+1) (.fz (.int ((k:Int)+1))) (.fz (wB p)) (fun i q hq=>by have h:=hR (i+1) q hq;rw[show k+1+i=k+(i+1) from by omega];exact h) (fun q hq=>ok q (Qi _ hq)) (by rw[Qv,Tq];exact nd) (by rw[Qd,Ew];omega)
   rw[Qv,Tq] at e1
   rw[Qo,iP]
   refine⟨⟨y6,y7,?_⟩,?_⟩
   · rw[cW (ρ1:=stL n R a b acc (.fz (.int ((k:Int)+1))) x7) rfl s1]
     exact e1
   · unfold lS
     show(match xL (stL n R a b acc (.fz (.int ((k:Int)+1))) x7) with | some t=>some t | none=>(yD (stL n R a b acc (.fz (.int ((k:Int)+1))) x7)).bind _)=_
     rw[s2]
     dsimp only
     rw[s1,Qw]
     exact e2
end
theorem zSf {n:Nat}(hn:n=2∨n=3):fF [.int n,.int 1]=some (.int (2^n)):=by
 rcases hn with rfl | rfl<;>kernel_rfl
section
variable {n:Nat} (hn:n=2∨n=3)
include hn
theorem zVv (R:List Str)(a b:D)(x6 x7:B):iR2 (eC (.int 2)) (tU (eC (.int 2)) (zI 2 fF (zY (eV 3) (zY (eC (.int 1)) zS)))) (stL n R a b [] x6 x7)=some (mQ (2^n) 1):=by
 unfold iR2
 rw[show eC (.int 2) (stL n R a b [] x6 x7)=some (D.int 2) from rfl,Qw,show tU (eC (.int 2)) (zI 2 fF (zY (eV 3) (zY (eC (.int 1)) zS))) (stL n R a b [] x6 x7)=some (D.int (2+2^n)) from xR (i:=2) (j:=2^n) rfl ((wQ rfl rfl).trans (zSf hn)) rfl,Qw]
 rcases hn with rfl | rfl<;>rfl
theorem zU6 (R:List Str)(j:Bool)(h0:R[0]?=some (xG n j))(x1 x2 x3 x4 x5 x6 x7:B) :
   bC (zI 1 rJ (zY (zI 2 yA (zY (eV 0) (zY (eC (.int 1)) zS))) zS)) (gT (zB (gN 1) (zB (gN 2) (zB (gN 3) wR)))) [.fz (.lst (R.map .str)),x1,x2,x3,x4,x5,x6,x7]=some (.nx [.fz (.lst (R.map .str)),.fz (.str "fold"),.fz (.bl j),.fz (.int n),x4,x5,x6,x7]) /\
   vOr (zI 2 wI (zY (eV 0) (zY (eC (.int 1)) zS))) (zI 1 vG (zY (zI 2 yA (zY (eV 0) (zY (eC (.int 1)) zS))) zS)) [.fz (.lst (R.map .str)),x1,x2,x3,x4,x5,x6,x7]=none:=by
 obtain⟨h1,h2⟩:=hZ R 0 _ h0 (zSS (zZH n hn j).2)
 obtain⟨h3,h4⟩:=zTy n hn j
 have h1:yA [.lst (R.map .str),.int 1]=some (.lst ((hJ n j).map .str)):=h1
 have h2:wI [.lst (R.map .str),.int 1]=none:=h2
 constructor
 · unfold bC
   rw[(pT ((wQ (x:=.lst (R.map .str)) (y:=.int 1) rfl rfl).trans h1)).trans h3]
   rfl
 · rw[zUz ((wQ (x:=.lst (R.map .str)) (y:=.int 1) rfl rfl).trans h2)]
   exact(pT ((wQ (x:=.lst (R.map .str)) (y:=.int 1) rfl rfl).trans h1)).trans h4
theorem zVK (R:List Str)(j:Bool)(t:D)(h0:R[0]?=some (xG n j))(r:List Pt)(hR:∀(i:Nat) (p:Pt),r[i]?=some p->R[1+i]?=some (xU p))(ok:∀p∈r,p.c∈zQ n/\p.t∈zL n)(nd:(r.map (·.c)).Nodup)(hN:r.length < 2^n)
   (hx:∀x7,xL (stL n R (.str "fold") (.bl j) r (.fz (.int (((1+r.length:Nat):Int)+1))) x7)=some t):xZ [.lst (R.map .str)]=some t:=by
 obtain⟨e1,e2⟩:=zU6 hn R j h0 .no .no .no .no .no .no .no
 have hs:r.length<=100:=by rcases hn with rfl | rfl<;>omega
 have l:=bO hn R (.str "fold") (.bl j) t r [] 1 (2^n) .no .no hR ok (by rw[We];exact nd) (by simp;omega) hN (by rw[We];exact hx)
 show wV [.fz (.lst (R.map .str)),.no,.no,.no,.no,.no,.no,.no]=_
 unfold wV
 rw[wE e2 e1,wE (ρ':=[.fz (.lst (R.map .str)),.fz (.str "fold"),.fz (.bl j),.fz (.int n),.ow [],.no,.no,.no]) rfl rfl,wE (ρ':=stL n R (.str "fold") (.bl j) [] .no .no) rfl rfl]
 unfold zSX
 rw[zVv hn,Qw]
 exact l
theorem zUW (R:List Str)(j:Bool)(h0:R[0]?=some (xG n j)){ps:List Pt}(ok:PtsOk n ps)(hR:∀(i:Nat) (p:Pt),ps[i]?=some p->R[1+i]?=some (xU p)):vA [.lst (R.map .str)]=some (jK "fold" n j ps)/\xZ [.lst (R.map .str)]=none:=by
 obtain⟨e1,e2⟩:=zU6 hn R j h0 .no .no .no .no .no .no .no
 have hlen:=ok.len
 have hcs:∀p∈ps,p.c∈zQ n/\p.t∈zL n:=fun p hp=>⟨ok.perm.mem_iff.mp (Wg.mpr ⟨p,hp,rfl⟩),ok.turn p hp⟩
 have hnd:((([]:List Pt)++ps).map (·.c)).Nodup:=by rw[We];exact ok.perm.nodup_iff.mpr (lK hn)
 have hs:=ok.small hn
 obtain⟨⟨y6,y7,l1⟩,l2⟩:=zYr hn R (.str "fold") (.bl j) ps [] 1 .no .no hR hcs hnd (by simp;omega)
 rw[We,hlen] at l1
 rw[hlen] at l2
 constructor
 · show(sZ [.fz (.lst (R.map .str)),.no,.no,.no,.no,.no,.no,.no]).bind qY=_
   unfold sZ
   rw[yI e1]
   unfold pZ
   rw[yI (ρ':=[.fz (.lst (R.map .str)),.fz (.str "fold"),.fz (.bl j),.fz (.int n),.ow [],.no,.no,.no]) rfl]
   unfold pS
   rw[yI (ρ':=stL n R (.str "fold") (.bl j) [] .no .no) rfl]
   unfold pY
   rw[yI (ρ':=stL n R (.str "fold") (.bl j) ps y6 y7)]
   · have ea:=zH (f:=eV 1) (ρ:=[.fz (.lst (R.map .str)),.fz (.str "fold"),.fz (.bl j),.fz (.int n),.fz (.lst (ps.map wB)),.od (pU ps),y6,y7]) (d:=.str "fold") rfl (zH (f:=eV 3) (d:=.int n) rfl (zH (f:=eV 2) (d:=.bl j) rfl (zH (f:=eV 4) (d:=.lst (ps.map wB)) (g:=zS) (ds:=[]) rfl rfl)))
     have em:=zRw (c:="Curve") (ns:=["name","dims","joined","parts"]) (n:=4) (f:=gF) (xs:=[.str "fold",.int n,.bl j,.lst (ps.map wB)]) ea rfl rfl rfl
     have q:=iW ((zZV "Curve" ["name","dims","joined","parts"] 4 gF (zY (eV 1) (zY (eV 3) (zY (eV 2) (zY (eV 4) zS))))) [.fz (.lst (R.map .str)),.fz (.str "fold"),.fz (.bl j),.fz (.int n),.fz (.lst (ps.map wB)),.od (pU ps),y6,y7])
     exact q.trans em
   · unfold gG
     rw[zVv hn,Qw]
     exact l1
 · show wV [.fz (.lst (R.map .str)),.no,.no,.no,.no,.no,.no,.no]=_
   unfold wV
   rw[wE e2 e1,wE (ρ':=[.fz (.lst (R.map .str)),.fz (.str "fold"),.fz (.bl j),.fz (.int n),.ow [],.no,.no,.no]) rfl rfl,wE (ρ':=stL n R (.str "fold") (.bl j) [] .no .no) rfl rfl]
   unfold zSX
   rw[zVv hn,Qw]
   exact l2
end
theorem zTt (R:List Str)(ws:List Str)(h0:R[0]?=some (jn ws))(r:Rw ws)(hx:vG [.lst (ws.map .str)]=some (xK 1)):xZ [.lst (R.map .str)]=some (xK 1):=by
 obtain⟨h1,h2⟩:=hZ R 0 _ h0 r
 have h1:yA [.lst (R.map .str),.int 1]=some (.lst (ws.map .str)):=h1
 have h2:wI [.lst (R.map .str),.int 1]=none:=h2
 show wV [.fz (.lst (R.map .str)),.no,.no,.no,.no,.no,.no,.no]=_
 unfold wV
 refine nI ?_
 rw[zUz ((wQ (x:=.lst (R.map .str)) (y:=.int 1) rfl rfl).trans h2)]
 exact(pT ((wQ (x:=.lst (R.map .str)) (y:=.int 1) rfl rfl).trans h1)).trans hx
theorem zZ9:∀l:List Str,zY2 (l.map .str)=some l
 | []=>rfl
 | x::r=>by rw[Qx,zY2,zZ9 r];rfl
structure Rows (R:List Str):Prop where
 ne:R≠[]
 few:R.length<=20
 each:∀z∈R,tL 10 z/\z.length<=90
theorem Rows.join {R:List Str}(h:Rows R){g:Lf}{ρ:List B}(hg:g ρ=some (R.map .str)):uR (eC (.str "\n")) g ρ=some (.str (Str.join "\n" R))/\bI (.str (Str.join "\n" R)) (.str "\n")=some (R.map .str):=by
 have h6:("\n":Str).length=1:=by decide +kernel
 have hl:=zSt (sep:="\n") (k:=90) h6 fun z hz=>(h.each z hz).2
 have hf:=h.few
 have hs:=zXW (k:=90) R fun z hz=>(h.each z hz).2
 constructor
 · unfold uR
   rw[show eC (.str "\n") ρ=some (D.str "\n") from rfl,Qw,hg,Qw]
   dsimp only
   rw[zZ9,Qw,Wr]
   · exact Ec (fun z=>some (D.str z)) (StrLaws.glued_eq_join _ _)
   · rw[h6];omega
 · rw[zN5] at hl ⊢
   show(if 1<=(⟨#[10]⟩:Str).length/\(Str.join ⟨#[10]⟩ R).length<=100000 then some ((Txt.split (Str.join ⟨#[10]⟩ R) ⟨#[10]⟩).map D.str) else none)=_
   rw[Wr ⟨Ql 1,by omega⟩,bS 10 R (fun z hz=>(h.each z hz).1) h.ne]
theorem zSk {R:List Str}(h:Rows R){t:D}(hx:xZ [.lst (R.map .str)]=some t):sC [.str (Str.join "\n" R)]=some t:=by
 have hsp:=(h.join (g:=fun _=>some (R.map .str)) (ρ:=[]) rfl).2
 show uA [.fz (.str (Str.join "\n" R)),.no,.no,.no]=_
 unfold uA
 rw[wE rfl (qC (d:=.lst (R.map .str)) (vE (by
   unfold vV
   rw[show eV 0 [.fz (.str (Str.join "\n" R)),.no,.no,.no]=some (D.str (Str.join "\n" R)) from rfl,Qw,show eC (.str "\n") [.fz (.str (Str.join "\n" R)),.no,.no,.no]=some (D.str "\n") from rfl,Qw,hsp])))]
 exact nI ((pT rfl).trans hx)
section
variable {n:Nat} {R:List Str} (h:Rows R) {j:Bool} {ps:List Pt} (hd:vA [.lst (R.map .str)]=some (jK "fold" n j ps))
include h hd
theorem zPO (hx:xZ [.lst (R.map .str)]=none)(hl:R.length=ps.length+2):sC [.str (Str.join "\n" R)]=some (xK ((ps.length:Nat)+2)):=by
 have hsp:=(h.join (g:=fun _=>some (R.map .str)) (ρ:=[]) rfl).2
 show uA [.fz (.str (Str.join "\n" R)),.no,.no,.no]=_
 unfold uA
 rw[wE rfl (qC (d:=.lst (R.map .str)) (vE (by
   unfold vV
   rw[show eV 0 [.fz (.str (Str.join "\n" R)),.no,.no,.no]=some (D.str (Str.join "\n" R)) from rfl,Qw,show eC (.str "\n") [.fz (.str (Str.join "\n" R)),.no,.no,.no]=some (D.str "\n") from rfl,Qw,hsp])))]
 dsimp only[List.set]
 rw[wE ((pT rfl).trans hx) (qC ((pT rfl).trans hd))]
 dsimp only[List.set]
 rw[wE rfl (qC (d:=.int (1+(ps.length:Nat))) (by
   refine(xR (i:=1) (j:=(ps.length:Nat)) rfl ?_ rfl)
   unfold wS
   rw[show pM "Curve" "parts" (eV 2) [.fz (.str (Str.join "\n" R)),.fz (.lst (R.map .str)),.fz (jK "fold" n j ps),.no]=some (.lst (ps.map wB)) from zUR _ (eV 2) (wN:="fold") (n:=n) (j:=j) (ps:=ps) rfl]
   show some (D.int ((ps.map wB).length:Nat))=_
   rw[Qu]))]
 dsimp only[List.set]
 have t:eB2 gGt (wS (eV 1)) (eV 3) [.fz (.str (Str.join "\n" R)),.fz (.lst (R.map .str)),.fz (jK "fold" n j ps),.fz (.int (1+(ps.length:Nat)))]=some true:=by
   show some (decide ((1+(ps.length:Nat):Int) < ((R.map D.str).length:Nat)))=_
   rw[Qu,hl,Qm (by omega)]
 refine nI ((zUP t).trans ?_)
 refine(zVq (r:=1+(ps.length:Nat)+1) (xR (i:=1+(ps.length:Nat)) (j:=1) rfl rfl rfl)).trans ?_
 rw[show(1+(ps.length:Nat)+1:Int)=(ps.length:Nat)+2 by omega]
theorem of_eq (hj:j=false)(hl:R.length=ps.length+1):mC [.str (Str.join "\n" R)]=some (jK "fold" n j ps):=by
 have hsp:=(h.join (g:=fun _=>some (R.map .str)) (ρ:=[]) rfl).2
 show(qR [.fz (.str (Str.join "\n" R)),.no,.no,.no]).bind qY=_
 unfold qR
 rw[xQ (d:=.lst (R.map .str)) (vE (by
   unfold vV
   rw[show eV 0 [.fz (.str (Str.join "\n" R)),.no,.no,.no]=some (D.str (Str.join "\n" R)) from rfl,Qw,show eC (.str "\n") [.fz (.str (Str.join "\n" R)),.no,.no,.no]=some (D.str "\n") from rfl,Qw,hsp]))]
 dsimp only[List.set]
 unfold mN
 rw[xQ ((pT rfl).trans hd)]
 dsimp only[List.set]
 unfold lW
 rw[xQ (d:=.int (1+(ps.length:Nat))) (by
   refine(xR (i:=1) (j:=(ps.length:Nat)) rfl ?_ rfl)
   unfold wS
   rw[show pM "Curve" "parts" (eV 2) [.fz (.str (Str.join "\n" R)),.fz (.lst (R.map .str)),.fz (jK "fold" n j ps),.no]=some (.lst (ps.map wB)) from zUR _ (eV 2) (wN:="fold") (n:=n) (j:=j) (ps:=ps) rfl]
   show some (D.int ((ps.map wB).length:Nat))=_
   rw[Qu])]
 dsimp only[List.set]
 unfold mF
 have t:eB2 gGt (wS (eV 1)) (eV 3) [.fz (.str (Str.join "\n" R)),.fz (.lst (R.map .str)),.fz (jK "fold" n j ps),.fz (.int (1+(ps.length:Nat)))]=some false:=by
   show some (decide ((1+(ps.length:Nat):Int) < ((R.map D.str).length:Nat)))=_
   rw[Qu,hl,Qz (by omega)]
 rw[yI (ρ':=[.fz (.str (Str.join "\n" R)),.fz (.lst (R.map .str)),.fz (jK "fold" n j ps),.fz (.int (1+(ps.length:Nat)))]) ((sH t).trans rfl)]
 unfold iI
 subst hj
 exact(iW _).trans ((pT rfl).trans rfl)
theorem zTL (hx:xZ [.lst (R.map .str)]=none):vW [.lst (R.map .str),.bl false]=some .non:=by
 show(w9 [.fz (.lst (R.map .str)),.fz (.bl false),.no,.no]).bind qY=_
 unfold w9
 rw[xQ (d:=.non) rfl]
 dsimp only[List.set]
 unfold tG
 rw[yI (ρ':=[.fz (.lst (R.map .str)),.fz (.bl false),.fz .non,.no])]
 · rfl
 · unfold zWM
   rw[zWn rfl,(pT (x:=.lst (R.map .str)) rfl).trans hx]
   dsimp only
   unfold sIf
   rw[show tB1 (eV 1) [.fz (.lst (R.map .str)),.fz (.bl false),.fz .non,.no]=some false from rfl,Qw,Wj Qk]
   unfold zXd
   rw[(pT (x:=.lst (R.map .str)) rfl).trans hd]
   rfl
end
def kQ (kd:Bool)(r:Int):D:=if kd=true then bW r else xK r
def kdS (kd:Bool):Str:=if kd=true then "corner" else "row"
theorem fA {R:List Str}(w:Bool){kd:Bool}{r:Int}(h:Rows R)(hx:(if w=true then sC [.str (Str.join "\n" R)] else xZ [.lst (R.map .str)])=some (kQ kd r)):vW [.lst (R.map .str),.bl w]=some (kQ kd r):=by
 show(w9 [.fz (.lst (R.map .str)),.fz (.bl w),.no,.no]).bind qY=_
 unfold w9
 rw[xQ (d:=.non) rfl]
 dsimp only[List.set]
 unfold tG
 rw[yI (ρ':=[.fz (.lst (R.map .str)),.fz (.bl w),.fz (kQ kd r),.no])]
 · rfl
 · have e:vIf (tB1 (eV 1)) (zI 1 sC (zY (uR (eC (.str "\n")) (iL (eV 0))) zS)) (zI 1 xZ (zY (eV 0) zS)) [.fz (.lst (R.map .str)),.fz (.bl w),.fz .non,.no]=some (kQ kd r):=by
     cases w with
     | true =>
       rw[zUP rfl]
       exact(pT (h.join rfl).1).trans hx
     | false =>
       rw[zWn rfl]
       exact(pT rfl).trans hx
   unfold zWM
   rw[e]
   cases kd<;>rfl
theorem zZU (kd:Bool)(r:Int):uO [kQ kd r,.int r,.str (kdS kd)]=some (.bl true):=by
 have e:∀kd,uO [kQ kd r,.int r,.str (kdS kd)]=some (.bl (decide (r=r))):=fun kd=>by cases kd<;>kernel_rfl
 rw[e,Qm rfl]
theorem zOC (xs:List D)(a:Nat):zZf xs none (some (a:Int))=xs.take a:=by
 unfold zZf
 rw[HT.sIx_none,HT.sIx_nat,List.drop_zero,Nat.sub_zero,List.take_eq_take_iff]
 omega
theorem zSm (xs:List D)(a:Nat):zZf xs (some (a:Int)) none=xs.drop a:=by
 unfold zZf
 rw[HT.sIx_none,HT.sIx_nat]
 by_cases h:a<=xs.length
 · rw[Nat.min_eq_left h]
   exact Uy (by rw[Ts];omega)
 · rw[Nat.min_eq_right (by omega),List.drop_of_length_le (Ql _),List.drop_of_length_le (by omega),List.take_nil]
theorem sg2 (x0 x1 x2 x3 x4 x6 x7 x8:B):(zL 2).map (fun t=>uR (eC (.str "")) (xH (iT (eV 5)) 2 [] (gT (zB (gN 0) (zB (gN 1) wR))) tOK (z0 (eIx (eC (.str "+-")) (eV 1)) (eIx (eC (.str "xyz")) (eV 0)))) [x0,x1,x2,x3,x4,.fz (yT t),x6,x7,x8])=(zL 2).map fun t=>some (.str (yW t)):=by kernel_rfl
theorem sg3 (x0 x1 x2 x3 x4 x6 x7 x8:B):(zL 3).map (fun t=>uR (eC (.str "")) (xH (iT (eV 5)) 2 [] (gT (zB (gN 0) (zB (gN 1) wR))) tOK (z0 (eIx (eC (.str "+-")) (eV 1)) (eIx (eC (.str "xyz")) (eV 0)))) [x0,x1,x2,x3,x4,.fz (yT t),x6,x7,x8])=(zL 3).map fun t=>some (.str (yW t)):=by kernel_rfl
theorem cg2 (x0 x1 x2 x3 x5 x6 x7 x8:B):(zQ 2).map (fun c=>uR (eC (.str "")) (xH (iT (eV 4)) 1 [] (gN 0) tOK (mU (eV 0))) [x0,x1,x2,x3,.fz (xS c),x5,x6,x7,x8])=(zQ 2).map fun c=>some (.str (zO c)):=by kernel_rfl
theorem cg3 (x0 x1 x2 x3 x5 x6 x7 x8:B):(zQ 3).map (fun c=>uR (eC (.str "")) (xH (iT (eV 4)) 1 [] (gN 0) tOK (mU (eV 0))) [x0,x1,x2,x3,.fz (xS c),x5,x6,x7,x8])=(zQ 3).map fun c=>some (.str (zO c)):=by kernel_rfl
theorem zPo (c x:Str):jn ["part",c,x]++" back"=jn ["part",c,x,"back"]:=by
 have h:(" back":Str).cps.toList=32::("back":Str).cps.toList:=by decide +kernel
 apply uI
 simp only[w4,vK,rV,h,Qv,Wd,We]
theorem zT0:∀n:Nat,n=2∨n=3->∀(j:Bool) (x2 x3 x4 x5 x6 x7 x8:B),z0 (z0 (z0 (eC (.str "curve fold ")) (eIx (eL (yM (zY (eC (.str "loose")) (zY (eC (.str "joined")) zS)))) (fH (eV 1)))) (eC (.str " "))) (mU (eV 0)) [.fz (.int n),.fz (.bl j),x2,x3,x4,x5,x6,x7,x8]=some (.str (xG n j)):=by
 rintro n (rfl | rfl) j x2 x3 x4 x5 x6 x7 x8<;>cases j<;>kernel_rfl
section
variable {n:Nat} (hn:n=2∨n=3)
include hn
theorem zTn (p:Pt)(hc:p.c∈zQ n)(ht:p.t∈zL n)(x0 x1 x2 x7 x8:B)(rows:List D)(hl:rows.length<=1000) :
   vO [x0,x1,x2,.ow rows,.fz (xS p.c),.fz (yT p.t),.fz (.bl p.b),x7,x8]=some (.nx [x0,x1,x2,.ow (rows++[.str (xU p)]),.fz (xS p.c),.fz (yT p.t),.fz (.bl p.b),.fz (.str (yW p.t)),.fz (.str (xU p))]):=by
 obtain⟨c,t,b⟩:=p
 have lc:(zO c).length<=14:=Wf.len (nD hn hc _ (by simp))
 have lt:(yW t).length<=14:=Wf.len (kG hn ht _ (by simp))
 obtain⟨LL1,LL2,_⟩:=zUk
 have hA:uR (eC (.str "")) (xH (iT (eV 5)) 2 [] (gT (zB (gN 0) (zB (gN 1) wR))) tOK (z0 (eIx (eC (.str "+-")) (eV 1)) (eIx (eC (.str "xyz")) (eV 0)))) [x0,x1,x2,.ow rows,.fz (xS c),.fz (yT t),.fz (.bl b),x7,x8]=some (.str (yW t)):=by
   rcases hn with rfl | rfl
   · have h:=xN (sg2 x0 x1 x2 (.ow rows) (.fz (xS c)) (.fz (.bl b)) x7 x8) ht;exact h
   · have h:=xN (sg3 x0 x1 x2 (.ow rows) (.fz (xS c)) (.fz (.bl b)) x7 x8) ht;exact h
 have hC:uR (eC (.str "")) (xH (iT (eV 4)) 1 [] (gN 0) tOK (mU (eV 0))) [x0,x1,x2,.ow rows,.fz (xS c),.fz (yT t),.fz (.bl b),.fz (.str (yW t)),x8]=some (.str (zO c)):=by
   rcases hn with rfl | rfl
   · have h:=xN (cg2 x0 x1 x2 (.ow rows) (.fz (yT t)) (.fz (.bl b)) (.fz (.str (yW t))) x8) hc;exact h
   · have h:=xN (cg3 x0 x1 x2 (.ow rows) (.fz (yT t)) (.fz (.bl b)) (.fz (.str (yW t))) x8) hc;exact h
 have hB:z0 (z0 (z0 (eC (.str "part ")) (uR (eC (.str "")) (xH (iT (eV 4)) 1 [] (gN 0) tOK (mU (eV 0))))) (eC (.str " "))) (eV 7) [x0,x1,x2,.ow rows,.fz (xS c),.fz (yT t),.fz (.bl b),.fz (.str (yW t)),x8]=some (.str (jn ["part",zO c,yW t])):=by
   rw[←j3]
   exact aS (aS (aS rfl hC (by omega) (by omega)) rfl (by rw[yX];omega) (by omega)) rfl (by rw[yX,yX];omega) (by omega)
 have l3:(jn ["part",zO c,yW t]).length<=1000:=by rw[←j3,yX,yX,yX];omega
 have l5:(" back":Str).length=5:=by decide +kernel
 unfold vO
 rw[xQ hA]
 dsimp only[List.set]
 unfold oN
 rw[xQ hB]
 dsimp only[List.set]
 unfold oC
 rw[yI (ρ':=[x0,x1,x2,.ow rows,.fz (xS c),.fz (yT t),.fz (.bl b),.fz (.str (yW t)),.fz (.str (xU ⟨c,t,b⟩))])]
 · unfold jD
   rw[zVV (d:=.str (xU ⟨c,t,b⟩)) (ds:=rows) rfl rfl hl]
   rfl
 · cases b with
   | false =>
     rw[sH (b:=false) rfl,Wj Qk]
     rfl
   | true =>
     rw[sH (b:=true) rfl,Wr rfl,qC (aS (x:=jn ["part",zO c,yW t]) (y:=" back") rfl rfl l3 (by omega)),zPo]
     rfl
theorem zYJ (x0 x1 x2:B):∀(ps:List Pt) (x4 x5 x6 x7 x8:B) (rows:List D),(∀p∈ps,p.c∈zQ n/\p.t∈zL n)->rows.length+ps.length<=1000 ->
   ∃y4 y5 y6 y7 y8,jW (gT (zB (gN 4) (zB (gN 5) (zB (gN 6) wR)))) vO (ps.map xJ) [x0,x1,x2,.ow rows,x4,x5,x6,x7,x8]=some (.nx [x0,x1,x2,.ow (rows++ps.map fun p=>.str (xU p)),y4,y5,y6,y7,y8])
 | [],x4,x5,x6,x7,x8,rows,_,_=>⟨x4,x5,x6,x7,x8,by rw[Ea,Ea,Qb,jW]⟩
 | p::r,x4,x5,x6,x7,x8,rows,h,hl=>by
   have hp:=h p Qc
   rw[Qo] at hl
   obtain⟨y4,y5,y6,y7,y8,e⟩:=zYJ x0 x1 x2 r (.fz (xS p.c)) (.fz (yT p.t)) (.fz (.bl p.b)) (.fz (.str (yW p.t))) (.fz (.str (xU p))) (rows++[.str (xU p)]) (fun q hq=>h q (Qi _ hq)) (by rw[Qd,Ew];omega)
   refine⟨y4,y5,y6,y7,y8,?_⟩
   rw[Qx,cW (ρ1:=[x0,x1,x2,.ow rows,.fz (xS p.c),.fz (yT p.t),.fz (.bl p.b),x7,x8]) rfl (zTn hn p hp.1 hp.2 x0 x1 x2 x7 x8 rows (by omega)),e,Qv,Tq,Qx]
theorem zXs {ps:List Pt}(ok:PtsOk n ps)(j:Bool):lV [.int n,.bl j,.lst (ps.map xJ)]=some ((xG n j::ps.map xU).map D.str):=by
 have hs:=ok.small hn
 have hcs:∀p∈ps,p.c∈zQ n/\p.t∈zL n:=fun p hp=>⟨ok.perm.mem_iff.mp (Wg.mpr ⟨p,hp,rfl⟩),ok.turn p hp⟩
 obtain⟨y4,y5,y6,y7,y8,e⟩:=zYJ hn (.fz (.int n)) (.fz (.bl j)) (.fz (.lst (ps.map xJ))) ps .no .no .no .no .no [.str (xG n j)] hcs (by rw[Ew];omega)
 show(qM [.fz (.int n),.fz (.bl j),.fz (.lst (ps.map xJ)),.no,.no,.no,.no,.no,.no]).bind zRI=_
 unfold qM
 rw[yI (ρ':=[.fz (.int n),.fz (.bl j),.fz (.lst (ps.map xJ)),.ow [.str (xG n j)],.no,.no,.no,.no,.no]) (by
   unfold qZ
   rw[vQ (zH (zT0 n hn j _ _ _ _ _ _ _) (g:=zS) (ds:=[]) rfl) (by simp)]
   rfl)]
 unfold mJ
 have e':gG (iL (eV 2)) (gT (zB (gN 4) (zB (gN 5) (zB (gN 6) wR)))) vO [.fz (.int n),.fz (.bl j),.fz (.lst (ps.map xJ)),.ow [.str (xG n j)],.no,.no,.no,.no,.no]=some (.nx [.fz (.int n),.fz (.bl j),.fz (.lst (ps.map xJ)),.ow ([.str (xG n j)]++ps.map fun p=>.str (xU p)),y4,y5,y6,y7,y8]):=by
   unfold gG
   rw[show iL (eV 2) [.fz (.int n),.fz (.bl j),.fz (.lst (ps.map xJ)),.ow [.str (xG n j)],.no,.no,.no,.no,.no]=some (ps.map xJ) from rfl,Qw]
   exact e
 rw[yI e',Qx,Th]
 rfl
end
def rA {α:Type}(l:List α)(a:Nat)(x:α):List α:=l.take a++[x]++l.drop (a+1)
theorem fB {α:Type}{l:List α}{a:Nat}(h:a < l.length)(x:α):(rA l a x).length=l.length:=by
 unfold rA
 rw[Qd,Qd,Wm,Ts,Ew]
 omega
theorem zZS {α:Type}{l:List α}{a i:Nat}(h:a < l.length)(x:α)(hi:i < a):(rA l a x)[i]?=l[i]?:=by
 unfold rA
 rw[Qv,Wn (by rw[Wm];omega),Yv,Wr hi]
theorem zZX {α:Type}{l:List α}{a:Nat}(h:a < l.length)(x:α):(rA l a x)[a]?=some x:=by
 unfold rA
 rw[Qv,Ee (by rw[Wm];omega),Wm,Nat.min_eq_left (by omega),Nat.sub_self]
 rfl
theorem zTU {α:Type}{l:List α}{a:Nat}{x z:α}(h:z∈rA l a x):z∈l∨z=x:=by
 unfold rA at h
 rw[El,El] at h
 rcases h with(h | h) | h
 · exact .inl (To h)
 · exact .inr (Ey.mp h)
 · exact .inl (List.mem_of_mem_drop h)
theorem zYv {α β:Type}(f:α->β)(l:List α)(a:Nat)(x:α):(rA l a x).map f=(l.map f).take a++[f x]++(l.map f).drop (a+1):=by
 unfold rA
 rw[Et,Et,Uw,List.map_drop]
 rfl
theorem Rows.put {R:List Str}(h:Rows R){a:Nat}(ha:a < R.length){x:Str}(hx:tL 10 x/\x.length<=90):Rows (rA R a x):=by
 refine⟨fun z=>?_,by rw[fB ha];exact h.few,fun z hz=>?_⟩
 · have:=fB ha x
   rw[z] at this
   simp at this
   omega
 · rcases zTU hz with h1 | rfl
   · exact h.each z h1
   · exact hx
theorem zWG {f g:Ef}{ρ:List B}{ds:List D}{a:Nat}(h1:f ρ=some (.lst ds))(h2:g ρ=some (.int (a:Nat))):xI f oNo (xW g) ρ=some (ds.take a):=by
 unfold xI xW oNo
 rw[h1,Qw,Qw,h2,Qw]
 show some (zZf ds none (some (a:Int)))=_
 rw[zOC]
theorem zZ8 {f g:Ef}{ρ:List B}{ds:List D}{a:Nat}(h1:f ρ=some (.lst ds))(h2:g ρ=some (.int (a:Nat))):xI f (xW g) oNo ρ=some (ds.drop a):=by
 unfold xI xW oNo
 rw[h1,Qw,h2,Qw,Qw]
 show some (zZf ds (some (a:Int)) none)=_
 rw[zSm]
theorem zYc {R:List Str}{i:Nat}{z:Str}(h:R[i]?=some z):atD (.lst (R.map .str)) (.int (i:Nat))=some (.str z):=by
 have hi:i < R.length:=(Qj.mp h).1
 show atI (R.map D.str) ((i:Nat):Int)=_
 rw[cP,gA R _ "" (by omega) (by omega)]
 have e:R.getD ((i:Nat):Int).toNat ""=z:=by
   rw[Ie,Oq,h]
   rfl
 rw[e]
 rfl
theorem zVf {fa fx ga:Ef}{ρ:List B}{R:List Str}{a:Nat}{x:Str}(h0:fa ρ=some (.lst (R.map .str)))(h1:ga ρ=some (.int (a:Nat)))(h2:fx ρ=some (.str x))(hl:R.length<=1000) :
   eL (vI (vI (xI fa oNo (xW ga)) (yM (zY fx zS))) (xI fa (xW (tU ga (eC (.int 1)))) oNo)) ρ=some (.lst ((rA R a x).map .str)):=by
 have e1:=zWG (f:=fa) (g:=ga) h0 h1
 have e2:tU ga (eC (.int 1)) ρ=some (.int ((a+1:Nat):Int)):=(xR h1 rfl rfl).trans (by push_cast;rfl)
 have e3:=zZ8 (f:=fa) (g:=tU ga (eC (.int 1))) h0 e2
 have e4:=vQ (zH h2 (g:=zS) (ds:=[]) rfl) (by simp)
 have l1:(R.map D.str).length<=1000:=by rw[Qu];exact hl
 refine vE ((sQ (sQ e1 e4 (by rw[Wm];simp;omega)) e3 (by rw[Qd,Wm,Ts];simp;omega)).trans ?_)
 rw[zYv]
structure Fault (n N:Nat)(R:List Str)(row:Nat)(kd:Bool):Prop where
 rows:Rows R
 lo:1<=row
 le:row<=N
 no:∀R2:List Str,R2.length=R.length->(∀i,i < row->R2[i]?=R[i]?)->xZ [.lst (R2.map .str)]=some (kQ kd row)
section
variable {n:Nat} (hn:n=2∨n=3) {ps:List Pt} (ok:PtsOk n ps) (j:Bool)
include hn ok
theorem cH:Rows (xG n j::ps.map xU)/\(xG n j::ps.map xU).length=1+2^n/\∀(i:Nat) (p:Pt),ps[i]?=some p->(xG n j::ps.map xU)[1+i]?=some (xU p):=by
 have hs:=ok.small hn
 have hcs:∀p∈ps,p.c∈zQ n/\p.t∈zL n:=fun p hp=>⟨ok.perm.mem_iff.mp (Wg.mpr ⟨p,hp,rfl⟩),ok.turn p hp⟩
 refine⟨⟨Wk _ _,by rw[Qo,Qu];omega,fun z hz=>?_⟩,by rw[Qo,Qu,ok.len,Nat.add_comm],fun i p hp=>?_⟩
 · rcases Qf.mp hz with rfl | hz
   · have r:=zSS (zZH n hn j).2
     exact⟨r.nl,r.len⟩
   · obtain⟨p,hp,rfl⟩:=Wg.mp hz
     have r:=pE hn p (hcs p hp).1 (hcs p hp).2
     exact⟨r.nl,r.len⟩
 · rw[Nat.add_comm,Ez,Wx,hp]
   rfl
theorem bL (R:List Str)(hR:Rows R)(a:Nat)(h1:1<=a)(h2:a<=2^n)(kd:Bool)(hg:∀i,i < a->R[i]?=(xG n j::ps.map xU)[i]?)
   (hx:∀R2:List Str,R2.length=R.length->R2[a]?=R[a]?->∀x7,xL (stL n R2 (.str "fold") (.bl j) (ps.take (a - 1)) (.fz (.int ((a:Nat)+1))) x7)=some (kQ kd ((a:Nat)+1))):Fault n (1+2^n) R (a+1) kd:=by
 obtain⟨_,_,hrow⟩:=cH hn ok j
 have hlen:=ok.len
 refine⟨hR,by omega,by omega,fun R2 e1 e2=>?_⟩
 have hcs:∀p∈ps,p.c∈zQ n/\p.t∈zL n:=fun p hp=>⟨ok.perm.mem_iff.mp (Wg.mpr ⟨p,hp,rfl⟩),ok.turn p hp⟩
 have hl:(ps.take (a - 1)).length=a - 1:=by rw[Wm];omega
 have e:((a+1:Nat):Int)=(a:Nat)+1:=by omega
 rw[e]
 refine zVK hn R2 j _ (by rw[e2 0 (by omega),hg 0 (by omega)];rfl) (ps.take (a - 1)) (fun i p hp=>?_) (fun p hp=>hcs p (To hp)) ?_ (by omega) (fun x7=>?_)
 · have hi:i < a - 1:=by rw[←hl];exact(Qj.mp hp).1
   rw[Yv,Wr hi] at hp
   rw[e2 (1+i) (by omega),hg (1+i) (by omega)]
   exact hrow i p hp
 · rw[Uw]
   exact(List.take_sublist _ _).nodup (ok.perm.nodup_iff.mpr (lK hn))
 · rw[hl,show 1+(a - 1)=a by omega]
   exact hx R2 e1 (e2 a (by omega)) x7
end
theorem aE {f:Ef}{ρ:List B}{d:D}(h:f ρ=some d):xA f ρ=some (.rt d):=by unfold xA;rw[h];rfl
theorem bV {t:Tf}{f g:Sf}{ρ:List B}{d:D}(ht:t ρ=some true)(hf:f ρ=some (.rt d)):(zF (sIf t f vY) g ρ).bind qY=some d:=by
 rw[zPX (d:=d) (by rw[sH ht,Wr rfl];exact hf)]
 rfl
theorem zRd {ws:List Str}(h:Rw ws){g:Lf}{ρ:List B}(hg:g ρ=some (ws.map .str)):uR (eC (.str " ")) g ρ=some (.str (jn ws)):=by
 have h6:(" ":Str).length=1:=by decide +kernel
 have hf:=h.few
 have hs:=zXW (k:=14) ws fun z hz=>Wf.len (h.all z hz)
 unfold uR
 rw[show eC (.str " ") ρ=some (D.str " ") from rfl,Qw,hg,Qw]
 dsimp only
 rw[zZ9,Qw,Wr]
 · exact Ec (fun z=>some (D.str z)) (StrLaws.glued_eq_join _ _)
 · rw[h6];omega
theorem zRj:(["","part 00 +x+y","floor 3 4"]:List Str).all (fun z => !z.cps.toList.contains 10&&decide (z.length<=90))=true:=by kernel_rfl
abbrev stF (rs:List Str)(d:Int)(a:Nat):List B:=[.fz (.lst (rs.map .str)),.fz (.int d),.fz (.int (d % 6)),.fz (.int (a:Nat)),.fz (.int (d / 60)),.no]
section
variable {n:Nat} (hn:n=2∨n=3) {ps:List Pt} (ok:PtsOk n ps) (j:Bool)
include hn ok
theorem zTm (d:Int):(∃R row kd,Fault n (1+2^n) R row kd/\uY [.lst ((xG n j::ps.map xU).map .str),.int d]=some (.tup [.lst (R.map .str),.int (row:Nat),.str (kdS kd)])) ∨
   ∃z:Str,(tL 10 z/\z.length<=90)/\uY [.lst ((xG n j::ps.map xU).map .str),.int d]=some (.tup [.lst (((xG n j::ps.map xU)++[z]).map .str),.int ((2+2^n:Nat):Int),.str "row"]):=by
 obtain⟨hrows,hlen,hrow⟩:=cH hn ok j
 have hcs:∀p∈ps,p.c∈zQ n/\p.t∈zL n:=fun p hp=>⟨ok.perm.mem_iff.mp (Wg.mpr ⟨p,hp,rfl⟩),ok.turn p hp⟩
 have hpl:=ok.len
 have hp0:(0:Int) < 2^n:=by rcases hn with rfl | rfl<;>decide
 have hp1:((2^n:Nat):Int)=2^n:=by push_cast;rfl
 have hp8:2^n<=8:=by rcases hn with rfl | rfl<;>decide
 have m0:=Tc (d / 6) (show(2^n:Int)≠0 by omega)
 have m1:=Rz (d / 6) hp0
 obtain⟨a,ha⟩:∃a:Nat,(a:Int)=1+d / 6 % 2^n:=⟨(1+d / 6 % 2^n).toNat,by omega⟩
 have a1:1<=a:=by omega
 have a2:a<=2^n:=by omega
 have k0:=Tc d (show(6:Int)≠0 by decide)
 have k1:=Rz d (show(0:Int) < 6 by decide)
 generalize hrs:(xG n j::ps.map xU)=rs at hrows hlen hrow
 have hal:a < rs.length:=by omega
 have hl1000:rs.length<=1000:=by omega
 -- the part at a
 obtain⟨p,hp⟩:∃p,ps[a - 1]?=some p:=⟨_,Qs (by omega)⟩
 have hpm:=Rp hp
 obtain⟨pc,pt⟩:=hcs p hpm
 have hra:rs[a]?=some (xU p):=by have h:=hrow (a - 1) p hp;rwa[show 1+(a - 1)=a by omega] at h
 have wW:∀r,(sN (stF rs d a)).bind qY=r->uY [.lst (rs.map .str),.int d]=r:=fun r h=>by
   show(sT [.fz (.lst (rs.map .str)),.fz (.int d),.no,.no,.no,.no]).bind qY=_
   unfold sT
   rw[xQ (d:=.int (d % 6)) (xR rfl rfl rfl)]
   dsimp only[List.set]
   unfold pV
   rw[xQ (d:=.int (a:Nat)) (by
     have e1:wS (eV 0) [.fz (.lst (rs.map .str)),.fz (.int d),.fz (.int (d % 6)),.no,.no,.no]=some (.int (1+2^n)):=by
       show some (D.int (((rs.map D.str).length:Nat):Int))=_
       rw[Qu,hlen]
       push_cast
       rfl
     have e2:cX (wS (eV 0)) (eC (.int 1)) [.fz (.lst (rs.map .str)),.fz (.int d),.fz (.int (d % 6)),.no,.no,.no]=some (.int (2^n)):=(xR e1 rfl rfl).trans (by rw[show(1+2^n - 1:Int)=2^n by omega])
     refine(xR (i:=1) rfl (xR (i:=d / 6) (j:=2^n) (xR rfl rfl rfl) e2 (Qm hp0)) rfl).trans ?_
     rw[ha])]
   dsimp only[List.set]
   unfold pP
   rw[xQ (d:=.int (d / 60)) (xR rfl rfl rfl)]
   exact h
 have hnext:tU (eV 3) (eC (.int 1)) (stF rs d a)=some (.int ((a+1:Nat):Int)):=(xR rfl rfl rfl).trans (by push_cast;rfl)
 unfold sN at wW
 by_cases c0:d % 6=0
 · -- the head
   left
   obtain⟨ws,rws,hx,hb⟩:=zSI hn j (d / 60)
   have h0:rs[0]?=some (xG n j):=by rw[←hrs];rfl
   refine⟨rA rs 0 (jn ws),1,false,⟨hrows.put (by omega) ⟨rws.nl,rws.len⟩,Ql 1,by omega,fun R2 e1 e2=>?_⟩,wW _ (bV ((mS rfl).trans (by rw[Qm c0])) (aE ((zUb (x:=.lst ((rA rs 0 (jn ws)).map .str)) (vE ?_) rfl rfl).trans rfl)))⟩
   · refine zTt R2 ws ?_ rws hx
     rw[e2 0 (by decide),zZX (by omega)]
   · have eb:zI 2 sK (zY (eIx (eV 0) (eC (.int 0))) (zY (eV 4) zS)) (stF rs d a)=some (.str (jn ws)):=(wQ ((pC (x:=.lst (rs.map .str)) (y:=.int 0) rfl rfl).trans (zYc h0)) rfl).trans hb
     refine(sQ (vQ (zH eb (g:=zS) (ds:=[]) rfl) (by simp)) (zZ8 (a:=1) rfl rfl) (by rw[Ts,Qu];simp;omega)).trans ?_
     rw[zYv]
     rfl
 replace wW:=fun r h=>wW r (zXj ((mS rfl).trans (by rw[Qz c0])) h)
 unfold pN at wW
 by_cases c3:d % 6 < 3
 · -- a part's row
   left
   obtain⟨ws,hb,ew⟩:=zRx hn p pc pt (d / 60)
   have eb:zI 2 tT (zY (eIx (eV 0) (eV 3)) (zY (eV 4) zS)) (stF rs d a)=some (.str (jn ws)):=(wQ ((pC (x:=.lst (rs.map .str)) (y:=.int (a:Nat)) rfl rfl).trans (zYc hra)) rfl).trans ew
   refine⟨rA rs a (jn ws),a+1,false,bL hn ok j _ (hrows.put hal ⟨hb.rw.nl,hb.rw.len⟩) a a1 a2 false (fun i hi=>by rw[zZS hal _ hi,hrs]) (fun R2 e1 e2 x7=>zOv R2 a ws hb (by rw[e2,zZX hal]) _ _ _ x7),wW _ (bV (by show some (decide (d % 6 < 3))=_;rw[Qm c3]) (aE (zUb (zVf rfl rfl eb hl1000) hnext rfl)))⟩
 replace wW:=fun r h=>wW r (zXj (by show some (decide (d % 6 < 3))=_;rw[Qz c3]) h)
 unfold pF at wW
 have t5:zXb (eB2 gEq (eV 2) (eC (.int 3))) (eB2 gGt (eV 3) (eC (.int 1))) (stF rs d a)=some (decide (d % 6=3)&&decide (1 < a)):=by
   unfold zXb
   rw[show eB2 gEq (eV 2) (eC (.int 3)) (stF rs d a)=some (decide (d % 6=3)) from mS rfl,Qw]
   by_cases h:d % 6=3
   · rw[Qm h,Wr rfl]
     show some (decide ((1:Int) < (a:Nat)))=_
     rw[Bool.true_and]
     congr 1
     exact Ue.mpr (by omega)
   · rw[Qz h]
     rfl
 by_cases c5:d % 6=3/\1 < a
 · -- a corner twice
   left
   have q0:=Tc (d / 60) (show((a:Int) - 1)≠0 by omega)
   have q1:=Rz (d / 60) (show(0:Int) < (a:Int) - 1 by omega)
   obtain⟨q,hq⟩:∃q:Nat,(q:Int)=d / 60 % ((a:Int) - 1):=⟨(d / 60 % ((a:Int) - 1)).toNat,by omega⟩
   obtain⟨p2,hp2⟩:∃p2,ps[q]?=some p2:=⟨_,Qs (by omega)⟩
   obtain⟨pc2,pt2⟩:=hcs p2 (Rp hp2)
   have hrq:rs[1+q]?=some (xU p2):=hrow q p2 hp2
   have w1:=pE hn p pc pt
   have w2:=pE hn p2 pc2 pt2
   have w3:=pE hn ⟨p2.c,p.t,p.b⟩ pc2 pt
   have e1:vV (eIx (eV 0) (eV 3)) (eC (.str " ")) (stF rs d a)=some ((xP p).map .str):=gZ ((pC (x:=.lst (rs.map .str)) (y:=.int (a:Nat)) rfl rfl).trans (zYc hra)) w1
   have e2:tU (eC (.int 1)) (uU (eV 4) (cX (eV 3) (eC (.int 1)))) ((stF rs d a).set 5 (.ow ((xP p).map .str)))=some (.int ((1+q:Nat):Int)):=by
     refine(xR (i:=1) rfl (xR (i:=d / 60) (j:=(a:Int) - 1) rfl (xR rfl rfl rfl) (Qm (by omega))) rfl).trans ?_
     rw[←hq]
     push_cast
     rfl
   have e3:eIx (eL (vV (eIx (eV 0) (tU (eC (.int 1)) (uU (eV 4) (cX (eV 3) (eC (.int 1)))))) (eC (.str " ")))) (eC (.int 1)) ((stF rs d a).set 5 (.ow ((xP p).map .str)))=some (.str (zO p2.c)) :=
     (pC (vE (gZ ((pC (x:=.lst (rs.map .str)) rfl e2).trans (zYc hrq)) w2)) rfl).trans (zX5 _ _ _).1
   refine⟨rA rs a (xU ⟨p2.c,p.t,p.b⟩),a+1,true,bL hn ok j _ (hrows.put hal ⟨w3.nl,w3.len⟩) a a1 a2 true (fun i hi=>by rw[zZS hal _ hi,hrs]) (fun R2 f1 f2 x7=>zRq hn R2 a ⟨p2.c,p.t,p.b⟩ pc2 pt (by rw[f2,zZX hal];rfl) _ ?_ _ _ x7),wW _ (bV (t5.trans (by rw[Qm c5.1,Qm c5.2];rfl)) ?_)⟩
   · rw[Uw]
     refine Rp (i:=q) ?_
     rw[Yv,Wr (by omega),Wx,hp2]
     rfl
   · rw[yI (ρ':=(stF rs d a).set 5 (.ow ((xP p).map .str))) (by unfold qZ;rw[e1];rfl)]
     rw[yI (ρ':=(stF rs d a).set 5 (.ow ((xP ⟨p2.c,p.t,p.b⟩).map .str))) (by
       unfold zWQ
       rw[e3,Qw,show eC (.int 1) ((stF rs d a).set 5 (.ow ((xP p).map .str)))=some (D.int 1) from rfl,Qw]
       cases hb:p.b<;>(unfold xP ws3 bkW;rw[hb];rfl))]
     unfold dB
     show xA _ ((stF rs d a).set 5 (.fz (.lst ((xP ⟨p2.c,p.t,p.b⟩).map .str))))=_
     refine aE (zUb (zVf (R:=rs) (a:=a) (x:=xU ⟨p2.c,p.t,p.b⟩) rfl rfl (zRd w3 rfl) hl1000) ?_ rfl)
     exact(xR rfl rfl rfl).trans (by push_cast;rfl)
 replace wW:=fun r h=>wW r (zXj (t5.trans (by
   congr 1
   rw[←Bool.decide_and,Qz c5])) h)
 unfold pH at wW
 by_cases c6:d % 6 < 5
 · -- rows cut off
   left
   have hR:Rows (rs.take a):=⟨fun z=>by
       have:=Ec List.length z
       rw[Wm,Rq] at this
       omega,by rw[Wm];have:=hrows.few;omega,fun z hz=>hrows.each z (To hz)⟩
   have hla:(rs.take a).length=a:=by rw[Wm];omega
   refine⟨rs.take a,a+1,false,bL hn ok j _ hR a a1 a2 false (fun i hi=>by rw[Yv,Wr hi,hrs]) (fun R2 f1 f2 x7=>zQT R2 a (by rw[f1,hla]) _ _ _ x7),wW _ (bV (by show some (decide (d % 6 < 5))=_;rw[Qm c6]) (aE (zUb (x:=.lst ((rs.take a).map .str)) (vE ((zWG rfl rfl).trans (by rw[Uw]))) hnext rfl)))⟩
 replace wW:=fun r h=>wW r (zXj (by show some (decide (d % 6 < 5))=_;rw[Qz c6]) h)
 right
 obtain⟨z,hz,ez⟩:=zWb (l:=["","part 00 +x+y","floor 3 4"]) (k:=3) (by decide) rfl (d / 60)
 have hzz:=Wq.mp zRj z hz
 rw[Qg] at hzz
 refine⟨z,⟨fun y=>?_,Tu hzz.2⟩,wW _ ?_⟩
 · have h:=hzz.1
   rw[Yi.mpr y] at h
   exact absurd h (by decide)
 unfold lI
 refine(iW _).trans ?_
 have e1:eIx (eL (yM (zY (eC (.str "")) (zY (eC (.str "part 00 +x+y")) (zY (eC (.str "floor 3 4")) zS))))) (uU (eV 4) (eC (.int 3))) (stF rs d a)=some (.str z):=by
   refine(pC rfl (xR rfl rfl rfl)).trans ?_
   exact ez
 have e2:wS (eV 0) (stF rs d a)=some (.int (1+2^n)):=by
   show some (D.int (((rs.map D.str).length:Nat):Int))=_
   rw[Qu,hlen]
   push_cast
   rfl
 refine(zUb (vE (sQ (a:=iL (eV 0)) rfl (vQ (zH e1 (g:=zS) (ds:=[]) rfl) (by simp)) (by rw[Qu];simp;omega))) (xR e2 rfl rfl) rfl).trans ?_
 rw[Et,show((2+2^n:Nat):Int)=1+2^n+1 by push_cast;omega]
 rfl
theorem zY9 {R:List Str}(hR:Rows R)(row:Nat)(m:Int):∃R2,Rows R2/\R2.length=R.length/\(∀i,i < row->R2[i]?=R[i]?)/\(R.length<=row->R2=R)/\qJ [.lst (R.map .str),.int (row:Nat),.int m]=some (.lst (R2.map .str)):=by
 have hf:=hR.few
 have t:qV (eB2 gEq (uU (eV 2) (eC (.int 2))) (eC (.int 0))) (eB2 gGe (eV 1) (wS (eV 0))) [.fz (.lst (R.map .str)),.fz (.int (row:Nat)),.fz (.int m),.no]=some (decide (m % 2=0)||decide (R.length<=row)):=by
   unfold qV
   rw[show eB2 gEq (uU (eV 2) (eC (.int 2))) (eC (.int 0)) [.fz (.lst (R.map .str)),.fz (.int (row:Nat)),.fz (.int m),.no]=some (decide (m % 2=0)) from mS (xR rfl rfl rfl),Qw]
   by_cases h:m % 2=0
   · rw[Qm h];rfl
   · rw[Qz h,Wj Qk]
     show some (decide ((((R.map D.str).length:Nat):Int)<=(row:Nat)))=_
     rw[Qu,Bool.false_or]
     congr 1
     exact Ue.mpr (by omega)
 show ∃R2,Rows R2/\R2.length=R.length/\(∀i,i < row->R2[i]?=R[i]?)/\(R.length<=row->R2=R)/\(sX [.fz (.lst (R.map .str)),.fz (.int (row:Nat)),.fz (.int m),.no]).bind qY=some (.lst (R2.map .str))
 unfold sX
 by_cases c:(decide (m % 2=0)||decide (R.length<=row))=true
 · exact⟨R,hR,rfl,fun _ _=>rfl,fun _=>rfl,bV (t.trans (by rw[c])) (aE rfl)⟩
 · have c':=Iy.mpr c
   rw[Bool.or_eq_false_iff] at c'
   have hlt:row < R.length:=by have:=of_decide_eq_false c'.2;omega
   have q0:=Tc (m / 2) (show((R.length:Nat):Int) - (row:Nat)≠0 by omega)
   have q1:=Rz (m / 2) (show(0:Int) < ((R.length:Nat):Int) - (row:Nat) by omega)
   obtain⟨a,ha⟩:∃a:Nat,(a:Int)=(row:Nat)+m / 2 % (((R.length:Nat):Int) - (row:Nat)):=⟨((row:Nat)+m / 2 % (((R.length:Nat):Int) - (row:Nat))).toNat,by omega⟩
   have hal:a < R.length:=by omega
   have hx:tL 10 ("part 0 back":Str)/\("part 0 back":Str).length<=90:=⟨by unfold L2.tL;decide +kernel,by decide +kernel⟩
   refine⟨rA R a "part 0 back",hR.put hal hx,fB hal _,fun i hi=>zZS hal _ (by omega),fun h=>by omega,zXj (t.trans (by rw[Iy.mpr c])) ?_⟩
   unfold pX
   rw[xQ (d:=.int (a:Nat)) (by
     have e1:wS (eV 0) [.fz (.lst (R.map .str)),.fz (.int (row:Nat)),.fz (.int m),.no]=some (.int (R.length:Nat)):=by
       show some (D.int (((R.map D.str).length:Nat):Int))=_
       rw[Qu]
     refine(xR (i:=(row:Nat)) rfl (xR (i:=m / 2) (j:=((R.length:Nat):Int) - (row:Nat)) (xR rfl rfl rfl) (xR e1 rfl rfl) (Qm (by omega))) rfl).trans ?_
     rw[ha])]
   unfold kO
   exact(iW _).trans (zVf (R:=R) (a:=a) (x:="part 0 back") rfl rfl rfl (by omega))
end
theorem zRa (ρ:List B)(f:Ef){n:Int}{j:Bool}{ps:List Pt}(h:f ρ=some (jK "fold" n j ps)):pM "Curve" "dims" f ρ=some (.int n):=by
 unfold pM
 rw[h]
 rfl
theorem zST {n:Nat}(hn:n=2∨n=3)(c r:Int)(x0 x4 x5 x6 x7 x8 x9:B):∃ps:List Pt,PtsOk n ps /\
   iA [x0,.fz (.int c),.fz (.int r),.fz (.int n),x4,x5,x6,x7,x8,x9]=gW [x0,.fz (.int c),.fz (.int r),.fz (.int n),.fz (.lst (ps.map xJ)),x5,x6,x7,x8,x9]:=by
 obtain⟨ls,okl,el⟩:=zTf hn c
 obtain⟨js,okj,ej⟩:=zTu hn (r / 8)
 have t:eB2 gEq (uU (pA (eV 2) (eC (.int 2))) (eC (.int 2))) (eC (.int 1)) [x0,.fz (.int c),.fz (.int r),.fz (.int n),.fz (.lst (ls.map xJ)),x5,x6,x7,x8,x9]=some (decide (r / 2 % 2=1)):=mS (xR (xR rfl rfl rfl) rfl rfl)
 unfold iA
 rw[xQ (d:=.lst (ls.map xJ)) (vE ((zSq rfl rfl).trans el))]
 dsimp only[List.set]
 unfold zZB
 by_cases hb:r / 2 % 2=1
 · refine⟨js,okj,yI ((sH t).trans ?_)⟩
   rw[Qm hb,Wr rfl,qC (d:=.lst (js.map xJ)) (vE ((zSq rfl (xR rfl rfl rfl)).trans ej))]
   rfl
 · refine⟨ls,okl,yI ((sH t).trans ?_)⟩
   rw[Qz hb]
   rfl
theorem zXq {n:Nat}(hn:n=2∨n=3){ps:List Pt}(ok:PtsOk n ps)(j:Bool)(d m:Int):∃(R R2:List Str) (row:Nat) (kd:Bool) (w:D),uY [.lst ((xG n j::ps.map xU).map .str),.int d]=some (.tup [.lst (R.map .str),.int (row:Nat),.str (kdS kd)]) /\
   qJ [.lst (R.map .str),.int (row:Nat),.int m]=some (.lst (R2.map .str))/\vW [.lst (R2.map .str),.bl true]=some (kQ kd row)/\vW [.lst (R2.map .str),.bl false]=some w/\((1+2^n < row/\w = .non)∨(row<=1+2^n/\w=kQ kd row)):=by
 obtain⟨hrows,hlen,hrow⟩:=cH hn ok j
 rcases zTm hn ok j d with⟨R,row,kd,F,e⟩ | ⟨z,hz,e⟩
 · obtain⟨R2,r2,l2,g2,_,e2⟩:=zY9 hn ok F.rows row m
   have hx:=F.no R2 l2 g2
   exact⟨R,R2,row,kd,kQ kd row,e,e2,fA true r2 (zSk r2 hx),fA false r2 hx,.inr ⟨F.le,rfl⟩⟩
 · have hRz:Rows ((xG n j::ps.map xU)++[z]):=by
     have hs:=ok.small hn
     refine⟨by simp,by rw[Qd,Qo,Qu,Ew];omega,fun y hy=>?_⟩
     rcases El.mp hy with h | h
     · exact hrows.each y h
     · rw[Ey.mp h];exact hz
   have hlz:((xG n j::ps.map xU)++[z]).length=2+2^n:=by rw[Qd,hlen,Ew];omega
   obtain⟨R2,r2,l2,g2,same,e2⟩:=zY9 hn ok hRz (2+2^n) m
   have es:=same (by omega)
   subst es
   obtain⟨f1,f2⟩:=zUW hn ((xG n j::ps.map xU)++[z]) j rfl ok (fun i p hp=>by
     have hi:i < ps.length:=(Qj.mp hp).1
     rw[Wn (by rw[hlen,←ok.len];omega)]
     exact hrow i p hp)
   have hx:=zPO hRz f1 f2 (by rw[hlz,ok.len];omega)
   have er:((ps.length:Nat)+2:Int)=((2+2^n:Nat):Int):=by rw[ok.len];push_cast;omega
   rw[er] at hx
   exact⟨_,_,2+2^n,false,.non,e,e2,fA (kd:=false) true hRz hx,zTL hRz f1 f2,.inl ⟨by omega,rfl⟩⟩
theorem zRC (x0:B)(c:Int)(x2 x3 x4 x5 x6 x7 x8 x9:B):∃y2 y3 y4 y5 y6 y7 y8 y9,nJ [x0,.fz (.int c),x2,x3,x4,x5,x6,x7,x8,x9]=some (.nx [x0,.fz (.int c),y2,y3,y4,y5,y6,y7,y8,y9]):=by
 have e1:=zYh c 69621 (by decide) (by decide)
 have e2:=zYh c 39373 (by decide) (by decide)
 have e3:=zYh c 16807 (by decide) (by decide)
 generalize zRk c 69621=r at e1
 generalize zRk c 39373=d at e2
 generalize zRk c 16807=m at e3
 obtain⟨n,hn,hr⟩:∃n:Nat,(n=2∨n=3)/\(n:Int)=2+r % 2:=by
   rcases bit r with h | h
   · exact⟨2,.inl rfl,by rw[h];rfl⟩
   · exact⟨3,.inr rfl,by rw[h];rfl⟩
 obtain⟨ps,ok,ep⟩:=zST hn c r x0 x4 x5 x6 x7 x8 x9
 obtain⟨R,R2,row,kd,w,f1,f2,f3,f4,f5⟩:=zXq hn ok (decide (r / 4 % 2=1)) d m
 obtain⟨hrows,hlen,hrow⟩:=cH hn ok false
 obtain⟨g1,g2⟩:=zUW hn (xG n false::ps.map xU) false rfl ok hrow
 have hgood:=of_eq hrows g1 rfl (by rw[Qo,Qu])
 have er:=zXs hn ok
 refine⟨.fz (.int r),.fz (.int n),.fz (.lst (ps.map xJ)),.fz (.lst ((xG n false::ps.map xU).map .str)),.fz (.lst (R2.map .str)),.fz (.int (row:Nat)),.fz (.str (kdS kd)),.fz w,?_⟩
 unfold nJ
 rw[xQ ((wQ rfl rfl).trans e1)]
 dsimp only[List.set]
 unfold bA
 rw[xQ (d:=.int (n:Nat)) ((xR (i:=2) rfl (xR (i:=r) (j:=2) rfl rfl rfl) rfl).trans (by rw[hr]))]
 dsimp only[List.set]
 rw[ep]
 unfold gW
 have lc3:∀(f:List D->Option (List D)) (fa fb fc:Ef) (ρ:List B) (x y z:D),fa ρ=some x->fb ρ=some y->fc ρ=some z->qS 3 f (zY fa (zY fb (zY fc zS))) ρ=f [x,y,z]:=fun f fa fb fc ρ x y z h1 h2 h3=>by
   unfold qS
   rw[zH h1 (zH h2 (zH h3 rfl)),Qw]
   rfl
 rw[xQ (d:=.lst ((xG n false::ps.map xU).map .str)) (vE ((lc3 _ _ _ _ _ _ _ _ rfl rfl rfl).trans (er false)))]
 dsimp only[List.set]
 unfold bH
 rw[yI (ρ':=[x0,.fz (.int c),.fz (.int r),.fz (.int n),.fz (.lst (ps.map xJ)),.fz (.lst ((xG n false::ps.map xU).map .str)),.fz (.lst (R.map .str)),.fz (.int (row:Nat)),.fz (.str (kdS kd)),x9]) (by
   unfold bC
   rw[(wQ (vE ((lc3 _ _ _ _ _ (.int n) (.bl (decide (r / 4 % 2=1))) (.lst (ps.map xJ)) rfl (by unfold qO;rw[mS (x:=r / 4 % 2) (xR (xR rfl rfl rfl) rfl rfl)];rfl) rfl).trans (er _))) ((wQ rfl rfl).trans e2)).trans f1]
   rfl)]
 unfold bD
 rw[xQ (d:=.lst (R2.map .str)) ((zYy (x:=.lst (R.map .str)) (y:=.int (row:Nat)) (z:=.int m) rfl rfl ((wQ rfl rfl).trans e3)).trans f2)]
 dsimp only[List.set]
 unfold aC
 rw[yI ((sH (zP5 ((zYy ((wQ rfl rfl).trans f3) rfl rfl).trans (zZU kd row)))).trans rfl)]
 unfold zZT
 rw[xQ ((wQ rfl rfl).trans f4)]
 dsimp only[List.set]
 unfold aO
 have tl:eB2 gGt (eV 7) (wS (eV 5)) [x0,.fz (.int c),.fz (.int r),.fz (.int n),.fz (.lst (ps.map xJ)),.fz (.lst ((xG n false::ps.map xU).map .str)),.fz (.lst (R2.map .str)),.fz (.int (row:Nat)),.fz (.str (kdS kd)),.fz w]=some (decide (1+2^n < row)):=by
   show some (decide ((((xG n false::ps.map xU).map D.str).length:Nat) < ((row:Nat):Int)))=_
   rw[Qu,hlen]
   congr 1
   exact Ue.mpr (by omega)
 rw[yI (ρ':=[x0,.fz (.int c),.fz (.int r),.fz (.int n),.fz (.lst (ps.map xJ)),.fz (.lst ((xG n false::ps.map xU).map .str)),.fz (.lst (R2.map .str)),.fz (.int (row:Nat)),.fz (.str (kdS kd)),.fz w]) (by
   unfold sIf
   rw[tl,Qw]
   rcases f5 with⟨h,rfl⟩ | ⟨h,rfl⟩
   · rw[Qm h,Wr rfl]
     rfl
   · rw[Qz (by omega),Wj Qk]
     exact(sH (zP5 ((zYy rfl rfl rfl).trans (zZU kd row)))).trans rfl)]
 unfold zY0
 refine(sH (b:=false) ?_).trans rfl
 unfold eB2
 rw[zRa _ _ ((pT (hrows.join rfl).1).trans hgood),Qw]
 show gNe (.int n) (.int n)=_
 show(some (decide ((n:Int)=n))).map (!·)=_
 rw[Qm rfl]
 rfl
theorem zRN (ns:List Int)(h:ns.length<=63):zYR [.lst (ns.map .int)]=some (.bl true):=by
 obtain⟨cs,hcs,hlen⟩:∃cs:List Int,zZf (ns.map D.int) none (some 20)=cs.map D.int/\cs.length<=63:=by
   unfold zZf
   refine⟨(ns.drop (HT.sIx (ns.map D.int).length 0 none)).take (HT.sIx (ns.map D.int).length (ns.map D.int).length (some 20) - HT.sIx (ns.map D.int).length 0 none),?_,?_⟩
   · rw[Uw,List.map_drop]
   · rw[Wm,Ts]
     omega
 have src:vI (xI (eV 0) oNo (xW (eC (.int 20)))) (yM (zY (eC (.int 13)) zS)) [.fz (.lst (ns.map .int)),.no,.no,.no,.no,.no,.no,.no,.no,.no]=some ((cs++[13]).map .int):=by
   have e2:xI (eV 0) oNo (xW (eC (.int 20))) [.fz (.lst (ns.map .int)),.no,.no,.no,.no,.no,.no,.no,.no,.no]=some (cs.map .int):=by
     simp only[xI,xW,oNo,eV,eC,fM,Rj,Qw,hcs]
   refine(sQ e2 (vQ (zH (f:=eC (.int 13)) (d:=.int 13) rfl (g:=zS) (ds:=[]) rfl) (by simp)) (by simp;omega)).trans ?_
   rw[Et]
   rfl
 obtain⟨ρ',e,y1,y2,y3,y4,y5,y6,y7,y8,y9,rfl⟩:=zXe (g:=gN 1) (body:=nJ) (P:=fun ρ=>∃y1 y2 y3 y4 y5 y6 y7 y8 y9,ρ=[.fz (.lst (ns.map .int)),y1,y2,y3,y4,y5,y6,y7,y8,y9]) ((cs++[13]).map .int) (fun d hd ρ hρ=>by
     obtain⟨c,hcm,rfl⟩:=Wg.mp hd
     obtain⟨y1,y2,y3,y4,y5,y6,y7,y8,y9,rfl⟩:=hρ
     obtain⟨z2,z3,z4,z5,z6,z7,z8,z9,e⟩:=zRC (.fz (.lst (ns.map .int))) c y2 y3 y4 y5 y6 y7 y8 y9
     exact⟨_,_,rfl,e,_,_,_,_,_,_,_,_,_,rfl⟩) [.fz (.lst (ns.map .int)),.no,.no,.no,.no,.no,.no,.no,.no,.no] ⟨_,_,_,_,_,_,_,_,_,rfl⟩
 have es:gG (vI (xI (eV 0) oNo (xW (eC (.int 20)))) (yM (zY (eC (.int 13)) zS))) (gN 1) nJ [.fz (.lst (ns.map .int)),.no,.no,.no,.no,.no,.no,.no,.no,.no]=some (.nx [.fz (.lst (ns.map .int)),y1,y2,y3,y4,y5,y6,y7,y8,y9]):=by
   unfold gG;rw[src,Qw];exact e
 exact zUH (g:=zUQ) es rfl
end My
open PySem PySem.W PyProof.Rows
set_option maxRecDepth 100000 in
set_option maxHeartbeats 0 in
theorem PySem.Challenge.cw_curveyard_k09_texts_refused_holds : PySem.Challenge.rw_curveyard_k09_texts_refused.Holds := by
 w_on
 refine PySem.W.holds_law My.zQc fun said=>?_
 refine PySem.W.holds_open (r:=PySem.Challenge.rw_curveyard_k09_texts_refused.row) (q:=My.oV) (loose:=My.loose) (XP:=PySem.W.XL My.oV [])
   (YP:=PySem.W.InK My.zVX) My.zPP (PySem.W.InK.of My.zW7) PySem.W.InK.keeps
   (fun s e=>PySem.W.xl_of s (Ug.mp e).1) PySem.W.XL.keeps (by rfl) (by rfl) (by rfl)
   (fun s e=>PySem.W.recFacts_of (Ug.mp e).2) (by rfl) (by assumption) (by decide +kernel)
   ⟨rfl,rfl,rfl,rfl,rfl,by decide +kernel⟩ ?hw ?hc
 case hw=>w_witness2
 k_fill
 refine L2.zQP (l:=PySem.Challenge.rw_curveyard_k09_texts_refused) (n:=63) (k:=7) (x:="_law_script") (CX:=fun _=>L2.CX0) (sp:=fun w=>L2.spF _ 1 My.zYR) rfl (by decide) rfl ⟨rfl,by decide,by decide⟩ (fun w h Y=>Y) ?F (fun w H a ns hl hO hS=>My.zO7 hS (My.zRN ns hl)) (fun _ _ _ _ _ z=>z)
 case F =>
   intro w mg fa h KX G hmg
   refine' My.zOr KX G hmg ?g0 ?g1 ?g2 ?g3 ?g4 ?g5 ?g6 ?g7 ?g8 ?g9 ?g10 ?g11 ?g12 ?g13 ?g14 ?g15 ?g16 ?g17 ?g18 ?g19 ?g20 ?g21 ?g22 ?g23 ?g24 ?g25 ?g26 ?g27 ?g28 ?ca0 ?ci0 ?cn0 ?cl0 ?cc0 ?ck0 ?cpg0 ?chd0 ?cpo0 ?csa0 ?cmk0 ?ckc0 ?cf0_back ?cf0_corner ?cf0_turn ?ca1 ?ci1 ?cn1 ?cl1 ?cc1 ?ck1 ?cpg1 ?chd1 ?cpo1 ?csa1 ?cmk1 ?ckc1 ?cf1_dims ?cf1_joined ?cf1_name ?cf1_parts ?xa0 ?xk0 ?xe0 ?xo0 ?xi0 ?xn0 ?xt0 ?xf0_row ?xa1 ?xk1 ?xe1 ?xo1 ?xi1 ?xn1 ?xt1 ?xf1_row ?xa2 ?xk2 ?xe2 ?xo2 ?xi2 ?xn2 ?xt2 ?xf2_first ?xf2_second ?xf2_level ?xa3 ?xa4 ?xa5 ?yl0 ?yc0 ?yk0 ?yl1 ?yc1 ?yk1 ?ix_TextError ?ix_ValueError ?ix_BadRow ?ix_CornerTwice ?iy_0 ?em_YardError_BadRow ?em_YardError_CornerTwice ?em_YardError_Unmet ?g_BITS ?g_FLIPS ?g_AXES ?g_LETTERS ?g_LONGEST_WORD ?g_PROMISES ?dl_PROMISES ?ds_PROMISES ?g_DIMS ?dl_DIMS ?ds_DIMS ?z_ValueError ?z_all ?z_bool ?z_int ?z_isinstance ?z_len ?z_list ?z_range ?z_reversed ?z_sorted ?z_str ?z_tuple ?z_zip
   all_goals (try exact⟨_,_,_,_,_,_,_,_,_,_,by k_is,by k_is,by k_is,by k_is⟩)
   all_goals (try k_is)
   all_goals kernel_rfl

import PyProof.Rows.All
import OpenK.KLine
import KE.KItem
import Wide.Once
import Open.Boot
import Wide.FinOn
import Lean
import PyProof.EqAt
import PyProof.EqKinds
import PyProof.TupleCall
import PyProof.TupleKey
import KE.KIntText
import KE.IntTextLaws
import OpenK.KOwn
import KE.KIsAll
import PyProof.InstStoreFacts
import PyProof.RaisesMany
import PyProof.RulesAs
import KE.KTryMore
import PyProof.MaxThree
import PyProof.WalkInts
import KE.KRevIter
import PyProof.ListRange
import KE.RegMulBits
import PyProof.ReprRoads
import PyProof.ReprLen
import PyProof.Rows.SumAny
import PyProof.Rows.RuleN_abs
import Wide.Seal
import PyProof.FactsAll.bool_1
import PyProof.DictRoadsH
import PyProof.MinMaxWalk
import PyProof.Rows.CallKwBuiltin
import PyProof.ZipIter
import PyProof.StrLaws
import PyProof.Rows.FStr
import PyProof.Rows.StrNews
import PyProof.Rows.StrItems
import PyProof.StrLawsChain
import PyProof.StrLawsTight
import PyProof.StrCalls
import PyProof.LongRange
import OpenK.KTop
import PySem.Challenge.RW_curveyard_k44_deeds_read
set_option Elab.async false
set_option Elab.async false
set_option linter.all false
set_option maxRecDepth 100000
set_option maxRecDepth 100000
noncomputable section
section
open PySem PySem.Spec PyProof.Rows
def Qq:=@Option.bind_eq_some_iff
def Qw:=@Option.bind_some
def Qe:=@wpAny_bind
def Qr:=@Heap.get?_push_of_some
def Qt:=@Option.map_eq_some_iff
def Qy:=@List.length_map
def Qu:=@List.getElem?_eq_getElem
def Qi:=@decide_eq_true
def Qo:=@List.length_cons
def Qp:=@List.map_cons
def Qa:=@List.mem_cons
def Qs:=@Heap.lt_size
def Qd:=@List.mem_cons_of_mem
def Qf:=@wpAny_pure
def Qg:=@List.size_toArray
def Qh:=@List.mem_cons_self
def Qj:=@Bool.false_ne_true
def Qk:=@Heap.get?_push_size
def Ql:=@Nat.le_refl
def Qz:=@decide_eq_false
def Qx:=@Bool.and_eq_true
def Qc:=@List.getElem?_cons_succ
def Qv:=@List.all_eq_true
def Qb:=@if_pos
def Qn:=@List.getElem?_cons_zero
def Qm:=@List.getElem?_eq_some_iff
def Wq:=@List.length_append
def Ww:=@Option.map_some
def We:=@Nat.lt_of_lt_of_le
def Wr:=@Nat.lt_irrefl
def Wt:=@Bool.and_eq_true_iff
def Wy:=@List.map_append
def Wu:=@List.getD_eq_getElem?_getD
def Wi:=@List.not_mem_nil
def Wo:=@Bool.false_eq_true
def Wp:=@List.getElem?_map
def Wa:=@List.mem_map
def Ws:=@if_neg
def Wf:=@List.replicate_succ
def Wg:=@PySem.F.plainAttrs_list
def Wh:=@decide_eq_true_eq
def Wj:=@PyProof.Rows.callWith_type1
def Wk:=@List.mem_singleton
def Wl:=@PySem.F.slot_list_append
def Wz:=@PySem.F.type_list_append
def Wx:=@Nat.le_of_lt
def Wc:=@List.getElem?_append_right
def Wv:=@List.map_nil
def Wb:=@List.getElem?_set_ne
def Wn:=@List.nil_append
def Wm:=@Nat.ne_of_lt
def Ew:=@of_decide_eq_true
def Ee:=@List.mem_append
def Er:=@List.append_nil
def Et:=@PySem.F.plainAttrs_str
def Ey:=@Nat.le_trans
def Eu:=@List.mem_append_right
def Ei:=@List.length_singleton
def Eo:=@List.lookup_cons
def Ep:=@Option.some.inj
def Ea:=@congrArg
def Es:=@beq_eq_false_iff_ne
def Ed:=@wpAny_field
def Eg:=@PassesOwn.never
def Eh:=@List.length_nil
def Ej:=@List.getElem?_append_left
def Ek:=@List.append_assoc
def El:=@wpAny_callSpecial?_slot
def Ez:=@wpAny_seqItems
def Ex:=@Array.length_toList
def Ec:=@Option.isSome_iff_exists
def Ev:=@List.length_replicate
def Eb:=@wpAny_newObj_type
def En:=@Around.under_plainId
def Em:=@PySem.mem_of_lookup
def Rq:=@if_true
def Rw:=@Heap.get?_update_self
def Re:=@List.singleton_append
def Rr:=@or_false
def Rt:=@Int.emod_lt_of_pos
def Ry:=@List.cons_append
def Ru:=@wpAny_holding
def Ri:=@List.getElem?_replicate
def Ro:=@if_false
def Rp:=@List.map_map
def Ra:=@Int.toNat_natCast
def Rs:=@Int.emod_nonneg
def Rf:=@Heap.get?_update_other
def Rg:=@wpAny_call_entry
def Rh:=@beq_self_eq_true
def Rj:=@List.getElem_mem
def Rk:=@wpAny_setField_rec
def Rl:=@List.contains_iff_mem
def Rz:=@List.mem_range
def Rx:=@Heap.size_push
def Rc:=@PyProof.Rows.slot_tuple_getitem
def Rv:=@codeAny_builtin
def Rb:=@plainId_quiet
def Rn:=@List.map_congr_left
def Rm:=@List.sum_cons
def Tq:=@List.cons_ne_nil
def Tw:=@wpAny_pyIter_tuple
def Te:=@wpAny_passesOwn
def Tt:=@PySem.F.slot_str_join
def Tu:=@PySem.F.type_str_join
def Ti:=@wpAny_truthy_bool
def To:=@List.flatten_cons
def Tp:=@wpAny_is_other
def Ta:=@MeetsSeq.plain_index_loop
def Ts:=@List.mem_flatMap
def Td:=@Nat.zero_le
def Tg:=@wpAny_Call_Name_kw
def Th:=@List.length_set
def Tj:=@Bool.or_eq_true
def Tk:=@PySem.W.kia_one
def Tl:=@List.pairwise_cons
def Tz:=@wpAny_ite_split
def Tx:=@List.find?_cons
def Tc:=@List.getElem?_set_self
def Tv:=@wpAny_nextOf_list_item
def Tb:=@builtinLookup_eq_fast
def Yq:=@List.getElem?_eq_none
def Yw:=@List.length_take
def Ye:=@List.mem_of_getElem?
def Yr:=@List.all_cons
def Yt:=@Bool.not_true
def Yy:=@Bool.true_and
def Yu:=@call_meets
def Yi:=@Bool.eq_iff_iff
def Yo:=@Nat.le_succ
def Yp:=@List.nodup_cons
def Ya:=@SeqAt.EqAt.same
def Ys:=@List.forIn_cons
def Yd:=@wpAny_updateSeq
def Yf:=@wpAny_specialOf
def Yg:=@wpAny_typeOf
def Yh:=@Array.forIn_toList
def Yj:=@Int.lt_of_lt_of_le
def Yk:=@wpAny_pyIter_list
def Yl:=@PySem.F.args_tuple_add_2
def Yz:=@List.reverse_cons
def Yx:=@wpAny_pyIter_enum
def Yc:=@List.nodup_append
def Yv:=@sizeLine_eq
def Yb:=@PySem.F.entry_tuple_add
def Yn:=@List.eraseIdx_cons_succ
def Ym:=@Int.add_mul
def Uq:=@Int.eq_ofNat_of_zero_le
def Uw:=@wpAny_isInstance
def Ue:=@List.zipIdx_cons
def Ur:=@PySem.F.slot_tuple_add
def Ut:=@List.range_succ_eq_map
def Uy:=@PySem.F.slot_str_split
def Uu:=@PySem.F.type_str_split
def Ui:=@List.zipWith_cons_cons
def Uo:=@StrLaws.join_length_le
def Up:=@wpAny_execs_nil
def Ua:=@Nat.le_of_eq
def Us:=@wpAny_nextOf_list_end
def Ud:=@typeLookup_type
def Uf:=@PySem.F.slot_str_find
def Ug:=@PySem.F.type_str_find
def Uh:=@PySem.W.KIN.signs_num
def Uj:=@List.sum_nil
def Uk:=@StrLaws.glued_eq_join
def Ul:=@beq_iff_eq
def Uz:=@typeIs_str
def Ux:=@wpAny_rule
def Uc:=@List.mem_append_left
def Uv:=@SeqAt.EqAt.bool_bool
def Ub:=@wpAny_updateSeq_pair
def Um:=@Nat.pow_le_pow_right
def Iq:=@List.forIn_nil
def Iw:=@Bool.not_false
def Ie:=@List.filterMap_cons
def Ir:=@ne_true_of_eq_false
def Iy:=@Calls.spliced_cons
def Iu:=@SeqAt.EqAt.int_int
def Ii:=@wpAny_attempt
def Ip:=@List.cons.inj
def Ia:=@List.find?_toArray
def Ig:=@wpAny_onRaise
def Ih:=@wpAny_mono
def Ij:=@Calls.spliced_nil
def Ik:=@List.getElem?_set
def Il:=@Function.comp_def
def Ix:=@codeAny_mono
def Ic:=@concat_meets
def Iv:=@Nat.sub_self
def Ib:=@List.all_map
def Im:=@Nat.lt_succ_self
def Oq:=@noFill_tuple_add
def Ow:=@List.length_drop
def Oe:=@wpAny_pyIter_zip
def Ot:=@wpAny_getItem_of
def Oy:=@List.eq_nil_of_length_eq_zero
def Ou:=@Bool.not_eq_true
def Oi:=@tail_any
def Oo:=@List.of_mem_zip
def Op:=@Iff.rfl
def Oa:=@wpAny_letGo
def Os:=@Int.mul_sub
def Od:=@Calls.Name_function_global
def Og:=@wpAny_letOwnedTupleGo_enum
def Oh:=@SeqAt.RcNeAt.lists_lengths
def Oj:=@List.drop_eq_getElem_cons
def Ol:=@MeetsSeq.entry_index_loop
end
namespace L2
open PySem PySem.Spec PyProof.Rows
def sF (s:Stmt)(j:Nat):Stmt:=match s with
 | .ClassDef _ _ _ body _ _ _ _ _ _ _=>body.getD j (.Pass ⟨0,0,0,0⟩)
 | _=>.Pass ⟨0,0,0,0⟩
def vC (s:Stmt):Arguments:=match s with
 | .FunctionDef _ a _ _ _ _ _ _ _ _=>a
 | _=>{ posonlyargs:=[],args:=[],vararg:=none,kwonlyargs:=[],kw_defaults:=[],kwarg:=none,defaults:=[] }
def wJ (s:Stmt):List Stmt:=match s with
 | .FunctionDef _ _ b _ _ _ _ _ _ _=>b
 | _=>[]
def zS (s:Stmt):Scope:=match s with
 | .FunctionDef _ _ _ _ _ _ sc _ _ _=>sc
 | _=>{ kind:=.function,names:=[],isGenerator:=false,isCoroutine:=false }
end L2
namespace My
open PySem L2
def top (i:Nat):Stmt:=PySem.Challenge.pw_curveyard_k44_deeds_read.main.body.getD i (.Pass ⟨0,0,0,0⟩)
end My
namespace My
open PySem PySem.W L2 PyData
abbrev cb (n:Str)(t1 t2 t3 l r1 m r2 o t4:Nat):Obj:=⟨.type "code",none,.fields #[.str n t1,.str n t2,.str "/claim/cut.py" t3,.int l 0,.int 0 0,.int 0 0,.int 0 0,.int 0 0,.ref r1,.bool false,.int m 0,.ref r2,.none,.none,.none,.none,.int o 0,.int l 0,.str "/claim/cut.py" t4],#[]⟩
abbrev tu (l:Array Value)(n:Nat):Obj:=⟨.type "tuple",none,.seq l n,#[]⟩
abbrev nf (l:Array Value):Obj:=⟨.none,none,.fields l,#[]⟩
abbrev tf (t:String)(l:Array Value):Obj:=⟨.type t,none,.fields l,#[]⟩
abbrev di (l:Array DictEntry)(n:Nat):Obj:=⟨.type "dict",none,.dict l n,#[]⟩
abbrev fm (l:Array (Option Value)):Obj:=⟨.type "frame",none,.plain,l⟩
abbrev co (n q:Str)(t1 t2 t3 l a x y z r1 m r2:Nat)(v1 v2 v3:Value)(r3 o t4:Nat):Obj:=⟨.type "code",none,.fields #[.str n t1,.str q t2,.str "/claim/cut.py" t3,.int l 0,.int a 0,.int x 0,.int y 0,.int z 0,.ref r1,.bool true,.int m 0,.ref r2,v1,v2,v3,.ref r3,.int o 0,.int l 0,.str "/claim/cut.py" t4],#[]⟩
abbrev fu (n q:Str)(s:Stmt)(m:Str)(t c:Nat):Obj:=⟨.type "function",none,.func (fnOf n q (vC s) (wJ s) (zS s) (.none) (.none) (.none) (.str m t) none (.ref c) (.none)),#[]⟩
abbrev ke (P:Params)(n:Str)(t:Nat)(v:Value):DictEntry:=⟨keyHash P n,.str n t,v⟩
abbrev cl (n:Str)(b r:List Value)(s:Nat)(u:List Value)(l:Array (Option Value)):Obj:=⟨.type "type",none,.cls { name:=n,bases:=b,mro:=r,ns:=s,qualname:=n,hasDict:=true,slotNames:=[],subclasses:=u,abstract:=false,collection:=none,hasDel:=false },l⟩
abbrev gd (t a:Nat):Obj:=⟨.type "getset_descriptor",none,.fields #[.str "__dict__" t,.ref a,.builtin "function.__dict__",.builtin "function.__dict__#set"],#[]⟩
abbrev gw (t a:Nat):Obj:=⟨.type "getset_descriptor",none,.fields #[.str "__weakref__" t,.ref a,.builtin "ExceptionGroup.__weakref__",.none],#[]⟩
def zUK:Params->Frag:=fun P =>
 (nat_lit 3,di #[ke P "__name__" 165 (.str "law_curveyard_k44_deeds_read" 735),ke P "__doc__" 166 .none,ke P "__package__" 167 .none,ke P "__loader__" 168 (.builtin "__main__.__loader__#opaque"),ke P "__spec__" 169 .none,ke P "__annotations__" 170 (.ref 6),ke P "__builtins__" 171 (.ref 4),ke P "__file__" 173 (.str "/claim/cut.py" 172),ke P "__cached__" 174 .none,ke P "BITS" 190 (.str "01" 189),ke P "FLIPS" 192 (.str "+-" 191),ke P "AXES" 194 (.str "xyz" 193),ke P "turned" 200 (.ref 19),ke P "still" 206 (.ref 24),ke P "after" 212 (.ref 29),ke P "turn_of" 218 (.ref 34),ke P "corner_of" 224 (.ref 39),ke P "Part" 259 (.ref 56),ke P "Curve" 294 (.ref 77),ke P "first_state" 301 (.ref 88),ke P "part_at" 314 (.ref 95),ke P "walked" 323 (.ref 102),ke P "YardError" 343 (.ref 112),ke P "TextError" 368 (.ref 132),ke P "BadRow" 384 (.ref 144),ke P "CornerTwice" 400 (.ref 156),ke P "Unmet" 429 (.ref 175),ke P "FIGURES" 433 (.str "0123456789" 432),ke P "LETTERS" 435 (.str "abcdefghijklmnopqrstuvwxyz" 434),ke P "LONGEST_NUMBER" 437 (.int 60 436),ke P "LONGEST_WORD" 439 (.int 12 438),ke P "number_of" 448 (.ref 185),ke P "is_word" 455 (.ref 192),ke P "is_made_of" 461 (.ref 197),ke P "full" 473 (.ref 204),ke P "deeper" 479 (.ref 209),ke P "next_to" 485 (.ref 214),ke P "unmet_at" 503 (.ref 221),ke P "meeting_of" 509 (.ref 226),ke P "PROMISES" 516 (.ref 227),ke P "DIMS" 523 (.ref 228),ke P "curve_from" 537 (.ref 235),ke P "words_at" 545 (.ref 242),ke P "read_head" 552 (.ref 249),ke P "read_part" 564 (.ref 256),ke P "fitted" 574 (.ref 263),ke P "place_of" 582 (.ref 268),ke P "MOST_LEVEL" 591 (.ref 269),ke P "LEAST_SIZE" 593 (.int 4 592),ke P "MOST_SIZE" 595 (.int 12 594),ke P "LEAST_MANY" 597 (.int 1 596),ke P "MOST_MANY" 599 (.int 999 598),ke P "MOST_DEEDS" 601 (.int 400 600),ke P "FORMS" 649 (.ref 270),ke P "Scene" 684 (.ref 300),ke P "scene_of" 698 (.ref 311),ke P "read_floor" 709 (.ref 318),ke P "read_deed" 715 (.ref 323),ke P "read_value" 724 (.ref 330),ke P "number_from" 734 (.ref 337),ke P "_law_cell_at" 744 (.ref 344),ke P "_law_mix" 753 (.ref 351),ke P "_law_same" 762 (.ref 358),ke P "_law_turned" 768 (.ref 363),ke P "_law_after" 774 (.ref 368),ke P "_law_undone" 783 (.ref 375),ke P "_law_turn" 789 (.ref 380),ke P "_law_base" 798 (.ref 387),ke P "_law_joined" 804 (.ref 392),ke P "_law_corners" 810 (.ref 397),ke P "_law_loose" 822 (.ref 404),ke P "_law_word" 836 (.ref 411),ke P "_law_curve_rows" 842 (.ref 416),ke P "_law_spot" 848 (.ref 421),ke P "_law_box" 854 (.ref 426),ke P "_law_deed" 872 (.ref 433),ke P "_law_place_text" 878 (.ref 438),ke P "_law_deed_row" 887 (.ref 445),ke P "_law_far" 901 (.ref 452),ke P "_law_shut" 907 (.ref 457),ke P "_law_raised" 913 (.ref 462),ke P "law" 919 (.ref 467)] 82) ::
 (nat_lit 18,co "turned" "turned" 195 196 197 5 2 0 0 3 15 181 16 .none .none .none 17 198 199) ::
 (nat_lit 19,fu "turned" "turned" (top 4) "curveyard.turns" 187 18) ::
 (nat_lit 23,co "still" "still" 201 202 203 7 1 0 0 3 20 181 21 .none .none .none 22 204 205) ::
 (nat_lit 24,fu "still" "still" (top 5) "curveyard.turns" 187 23) ::
 (nat_lit 28,co "after" "after" 207 208 209 9 2 0 0 3 25 181 26 .none .none .none 27 210 211) ::
 (nat_lit 29,fu "after" "after" (top 6) "curveyard.turns" 187 28) ::
 (nat_lit 33,co "turn_of" "turn_of" 213 214 215 11 2 0 0 3 30 181 31 .none .none .none 32 216 217) ::
 (nat_lit 34,fu "turn_of" "turn_of" (top 7) "curveyard.turns" 187 33) ::
 (nat_lit 38,co "corner_of" "corner_of" 219 220 221 19 2 0 0 3 35 181 36 .none .none .none 37 222 223) ::
 (nat_lit 39,fu "corner_of" "corner_of" (top 8) "curveyard.turns" 187 38) ::
 (nat_lit 52,co "__init__" "Part.__init__" 239 240 241 27 4 0 0 3 47 181 48 .none (.ref 49) (.ref 50) 51 246 247) ::
 (nat_lit 53,fu "__init__" "Part.__init__" (sF (top 10) 0) "curveyard.curves" 225 52) ::
 (nat_lit 55,di #[ke P "__module__" 234 (.str "curveyard.curves" 225),ke P "__firstlineno__" 238 (.int 25 237),ke P "__init__" 248 (.ref 53),ke P "__static_attributes__" 252 (.ref 54),ke P "__dict__" 254 (.ref 57),ke P "__weakref__" 256 (.ref 58),ke P "__doc__" 257 .none] 4) ::
 (nat_lit 56,cl "Part" [.type "object"] [.ref 56,.type "object"] 55 [] #[none,none,some (.str "Part" 227),some (.str "Part" 235),some (.builtin "object.__new__"),some (.bool true)]) ::
 (nat_lit 57,gd 253 56) ::
 (nat_lit 58,gw 255 56) ::
 (nat_lit 73,co "__init__" "Curve.__init__" 272 273 274 33 5 0 0 3 68 181 69 .none (.ref 70) (.ref 71) 72 280 281) ::
 (nat_lit 74,fu "__init__" "Curve.__init__" (sF (top 11) 0) "curveyard.curves" 225 73) ::
 (nat_lit 76,di #[ke P "__module__" 267 (.str "curveyard.curves" 225),ke P "__firstlineno__" 271 (.int 31 270),ke P "__init__" 282 (.ref 74),ke P "__static_attributes__" 287 (.ref 75),ke P "__dict__" 289 (.ref 78),ke P "__weakref__" 291 (.ref 79),ke P "__doc__" 292 .none] 4) ::
 (nat_lit 77,cl "Curve" [.type "object"] [.ref 77,.type "object"] 76 [] #[none,none,some (.str "Curve" 260),some (.str "Curve" 268),some (.builtin "object.__new__"),some (.bool true)]) ::
 (nat_lit 78,gd 288 77) ::
 (nat_lit 79,gw 290 77) ::
 (nat_lit 87,co "first_state" "first_state" 295 296 297 38 1 0 0 3 82 181 83 .none (.ref 84) (.ref 85) 86 299 300) ::
 (nat_lit 88,fu "first_state" "first_state" (top 12) "curveyard.curves" 225 87) ::
 (nat_lit 94,co "part_at" "part_at" 302 303 304 40 3 0 0 3 89 181 90 .none (.ref 91) (.ref 92) 93 312 313) ::
 (nat_lit 95,fu "part_at" "part_at" (top 13) "curveyard.curves" 225 94) ::
 (nat_lit 101,co "walked" "walked" 315 316 317 45 3 0 0 3 96 181 97 .none (.ref 98) (.ref 99) 100 321 322) ::
 (nat_lit 102,fu "walked" "walked" (top 14) "curveyard.curves" 225 101) ::
 (nat_lit 111,di #[ke P "__module__" 333 (.str "curveyard.errors" 324),ke P "__firstlineno__" 337 (.int 48 336),ke P "__static_attributes__" 338 (.ref 110),ke P "__weakref__" 340 (.ref 113),ke P "__doc__" 341 .none] 3) ::
 (nat_lit 112,cl "YardError" [.type "ValueError"] [.ref 112,.type "ValueError",.type "Exception",.type "BaseException",.type "object"] 111 [.ref 132,.ref 175] #[some (.ref 103),none,some (.str "YardError" 326),some (.str "YardError" 334),some (.builtin "ValueError.__new__"),some (.bool true)]) ::
 (nat_lit 113,gw 339 112) ::
 (nat_lit 128,co "__init__" "TextError.__init__" 356 357 358 52 2 0 0 3 123 181 124 .none (.ref 125) (.ref 126) 127 361 362) ::
 (nat_lit 129,fu "__init__" "TextError.__init__" (sF (top 17) 0) "curveyard.errors" 324 128) ::
 (nat_lit 131,di #[ke P "__module__" 351 (.str "curveyard.errors" 324),ke P "__firstlineno__" 355 (.int 50 354),ke P "__init__" 363 (.ref 129),ke P "__static_attributes__" 365 (.ref 130),ke P "__doc__" 366 .none] 2) ::
 (nat_lit 132,cl "TextError" [.ref 112] [.ref 132,.ref 112,.type "ValueError",.type "Exception",.type "BaseException",.type "object"] 131 [.ref 144,.ref 156] #[some (.ref 116),none,some (.str "TextError" 344),some (.str "TextError" 352),some (.builtin "ValueError.__new__"),some (.bool true)]) ::
 (nat_lit 143,di #[ke P "__module__" 376 (.str "curveyard.errors" 324),ke P "__firstlineno__" 380 (.int 54 379),ke P "__static_attributes__" 381 (.ref 142),ke P "__doc__" 382 .none] 2) ::
 (nat_lit 144,cl "BadRow" [.ref 132] [.ref 144,.ref 132,.ref 112,.type "ValueError",.type "Exception",.type "BaseException",.type "object"] 143 [] #[some (.ref 135),none,some (.str "BadRow" 369),some (.str "BadRow" 377),some (.builtin "ValueError.__new__"),some (.bool true)]) ::
 (nat_lit 155,di #[ke P "__module__" 392 (.str "curveyard.errors" 324),ke P "__firstlineno__" 396 (.int 56 395),ke P "__static_attributes__" 397 (.ref 154),ke P "__doc__" 398 .none] 2) ::
 (nat_lit 156,cl "CornerTwice" [.ref 132] [.ref 156,.ref 132,.ref 112,.type "ValueError",.type "Exception",.type "BaseException",.type "object"] 155 [] #[some (.ref 147),none,some (.str "CornerTwice" 385),some (.str "CornerTwice" 393),some (.builtin "ValueError.__new__"),some (.bool true)]) ::
 (nat_lit 171,co "__init__" "Unmet.__init__" 413 414 415 60 4 0 0 3 166 181 167 .none (.ref 168) (.ref 169) 170 420 421) ::
 (nat_lit 172,fu "__init__" "Unmet.__init__" (sF (top 20) 0) "curveyard.errors" 324 171) ::
 (nat_lit 174,di #[ke P "__module__" 408 (.str "curveyard.errors" 324),ke P "__firstlineno__" 412 (.int 58 411),ke P "__init__" 422 (.ref 172),ke P "__static_attributes__" 426 (.ref 173),ke P "__doc__" 427 .none] 2) ::
 (nat_lit 175,cl "Unmet" [.ref 112] [.ref 175,.ref 112,.type "ValueError",.type "Exception",.type "BaseException",.type "object"] 174 [] #[some (.ref 159),none,some (.str "Unmet" 401),some (.str "Unmet" 409),some (.builtin "ValueError.__new__"),some (.bool true)]) ::
 (nat_lit 178,tu #[.none] 0) ::
 (nat_lit 184,co "number_of" "number_of" 440 441 442 69 2 0 0 3 179 181 180 .none (.ref 181) (.ref 182) 183 446 447) ::
 (nat_lit 185,⟨.type "function",none,.func (fnOf "number_of" "number_of" (vC (top 26)) (wJ (top 26)) (zS (top 26)) (.ref 178) (.none) (.none) (.str "curveyard.figures" 430) none (.ref 184) (.none)),#[]⟩) ::
 (nat_lit 191,co "is_word" "is_word" 449 450 451 78 1 0 0 3 186 181 187 .none (.ref 188) (.ref 189) 190 453 454) ::
 (nat_lit 192,fu "is_word" "is_word" (top 27) "curveyard.figures" 430 191) ::
 (nat_lit 196,co "is_made_of" "is_made_of" 456 457 458 80 3 0 0 3 193 181 194 .none .none .none 195 459 460) ::
 (nat_lit 197,fu "is_made_of" "is_made_of" (top 28) "curveyard.figures" 430 196) ::
 (nat_lit 203,co "full" "full" 464 465 466 83 2 0 0 3 198 181 199 .none (.ref 200) (.ref 201) 202 471 472) ::
 (nat_lit 204,fu "full" "full" (top 30) "curveyard.numbering" 462 203) ::
 (nat_lit 208,co "deeper" "deeper" 474 475 476 88 2 0 0 3 205 181 206 .none .none .none 207 477 478) ::
 (nat_lit 209,fu "deeper" "deeper" (top 31) "curveyard.numbering" 462 208) ::
 (nat_lit 213,co "next_to" "next_to" 480 481 482 90 2 0 0 3 210 181 211 .none .none .none 212 483 484) ::
 (nat_lit 214,fu "next_to" "next_to" (top 32) "curveyard.numbering" 462 213) ::
 (nat_lit 220,co "unmet_at" "unmet_at" 488 489 490 93 2 0 0 3 215 181 216 .none (.ref 217) (.ref 218) 219 501 502) ::
 (nat_lit 221,fu "unmet_at" "unmet_at" (top 34) "curveyard.fitting" 486 220) ::
 (nat_lit 225,co "meeting_of" "meeting_of" 504 505 506 109 1 0 0 3 222 181 223 .none .none .none 224 507 508) ::
 (nat_lit 226,fu "meeting_of" "meeting_of" (top 35) "curveyard.fitting" 486 225) ::
 (nat_lit 227,di #[ke P "joined" 512 (.bool true),ke P "loose" 513 (.bool false)] 2) ::
 (nat_lit 228,di #[ke P "2" 517 (.int 2 518),ke P "3" 519 (.int 3 520)] 2) ::
 (nat_lit 234,co "curve_from" "curve_from" 524 525 526 118 1 0 0 3 229 181 230 .none (.ref 231) (.ref 232) 233 535 536) ::
 (nat_lit 235,fu "curve_from" "curve_from" (top 39) "curveyard.curvetext" 510 234) ::
 (nat_lit 241,co "words_at" "words_at" 538 539 540 129 2 0 0 3 236 181 237 .none (.ref 238) (.ref 239) 240 543 544) ::
 (nat_lit 242,fu "words_at" "words_at" (top 40) "curveyard.curvetext" 510 241) ::
 (nat_lit 248,co "read_head" "read_head" 546 547 548 133 1 0 0 3 243 181 244 .none (.ref 245) (.ref 246) 247 550 551) ::
 (nat_lit 249,fu "read_head" "read_head" (top 41) "curveyard.curvetext" 510 248) ::
 (nat_lit 255,co "read_part" "read_part" 553 554 555 139 3 0 0 3 250 181 251 .none (.ref 252) (.ref 253) 254 562 563) ::
 (nat_lit 256,fu "read_part" "read_part" (top 42) "curveyard.curvetext" 510 255) ::
 (nat_lit 262,co "fitted" "fitted" 565 566 567 148 1 0 0 3 257 181 258 .none (.ref 259) (.ref 260) 261 572 573) ::
 (nat_lit 263,fu "fitted" "fitted" (top 43) "curveyard.curvetext" 510 262) ::
 (nat_lit 267,co "place_of" "place_of" 577 578 579 155 2 0 0 3 264 181 265 .none .none .none 266 580 581) ::
 (nat_lit 268,fu "place_of" "place_of" (top 45) "curveyard.placetext" 575 267) ::
 (nat_lit 269,di #[⟨2,.int 2 585,.int 6 586⟩,⟨3,.int 3 587,.int 4 588⟩] 2) ::
 (nat_lit 270,di #[ke P "put" 602 (.ref 271),ke P "move" 606 (.ref 272),ke P "take" 610 (.ref 273),ke P "names" 612 (.ref 274),ke P "where" 613 (.ref 275),ke P "inside" 615 (.ref 276),ke P "meeting" 618 (.ref 277),ke P "near" 621 (.ref 278),ke P "sharing" 624 (.ref 279),ke P "number" 625 (.ref 280),ke P "place" 627 (.ref 281),ke P "spans" 629 (.ref 282),ke P "cover" 632 (.ref 283)] 13) ::
 (nat_lit 271,tu #[.str "name" 603,.str "place" 604,.str "place" 605] 0) ::
 (nat_lit 272,tu #[.str "name" 607,.str "place" 608,.str "place" 609] 0) ::
 (nat_lit 273,tu #[.str "name" 611] 0) ::
 (nat_lit 274,tu #[] 0) ::
 (nat_lit 275,tu #[.str "name" 614] 0) ::
 (nat_lit 276,tu #[.str "place" 616,.str "place" 617] 0) ::
 (nat_lit 277,tu #[.str "place" 619,.str "place" 620] 0) ::
 (nat_lit 278,tu #[.str "place" 622,.str "many" 623] 0) ::
 (nat_lit 279,tu #[] 0) ::
 (nat_lit 280,tu #[.str "place" 626] 0) ::
 (nat_lit 281,tu #[.str "number" 628] 0) ::
 (nat_lit 282,tu #[.str "place" 630,.str "place" 631] 0) ::
 (nat_lit 283,tu #[.str "place" 633,.str "place" 634,.str "many" 635] 0) ::
 (nat_lit 296,co "__init__" "Scene.__init__" 662 663 664 168 5 0 0 3 291 181 292 .none (.ref 293) (.ref 294) 295 670 671) ::
 (nat_lit 297,fu "__init__" "Scene.__init__" (sF (top 54) 0) "curveyard.scenetext" 583 296) ::
 (nat_lit 299,di #[ke P "__module__" 657 (.str "curveyard.scenetext" 583),ke P "__firstlineno__" 661 (.int 166 660),ke P "__init__" 672 (.ref 297),ke P "__static_attributes__" 677 (.ref 298),ke P "__dict__" 679 (.ref 301),ke P "__weakref__" 681 (.ref 302),ke P "__doc__" 682 .none] 4) ::
 (nat_lit 300,cl "Scene" [.type "object"] [.ref 300,.type "object"] 299 [] #[none,none,some (.str "Scene" 650),some (.str "Scene" 658),some (.builtin "object.__new__"),some (.bool true)]) ::
 (nat_lit 301,gd 678 300) ::
 (nat_lit 302,gw 680 300) ::
 (nat_lit 310,co "scene_of" "scene_of" 685 686 687 173 1 0 0 3 305 181 306 .none (.ref 307) (.ref 308) 309 696 697) ::
 (nat_lit 311,fu "scene_of" "scene_of" (top 55) "curveyard.scenetext" 583 310) ::
 (nat_lit 317,co "read_floor" "read_floor" 699 700 701 184 3 0 0 3 312 181 313 .none (.ref 314) (.ref 315) 316 707 708) ::
 (nat_lit 318,fu "read_floor" "read_floor" (top 56) "curveyard.scenetext" 583 317) ::
 (nat_lit 322,co "read_deed" "read_deed" 710 711 712 192 3 0 0 3 319 181 320 .none .none .none 321 713 714) ::
 (nat_lit 323,fu "read_deed" "read_deed" (top 57) "curveyard.scenetext" 583 322) ::
 (nat_lit 329,co "read_value" "read_value" 716 717 718 199 3 0 0 3 324 181 325 .none (.ref 326) (.ref 327) 328 722 723) ::
 (nat_lit 330,fu "read_value" "read_value" (top 58) "curveyard.scenetext" 583 329) ::
 (nat_lit 336,co "number_from" "number_from" 725 726 727 207 3 0 0 3 331 181 332 .none (.ref 333) (.ref 334) 335 732 733) ::
 (nat_lit 337,fu "number_from" "number_from" (top 59) "curveyard.scenetext" 583 336) ::
 (nat_lit 343,co "_law_cell_at" "_law_cell_at" 737 738 739 211 2 0 0 3 338 181 339 .none (.ref 340) (.ref 341) 342 742 743) ::
 (nat_lit 344,fu "_law_cell_at" "_law_cell_at" (top 61) "law_curveyard_k44_deeds_read" 735 343) ::
 (nat_lit 350,co "_law_mix" "_law_mix" 745 746 747 215 2 0 0 3 345 181 346 .none (.ref 347) (.ref 348) 349 751 752) ::
 (nat_lit 351,fu "_law_mix" "_law_mix" (top 62) "law_curveyard_k44_deeds_read" 735 350) ::
 (nat_lit 357,co "_law_same" "_law_same" 754 755 756 218 2 0 0 3 352 181 353 .none (.ref 354) (.ref 355) 356 760 761) ::
 (nat_lit 358,fu "_law_same" "_law_same" (top 63) "law_curveyard_k44_deeds_read" 735 357) ::
 (nat_lit 362,co "_law_turned" "_law_turned" 763 764 765 239 2 0 0 3 359 181 360 .none .none .none 361 766 767) ::
 (nat_lit 363,fu "_law_turned" "_law_turned" (top 64) "law_curveyard_k44_deeds_read" 735 362) ::
 (nat_lit 367,co "_law_after" "_law_after" 769 770 771 241 2 0 0 3 364 181 365 .none .none .none 366 772 773) ::
 (nat_lit 368,fu "_law_after" "_law_after" (top 65) "law_curveyard_k44_deeds_read" 735 367) ::
 (nat_lit 374,co "_law_undone" "_law_undone" 775 776 777 243 1 0 0 3 369 181 370 .none (.ref 371) (.ref 372) 373 781 782) ::
 (nat_lit 375,fu "_law_undone" "_law_undone" (top 66) "law_curveyard_k44_deeds_read" 735 374) ::
 (nat_lit 379,co "_law_turn" "_law_turn" 784 785 786 248 2 0 0 3 376 181 377 .none .none .none 378 787 788) ::
 (nat_lit 380,fu "_law_turn" "_law_turn" (top 67) "law_curveyard_k44_deeds_read" 735 379) ::
 (nat_lit 386,co "_law_base" "_law_base" 790 791 792 255 1 0 0 3 381 181 382 .none (.ref 383) (.ref 384) 385 796 797) ::
 (nat_lit 387,fu "_law_base" "_law_base" (top 68) "law_curveyard_k44_deeds_read" 735 386) ::
 (nat_lit 391,co "_law_joined" "_law_joined" 799 800 801 265 2 0 0 3 388 181 389 .none .none .none 390 802 803) ::
 (nat_lit 392,fu "_law_joined" "_law_joined" (top 69) "law_curveyard_k44_deeds_read" 735 391) ::
 (nat_lit 396,co "_law_corners" "_law_corners" 805 806 807 281 1 0 0 3 393 181 394 .none .none .none 395 808 809) ::
 (nat_lit 397,fu "_law_corners" "_law_corners" (top 70) "law_curveyard_k44_deeds_read" 735 396) ::
 (nat_lit 403,co "_law_loose" "_law_loose" 811 812 813 286 2 0 0 3 398 181 399 .none (.ref 400) (.ref 401) 402 820 821) ::
 (nat_lit 404,fu "_law_loose" "_law_loose" (top 71) "law_curveyard_k44_deeds_read" 735 403) ::
 (nat_lit 410,co "_law_word" "_law_word" 823 824 825 294 2 0 0 3 405 181 406 .none (.ref 407) (.ref 408) 409 834 835) ::
 (nat_lit 411,fu "_law_word" "_law_word" (top 72) "law_curveyard_k44_deeds_read" 735 410) ::
 (nat_lit 415,co "_law_curve_rows" "_law_curve_rows" 837 838 839 312 4 0 0 3 412 181 413 .none .none .none 414 840 841) ::
 (nat_lit 416,fu "_law_curve_rows" "_law_curve_rows" (top 73) "law_curveyard_k44_deeds_read" 735 415) ::
 (nat_lit 420,co "_law_spot" "_law_spot" 843 844 845 319 3 0 0 3 417 181 418 .none .none .none 419 846 847) ::
 (nat_lit 421,fu "_law_spot" "_law_spot" (top 74) "law_curveyard_k44_deeds_read" 735 420) ::
 (nat_lit 425,co "_law_box" "_law_box" 849 850 851 321 4 0 0 3 422 181 423 .none .none .none 424 852 853) ::
 (nat_lit 426,fu "_law_box" "_law_box" (top 75) "law_curveyard_k44_deeds_read" 735 425) ::
 (nat_lit 432,co "_law_deed" "_law_deed" 855 856 857 334 5 0 0 3 427 181 428 .none (.ref 429) (.ref 430) 431 870 871) ::
 (nat_lit 433,fu "_law_deed" "_law_deed" (top 76) "law_curveyard_k44_deeds_read" 735 432) ::
 (nat_lit 437,co "_law_place_text" "_law_place_text" 873 874 875 360 1 0 0 3 434 181 435 .none .none .none 436 876 877) ::
 (nat_lit 438,fu "_law_place_text" "_law_place_text" (top 77) "law_curveyard_k44_deeds_read" 735 437) ::
 (nat_lit 444,co "_law_deed_row" "_law_deed_row" 879 880 881 362 1 0 0 3 439 181 440 .none (.ref 441) (.ref 442) 443 885 886) ::
 (nat_lit 445,fu "_law_deed_row" "_law_deed_row" (top 78) "law_curveyard_k44_deeds_read" 735 444) ::
 (nat_lit 451,co "_law_far" "_law_far" 888 889 890 370 3 0 0 3 446 181 447 .none (.ref 448) (.ref 449) 450 899 900) ::
 (nat_lit 452,fu "_law_far" "_law_far" (top 79) "law_curveyard_k44_deeds_read" 735 451) ::
 (nat_lit 456,co "_law_shut" "_law_shut" 902 903 904 379 1 0 0 3 453 181 454 .none .none .none 455 905 906) ::
 (nat_lit 457,fu "_law_shut" "_law_shut" (top 80) "law_curveyard_k44_deeds_read" 735 456) ::
 (nat_lit 461,co "_law_raised" "_law_raised" 908 909 910 383 1 0 0 3 458 181 459 .none .none .none 460 911 912) ::
 (nat_lit 462,fu "_law_raised" "_law_raised" (top 81) "law_curveyard_k44_deeds_read" 735 461) ::
 (nat_lit 466,co "law" "law" 914 915 916 387 1 0 0 3 463 181 464 .none .none .none 465 917 918) ::
 (nat_lit 467,fu "law" "law" (top 82) "law_curveyard_k44_deeds_read" 735 466)::[]
def nY:Program:=view PySem.Challenge.pw_curveyard_k44_deeds_read [82]
def loose:List Str:="BITS"::"FLIPS"::"AXES"::"turned"::"still"::"after"::"turn_of"::"corner_of"::"Part"::"Curve"::"first_state"::"part_at"::"walked"::"YardError"::"TextError"::"BadRow"::"CornerTwice"::"Unmet"::"FIGURES"::"LETTERS"::"LONGEST_NUMBER"::"LONGEST_WORD"::"number_of"::"is_word"::"is_made_of"::"full"::"deeper"::"next_to"::"unmet_at"::"meeting_of"::"PROMISES"::"DIMS"::"curve_from"::"words_at"::"read_head"::"read_part"::"fitted"::"place_of"::"MOST_LEVEL"::"LEAST_SIZE"::"MOST_SIZE"::"LEAST_MANY"::"MOST_MANY"::"MOST_DEEDS"::"FORMS"::"Scene"::"scene_of"::"read_floor"::"read_deed"::"read_value"::"number_from"::"_law_cell_at"::"_law_mix"::"_law_same"::"_law_turned"::"_law_after"::"_law_undone"::"_law_turn"::"_law_base"::"_law_joined"::"_law_corners"::"_law_loose"::"_law_word"::"_law_curve_rows"::"_law_spot"::"_law_box"::"_law_deed"::"_law_place_text"::"_law_deed_row"::"_law_far"::"_law_shut"::"_law_raised"::[]
def zK5:List Addr:=nat_lit 3::nat_lit 18::nat_lit 19::nat_lit 23::nat_lit 24::nat_lit 28::nat_lit 29::nat_lit 33::nat_lit 34::nat_lit 38::nat_lit 39::nat_lit 52::nat_lit 53::nat_lit 55::nat_lit 56::nat_lit 57::nat_lit 58::nat_lit 73::nat_lit 74::nat_lit 76::nat_lit 77::nat_lit 78::nat_lit 79::nat_lit 87::nat_lit 88::nat_lit 94::nat_lit 95::nat_lit 101::nat_lit 102::nat_lit 111::nat_lit 112::nat_lit 113::nat_lit 128::nat_lit 129::nat_lit 131::nat_lit 132::nat_lit 143::nat_lit 144::nat_lit 155::nat_lit 156::nat_lit 171::nat_lit 172::nat_lit 174::nat_lit 175::nat_lit 178::nat_lit 184::nat_lit 185::nat_lit 191::nat_lit 192::nat_lit 196::nat_lit 197::nat_lit 203::nat_lit 204::nat_lit 208::nat_lit 209::nat_lit 213::nat_lit 214::nat_lit 220::nat_lit 221::nat_lit 225::nat_lit 226::nat_lit 227::nat_lit 228::nat_lit 234::nat_lit 235::nat_lit 241::nat_lit 242::nat_lit 248::nat_lit 249::nat_lit 255::nat_lit 256::nat_lit 262::nat_lit 263::nat_lit 267::nat_lit 268::nat_lit 269::nat_lit 270::nat_lit 271::nat_lit 272::nat_lit 273::nat_lit 274::nat_lit 275::nat_lit 276::nat_lit 277::nat_lit 278::nat_lit 279::nat_lit 280::nat_lit 281::nat_lit 282::nat_lit 283::nat_lit 296::nat_lit 297::nat_lit 299::nat_lit 300::nat_lit 301::nat_lit 302::nat_lit 310::nat_lit 311::nat_lit 317::nat_lit 318::nat_lit 322::nat_lit 323::nat_lit 329::nat_lit 330::nat_lit 336::nat_lit 337::nat_lit 343::nat_lit 344::nat_lit 350::nat_lit 351::nat_lit 357::nat_lit 358::nat_lit 362::nat_lit 363::nat_lit 367::nat_lit 368::nat_lit 374::nat_lit 375::nat_lit 379::nat_lit 380::nat_lit 386::nat_lit 387::nat_lit 391::nat_lit 392::nat_lit 396::nat_lit 397::nat_lit 403::nat_lit 404::nat_lit 410::nat_lit 411::nat_lit 415::nat_lit 416::nat_lit 420::nat_lit 421::nat_lit 425::nat_lit 426::nat_lit 432::nat_lit 433::nat_lit 437::nat_lit 438::nat_lit 444::nat_lit 445::nat_lit 451::nat_lit 452::nat_lit 456::nat_lit 457::nat_lit 461::nat_lit 462::nat_lit 466::nat_lit 467::[]
theorem zSU (P:Params):zK5=(zUK P).map (fun x=>x.1):=by kernel_rfl
abbrev hook:Hook:=kHook zUK zK5 zSU
abbrev zMO (s:Shared):Bool:=xlAt nY [] s&&recOk (RowW.records PySem.Challenge.rw_curveyard_k44_deeds_read.row.toRowW) s
def b (P:Params)(i:Nat):Obj:=((zUK P).getD i (0,default)).2
def cf (n q:Str)(s:Stmt):Obj:=⟨.none,none,.func { name:=n,qualname:=q,params:=vC s,body:=.stmts (wJ s),scope:=zS s,globals:=0,closure:=[],defaults:=.none,kwdefaults:=.none },#[]⟩
def zKG (P:Params):List Obj :=
 boot_o_0 P ::
 boot_o_1 P ::
 boot_o_2 P ::
 di #[ke P "__name__" 165 (.str "curveyard.figures" 430),ke P "__doc__" 166 .none,ke P "__package__" 167 .none,ke P "__loader__" 168 (.builtin "__main__.__loader__#opaque"),ke P "__spec__" 169 .none,ke P "__annotations__" 170 (.ref 6),ke P "__builtins__" 171 (.ref 4),ke P "__file__" 173 (.str "/claim/cut.py" 172),ke P "__cached__" 174 .none,ke P "BITS" 190 (.str "01" 189),ke P "FLIPS" 192 (.str "+-" 191),ke P "AXES" 194 (.str "xyz" 193),ke P "turned" 200 (.ref 19),ke P "still" 206 (.ref 24),ke P "after" 212 (.ref 29),ke P "turn_of" 218 (.ref 34),ke P "corner_of" 224 (.ref 39),ke P "Part" 259 (.ref 56),ke P "Curve" 294 (.ref 77),ke P "first_state" 301 (.ref 88),ke P "part_at" 314 (.ref 95),ke P "walked" 323 (.ref 102),ke P "YardError" 343 (.ref 112),ke P "TextError" 368 (.ref 132),ke P "BadRow" 384 (.ref 144),ke P "CornerTwice" 400 (.ref 156),ke P "Unmet" 429 (.ref 175),ke P "FIGURES" 433 (.str "0123456789" 432),ke P "LETTERS" 435 (.str "abcdefghijklmnopqrstuvwxyz" 434),ke P "LONGEST_NUMBER" 437 (.int 60 436),ke P "LONGEST_WORD" 439 (.int 12 438)] 31 ::
 boot_o_4 P ::
 boot_o_5 P ::
 boot_o_6 P ::
 boot_o_7 P ::
 boot_o_8 P ::
 boot_o_9 P ::
 boot_o_10 P ::
 tu #[] 0 ::
 nf #[.int 5 0,.int 0 0,.ref 18,.int 7 0,.int 0 0,.ref 23,.int 9 0,.int 0 0,.ref 28,.int 11 0,.int 0 0,.ref 33,.int 19 0,.int 0 0,.ref 38,.int 25 0,.int 0 0,.ref 45,.int 31 0,.int 0 0,.ref 66,.int 38 0,.int 0 0,.ref 87,.int 40 0,.int 0 0,.ref 94,.int 45 0,.int 0 0,.ref 101,.int 48 0,.int 0 0,.ref 108,.int 50 0,.int 0 0,.ref 121,.int 54 0,.int 0 0,.ref 140,.int 56 0,.int 0 0,.ref 152,.int 58 0,.int 0 0,.ref 164] ::
 cb "<module>" 182 183 184 1 11 181 12 185 186 ::
 fm #[some (.ref 13),some (.ref 3),some (.ref 3),none,some (.str "__main__" 164),none,some (.ref 0)] ::
 tu #[] 0 ::
 nf #[] ::
 cf "turned" "turned" (top 4) ::
 b P 1 ::
 b P 2 ::
 tu #[] 0 ::
 nf #[] ::
 cf "still" "still" (top 5) ::
 b P 3 ::
 b P 4 ::
 tu #[] 0 ::
 nf #[] ::
 cf "after" "after" (top 6) ::
 b P 5 ::
 b P 6 ::
 tu #[] 0 ::
 nf #[] ::
 cf "turn_of" "turn_of" (top 7) ::
 b P 7 ::
 b P 8 ::
 tu #[] 0 ::
 nf #[] ::
 cf "corner_of" "corner_of" (top 8) ::
 b P 9 ::
 b P 10 ::
 tu #[] 0 ::
 tf "builtin_function_or_method" #[.builtin "type.__prepare__",.type "type"] ::
 di #[ke P "__module__" 234 (.str "curveyard.curves" 225),ke P "__qualname__" 236 (.str "Part" 235),ke P "__firstlineno__" 238 (.int 25 237),ke P "__init__" 248 (.ref 53),ke P "__static_attributes__" 252 (.ref 54)] 5 ::
 tu #[] 0 ::
 nf #[.int 27 0,.int 4 0,.ref 52] ::
 cb "Part" 229 230 231 25 43 181 44 232 233 ::
 fm #[some (.ref 45),some (.ref 3),some (.ref 42),none,some (.str "curveyard.curves" 225),none,some (.ref 0)] ::
 tu #[] 0 ::
 nf #[] ::
 tu #[.str "self" 242,.str "corner" 243,.str "turn" 244,.str "back" 245] 0 ::
 tu #[] 0 ::
 cf "__init__" "Part.__init__" (sF (top 10) 0) ::
 b P 11 ::
 b P 12 ::
 tu #[.str "back" 249,.str "corner" 250,.str "turn" 251] 0 ::
 b P 13 ::
 b P 14 ::
 b P 15 ::
 b P 16 ::
 tf "super" #[.ref 56,.ref 56,.ref 56] ::
 tf "builtin_function_or_method" #[.builtin "object.__init_subclass__",.ref 56] ::
 tu #[] 0 ::
 tf "builtin_function_or_method" #[.builtin "type.__prepare__",.type "type"] ::
 di #[ke P "__module__" 267 (.str "curveyard.curves" 225),ke P "__qualname__" 269 (.str "Curve" 268),ke P "__firstlineno__" 271 (.int 31 270),ke P "__init__" 282 (.ref 74),ke P "__static_attributes__" 287 (.ref 75)] 5 ::
 tu #[] 0 ::
 nf #[.int 33 0,.int 4 0,.ref 73] ::
 cb "Curve" 262 263 264 31 64 181 65 265 266 ::
 fm #[some (.ref 66),some (.ref 3),some (.ref 63),none,some (.str "curveyard.curves" 225),none,some (.ref 0)] ::
 tu #[] 0 ::
 nf #[] ::
 tu #[.str "self" 275,.str "name" 276,.str "dims" 277,.str "joined" 278,.str "parts" 279] 0 ::
 tu #[] 0 ::
 cf "__init__" "Curve.__init__" (sF (top 11) 0) ::
 b P 17 ::
 b P 18 ::
 tu #[.str "dims" 283,.str "joined" 284,.str "name" 285,.str "parts" 286] 0 ::
 b P 19 ::
 b P 20 ::
 b P 21 ::
 b P 22 ::
 tf "super" #[.ref 77,.ref 77,.ref 77] ::
 tf "builtin_function_or_method" #[.builtin "object.__init_subclass__",.ref 77] ::
 tu #[] 0 ::
 nf #[] ::
 tu #[.str "dims" 298] 0 ::
 tu #[] 0 ::
 cf "first_state" "first_state" (top 12) ::
 b P 23 ::
 b P 24 ::
 tu #[] 0 ::
 nf #[] ::
 tu #[.str "curve" 305,.str "state" 306,.str "digit" 307,.str "turn" 308,.str "back" 309,.str "part" 310,.str "inner" 311] 0 ::
 tu #[] 0 ::
 cf "part_at" "part_at" (top 13) ::
 b P 25 ::
 b P 26 ::
 tu #[] 0 ::
 nf #[] ::
 tu #[.str "curve" 318,.str "back" 319,.str "number" 320] 0 ::
 tu #[] 0 ::
 cf "walked" "walked" (top 14) ::
 b P 27 ::
 b P 28 ::
 tu #[.type "ValueError"] 0 ::
 tf "builtin_function_or_method" #[.builtin "type.__prepare__",.type "type"] ::
 di #[ke P "__module__" 333 (.str "curveyard.errors" 324),ke P "__qualname__" 335 (.str "YardError" 334),ke P "__firstlineno__" 337 (.int 48 336),ke P "__static_attributes__" 338 (.ref 110)] 4 ::
 tu #[] 0 ::
 nf #[] ::
 cb "YardError" 328 329 330 48 106 181 107 331 332 ::
 fm #[some (.ref 108),some (.ref 3),some (.ref 105),none,some (.str "curveyard.errors" 324),none,some (.ref 0)] ::
 tu #[] 0 ::
 b P 29 ::
 b P 30 ::
 b P 31 ::
 tf "super" #[.ref 112,.ref 112,.ref 112] ::
 tf "builtin_function_or_method" #[.builtin "object.__init_subclass__",.ref 112] ::
 tu #[.ref 112] 0 ::
 tf "builtin_function_or_method" #[.builtin "type.__prepare__",.type "type"] ::
 di #[ke P "__module__" 351 (.str "curveyard.errors" 324),ke P "__qualname__" 353 (.str "TextError" 352),ke P "__firstlineno__" 355 (.int 50 354),ke P "__init__" 363 (.ref 129),ke P "__static_attributes__" 365 (.ref 130)] 5 ::
 tu #[] 0 ::
 nf #[.int 52 0,.int 4 0,.ref 128] ::
 cb "TextError" 346 347 348 50 119 181 120 349 350 ::
 fm #[some (.ref 121),some (.ref 3),some (.ref 118),none,some (.str "curveyard.errors" 324),none,some (.ref 0)] ::
 tu #[] 0 ::
 nf #[] ::
 tu #[.str "self" 359,.str "row" 360] 0 ::
 tu #[] 0 ::
 cf "__init__" "TextError.__init__" (sF (top 17) 0) ::
 b P 32 ::
 b P 33 ::
 tu #[.str "row" 364] 0 ::
 b P 34 ::
 b P 35 ::
 tf "super" #[.ref 132,.ref 132,.ref 132] ::
 tf "builtin_function_or_method" #[.builtin "object.__init_subclass__",.ref 132] ::
 tu #[.ref 132] 0 ::
 tf "builtin_function_or_method" #[.builtin "type.__prepare__",.type "type"] ::
 di #[ke P "__module__" 376 (.str "curveyard.errors" 324),ke P "__qualname__" 378 (.str "BadRow" 377),ke P "__firstlineno__" 380 (.int 54 379),ke P "__static_attributes__" 381 (.ref 142)] 4 ::
 tu #[] 0 ::
 nf #[] ::
 cb "BadRow" 371 372 373 54 138 181 139 374 375 ::
 fm #[some (.ref 140),some (.ref 3),some (.ref 137),none,some (.str "curveyard.errors" 324),none,some (.ref 0)] ::
 tu #[] 0 ::
 b P 36 ::
 b P 37 ::
 tf "super" #[.ref 144,.ref 144,.ref 144] ::
 tf "builtin_function_or_method" #[.builtin "object.__init_subclass__",.ref 144] ::
 tu #[.ref 132] 0 ::
 tf "builtin_function_or_method" #[.builtin "type.__prepare__",.type "type"] ::
 di #[ke P "__module__" 392 (.str "curveyard.errors" 324),ke P "__qualname__" 394 (.str "CornerTwice" 393),ke P "__firstlineno__" 396 (.int 56 395),ke P "__static_attributes__" 397 (.ref 154)] 4 ::
 tu #[] 0 ::
 nf #[] ::
 cb "CornerTwice" 387 388 389 56 150 181 151 390 391 ::
 fm #[some (.ref 152),some (.ref 3),some (.ref 149),none,some (.str "curveyard.errors" 324),none,some (.ref 0)] ::
 tu #[] 0 ::
 b P 38 ::
 b P 39 ::
 tf "super" #[.ref 156,.ref 156,.ref 156] ::
 tf "builtin_function_or_method" #[.builtin "object.__init_subclass__",.ref 156] ::
 tu #[.ref 112] 0 ::
 tf "builtin_function_or_method" #[.builtin "type.__prepare__",.type "type"] ::
 di #[ke P "__module__" 408 (.str "curveyard.errors" 324),ke P "__qualname__" 410 (.str "Unmet" 409),ke P "__firstlineno__" 412 (.int 58 411),ke P "__init__" 422 (.ref 172),ke P "__static_attributes__" 426 (.ref 173)] 5 ::
 tu #[] 0 ::
 nf #[.int 60 0,.int 4 0,.ref 171] ::
 cb "Unmet" 403 404 405 58 162 181 163 406 407 ::
 fm #[some (.ref 164),some (.ref 3),some (.ref 161),none,some (.str "curveyard.errors" 324),none,some (.ref 0)] ::
 tu #[] 0 ::
 nf #[] ::
 tu #[.str "self" 416,.str "first" 417,.str "second" 418,.str "level" 419] 0 ::
 tu #[] 0 ::
 cf "__init__" "Unmet.__init__" (sF (top 20) 0) ::
 b P 40 ::
 b P 41 ::
 tu #[.str "first" 423,.str "level" 424,.str "second" 425] 0 ::
 b P 42 ::
 b P 43 ::
 tf "super" #[.ref 175,.ref 175,.ref 175] ::
 tf "builtin_function_or_method" #[.builtin "object.__init_subclass__",.ref 175]::[]
def zYz:Env:={ scope:=PySem.Challenge.rw_curveyard_k44_deeds_read.row.prog.main.scope,locals:=mainNs,globals:=mainNs,cells:=[],code:=.ref 13,frame:=some 14 }
def zIZ:List Stmt:=(behindTheImports PySem.Challenge.rw_curveyard_k44_deeds_read.row.prog).take 26
def zLQ:List Stmt:=(behindTheImports PySem.Challenge.rw_curveyard_k44_deeds_read.row.prog).drop 26
def zKa (w:World)(os:OsState):Shared:=⟨⟨⟨zKG w.params⟩,{}⟩,#[],⟨0,0,0,0⟩,440,os⟩
def zN3:Pos:=⟨0,0,0,0⟩
def zKD:Pos:=⟨0,0,0,0⟩
def zMx:Pos:=⟨0,0,0,0⟩
def zOE:Pos:=⟨68,0,68,12⟩
abbrev zVw:Code:=.body (zIZ++zLQ) zYz
abbrev zIA (w:World)(os:OsState):=topGo treeTable PySem.Challenge.rw_curveyard_k44_deeds_read.row.prog w 11 (some (.ref 6)) 12 ⟨boot_heap w.params,Array.mk [],boot_drawn,boot_toks,os⟩ (topStub PySem.Challenge.rw_curveyard_k44_deeds_read.row.prog)
abbrev zJL (w:World)(os:OsState):=(zIA w os).bind fun x=>segRun treeTable PySem.Challenge.rw_curveyard_k44_deeds_read.row.prog w 11 (some (.ref 6)) 1 1 x.1 (blockOf (zIZ++zLQ) zYz zVw zKD [topFrame zN3])
theorem zIb (w:World)(os:OsState):(zIA w os).map (fun x=>x.2)=some ⟨denote treeTable zVw,zVw,zKD,[topFrame zN3]⟩:=by kernel_rfl
theorem zHX (w:World)(os:OsState):(zJL w os).map (fun y=>(y.1,y.2.2))=some (.next,zVw,zMx):=by kernel_rfl
theorem zI1 (w:World)(os:OsState):((zJL w os).bind fun y=>segRun treeTable PySem.Challenge.rw_curveyard_k44_deeds_read.row.prog w 11 (some (.ref 6)) 1 1939 y.2.1 (piecesOf zIZ zYz zVw zMx [topFrame zN3]))=some (.next,zKa w os,zVw,zOE):=by kernel_rfl
abbrev zNV (w:World)(os:OsState):Option Shared:=(topRun treeTable PySem.Challenge.rw_curveyard_k44_deeds_read.row.prog w 11 (some (.ref 6)) 1963 (zKa w os) (restOf zLQ zYz zVw zOE [topFrame zN3])).bind fun s=>match staticsOk (importedModules PySem.Challenge.rw_curveyard_k44_deeds_read.row.prog.main.body) (boot_heap w.params) s.heap&&namesBound PySem.Challenge.rw_curveyard_k44_deeds_read.row.prog s.heap&&gensDone s&&laidKept (boot_heap w.params) s.heap with
 | true=>some s
 | false=>none
def qN (w:World):Prop:=∀os:OsState,(zNV w os).map (fun s=>openSeen nY loose (importedModules PySem.Challenge.rw_curveyard_k44_deeds_read.row.prog.main.body) zMO true s)=some (openGood nY loose)
theorem zTk (w:World):qN (w.withFollow "special-get-raises" false):=by unfold qN;intros;kernel_rfl
theorem zTV (w:World):qN (w.withFollow "special-get-raises" true):=by unfold qN;intros;kernel_rfl
theorem zQs (w:World)(os:OsState):(zNV w os).map (fun s=>openSeen nY loose (importedModules PySem.Challenge.rw_curveyard_k44_deeds_read.row.prog.main.body) zMO true s)=some (openGood nY loose):=byRow2 "special-get-raises" (P:=qN) zTk zTV w os
def qM (w:World):Prop:=∀os:OsState,(zNV w os).map hook.obs=some (hook.val w)
theorem zTR (w:World):qM (w.withFollow "special-get-raises" false):=by unfold qM;intros;kernel_rfl
theorem zTO (w:World):qM (w.withFollow "special-get-raises" true):=by unfold qM;intros;kernel_rfl
theorem zPz (w:World)(os:OsState):(zNV w os).map hook.obs=some (hook.val w):=byRow2 "special-get-raises" (P:=qM) zTR zTO w os
theorem zNF (w:World):((boot_heap w.params).isNs mainGlobals&&(Array.mk []:Array GenState).size==0,(boot_heap w.params).objs.size,(boot_heap w.params).nsMap mainGlobals "__annotations__")=(true,11,some (.ref 6)):=by kernel_rfl
theorem zQm:opening PySem.Challenge.rw_curveyard_k44_deeds_read.row.prog=plainProg PySem.Challenge.rw_curveyard_k44_deeds_read.row.prog.main.scope.names:=by kernel_rfl
theorem zOP (s:Shared):fenceModules? PySem.Challenge.rw_curveyard_k44_deeds_read.row.prog s=some s:=by kernel_rfl
theorem zL5 (w:World)(os:OsState)(r:Shared)(k:topRun treeTable PySem.Challenge.rw_curveyard_k44_deeds_read.row.prog w 11 (some (.ref 6)) 1963 (zKa w os) (restOf zLQ zYz zVw zOE [topFrame zN3])=some r):topRun treeTable PySem.Challenge.rw_curveyard_k44_deeds_read.row.prog w 11 (some (.ref 6)) (12+(1+(1939+1963))) ⟨boot_heap w.params,Array.mk [],boot_drawn,boot_toks,os⟩ (topStub PySem.Challenge.rw_curveyard_k44_deeds_read.row.prog)=some r:=by
 have ha:=zIb w os
 have hb:=zHX w os
 have hc:=zI1 w os
 obtain⟨⟨sa,ta⟩,ga,ea⟩:=Qt.mp ha
 have ea':ta=_:=ea
 subst ea'
 unfold zJL at hb hc
 rw[ga] at hb hc
 obtain⟨⟨fb,sb,cb,pb⟩,gb,eb⟩:=Qt.mp hb
 have e1:fb=Flow.next:=Ea (fun y:Flow×Code×Pos=>y.1) eb
 have e2:cb=zVw:=Ea (fun y:Flow×Code×Pos=>y.2.1) eb
 have e3:pb=zMx:=Ea (fun y:Flow×Code×Pos=>y.2.2) eb
 subst e1 e2 e3
 have gb':=gb
 rw[Qw] at gb'
 rw[gb] at hc
 rw[Qw] at hc
 exact go_top ga (piece_block gb' (piece_app hc k))
theorem zSV {β:Type}{f:Shared->β}{v:World->β}(h:∀w os,(zNV w os).map f=some (v w))(w:World):(openEnds treeTable PySem.Challenge.rw_curveyard_k44_deeds_read.row.prog w 7756).map f=some (v w):=by
 obtain⟨⟨hp,gs,d,k,os⟩,e,e'⟩:=Qt.mp (boot_open zQm (N:=7756) (by decide) zOP w)
 have e1:hp=_:=Ea (fun y:Heap×Array GenState×Drawn×Nat=>y.1) e'
 have e2:gs=_:=Ea (fun y:Heap×Array GenState×Drawn×Nat=>y.2.1) e'
 have e3:d=_:=Ea (fun y:Heap×Array GenState×Drawn×Nat=>y.2.2.1) e'
 have e4:k=_:=Ea (fun y:Heap×Array GenState×Drawn×Nat=>y.2.2.2) e'
 subst e1 e2 e3 e4
 have z:=zNF w
 have z1:=Ea (fun y:Bool×Nat×Option Value=>y.1) z
 have z2:=Ea (fun y:Bool×Nat×Option Value=>y.2.1) z
 have z3:=Ea (fun y:Bool×Nat×Option Value=>y.2.2) z
 dsimp only at z1 z2 z3
 have q:=h w os
 obtain⟨s1,hs,hf⟩:=Qt.mp q
 obtain⟨r,hr,hm⟩:=Qq.mp hs
 have m:=topRun_mono (7756 - (12+(1+(1939+1963)))) _ _ _ _ (zL5 w os r hr)
 rw[show 12+(1+(1939+1963))+(7756 - (12+(1+(1939+1963))))=7756 from by omega] at m
 unfold openEnds
 rw[e,Qw]
 unfold topFrom
 dsimp only
 rw[z1,z2,z3,m]
 show(match staticsOk _ _ r.heap&&_&&_&&_ with | true=>some r | false=>none:Option Shared).map f=_
 rw[←hf]
 exact Ea (Option.map f) hm
theorem zMf {α β γ:Type}{x:Option α}{f:α->β}{g:α->γ}{a:β}{b:γ}(h1:x.map f=some a)(h2:x.map g=some b):x.map (fun s=>(f s,g s))=some (a,b):=by
 cases x with
 | none=>cases h1
 | some s=>cases h1;cases h2;rfl
theorem zLH:LeftO PySem.Challenge.rw_curveyard_k44_deeds_read.row.prog nY loose zMO hook.obs hook.val 7756:=fun w=>zMf (zSV (v:=fun _=>openGood nY loose) zQs w) (zSV zPz w)
end My
namespace L2
open PySem PySem.Spec PyProof.Rows
abbrev Key:=Sum Int Str
def zKC:Key->Value->Bool
 | .inl k,v=>Value.isInt k v
 | .inr x,v=>Value.isStrOf x v
def zHr (w:World):Key->Int
 | .inl k=>hashInt k
 | .inr x=>hashStr w x
theorem vG:∀ {k:Key} {v:Value},zKC k v=true->(∃i t,k=Sum.inl i/\v=Value.int i t)∨(∃x t,k=Sum.inr x/\v=Value.str x t)
 | .inl i,v,h=>by
   obtain⟨t,e⟩:=Value.isInt_shape (k:=i) (v:=v) h
   exact .inl ⟨i,t,rfl,e⟩
 | .inr x,v,h=>by
   obtain⟨t,e⟩:=Value.isStrOf_shape (x:=x) (v:=v) h
   exact .inr ⟨x,t,rfl,e⟩
theorem zKo (a b:Int):decide ((Sum.inl a:Key)=Sum.inl b)=(a==b):=by
 by_cases e:a=b
 · subst e;simp
 · have h:¬(Sum.inl a:Key)=Sum.inl b:=fun q=>e (Sum.inl.inj q)
   rw[Qz h]
   exact(Es.mpr e).symm
theorem zKb (a b:Str):decide ((Sum.inr a:Key)=Sum.inr b)=decide (a=b):=by
 by_cases e:a=b
 · subst e;simp
 · have h:¬(Sum.inr a:Key)=Sum.inr b:=fun q=>e (Sum.inr.inj q)
   rw[Qz h,Qz e]
theorem zIO (a:Int)(b:Str):decide ((Sum.inl a:Key)=Sum.inr b)=false:=Qz (fun q=>nomatch q)
theorem zIY (a:Str)(b:Int):decide ((Sum.inr a:Key)=Sum.inl b)=false:=Qz (fun q=>nomatch q)
def zRq (prog:Program)(w:World):PySem.KeyKind prog w Key where
 is:=zKC
 hash:=zHr w
 inj:=fun v a b ha hb=>by
   rcases vG ha with⟨i,t,rfl,rfl⟩ | ⟨x,t,rfl,rfl⟩
   · rcases vG hb with⟨j,u,rfl,e⟩ | ⟨y,u,rfl,e⟩
     · injection e with e1 _;rw[e1]
     · exact nomatch e
   · rcases vG hb with⟨j,u,rfl,e⟩ | ⟨y,u,rfl,e⟩
     · exact nomatch e
     · injection e with e1 _;rw[e1]
 byValue:=fun k v h=>by
   rcases vG h with⟨i,t,rfl,rfl⟩ | ⟨x,t,rfl,rfl⟩<;>rfl
 pyHash:=fun hv h=>by
   rcases vG hv with⟨i,t,rfl,rfl⟩ | ⟨x,t,rfl,rfl⟩
   · exact wpAny_pyHash_int h
   · exact wpAny_pyHash_str h
 eqBool:=fun hu hv h=>by
   rcases vG hu with⟨i,t,rfl,rfl⟩ | ⟨x,t,rfl,rfl⟩
   · rcases vG hv with⟨j,u,rfl,rfl⟩ | ⟨y,u,rfl,rfl⟩
     · rw[zKo] at h;exact wpAny_eqBool_int h
     · rw[zIO] at h;exact SeqAt.EqAt.int_str i t y u _ _ _ _ h
   · rcases vG hv with⟨j,u,rfl,rfl⟩ | ⟨y,u,rfl,rfl⟩
     · rw[zIY] at h;exact SeqAt.EqAt.str_int x t j u _ _ _ _ h
     · rw[zKb] at h;exact wpAny_eqBool_str h
 «strs» := fun k x t v h=>by
   rcases vG h with⟨i,u,rfl,e⟩ | ⟨y,u,rfl,e⟩
   · exact nomatch e
   · injection e with e1 _
     subst e1
     cases v<;>rfl
inductive V where
 | non | bl (b:Bool) | int (i:Int) | str (x:Str) | byt (b:Array UInt8) | flt (b:UInt64) | ref (a:Addr) | ty (n:String)
 deriving DecidableEq
def RelV:V->Value->Prop
 | .non,u=>u=Value.none
 | .bl b,u=>u=Value.bool b
 | .int i,u=>∃t,u=Value.int i t
 | .str x,u=>∃t,u=Value.str x t
 | .byt b,u=>∃t,u=Value.bytes b t
 | .flt b,u=>∃t,u=Value.float b t
 | .ref a,u=>u=Value.ref a
 | .ty n,u=>u=Value.type n
abbrev Vals:List V->List Value->Prop:=Paired RelV
theorem Vals.length {xs:List V}{us:List Value}(r:Vals xs us):xs.length=us.length:=Paired.length r
theorem Vals.get:∀ {xs:List V} {us:List Value} {i:Nat} {x:V},Vals xs us->xs[i]?=some x->∃u,us[i]?=some u/\RelV x u
 | _,_,_,_,.nil,e=>by simp at e
 | _,_,0,_,.cons r _,e=>by simp at e;subst e;exact⟨_,rfl,r⟩
 | _,_,i+1,x,.cons _ t,e=>by
   obtain⟨u,h1,h2⟩:=Vals.get (i:=i) (x:=x) t (by simpa using e)
   exact⟨u,by simpa using h1,h2⟩
theorem Vals.set {x:V}{u:Value}(r:RelV x u):∀ {xs:List V} {us:List Value} (i:Nat),Vals xs us->Vals (xs.set i x) (us.set i u)
 | _,_,_,.nil=>.nil
 | _,_,0,.cons _ t=>.cons r t
 | _,_,i+1,.cons q t=>.cons q (Vals.set r i t)
theorem Vals.append:∀ {xs ys:List V} {us ws:List Value},Vals xs us->Vals ys ws->Vals (xs++ys) (us++ws)
 | _,_,_,_,.nil,s=>s
 | _,_,_,_,.cons r t,s=>.cons r (Vals.append t s)
theorem Vals.take:∀ {xs:List V} {us:List Value} (n:Nat),Vals xs us->Vals (xs.take n) (us.take n)
 | _,_,0,_=>.nil
 | _,_,_+1,.nil=>.nil
 | _,_,n+1,.cons r t=>.cons r (Vals.take n t)
theorem Vals.drop:∀ {xs:List V} {us:List Value} (n:Nat),Vals xs us->Vals (xs.drop n) (us.drop n)
 | _,_,0,r=>r
 | _,_,_+1,.nil=>.nil
 | _,_,n+1,.cons _ t=>Vals.drop n t
def RelO:Option V->Option Value->Prop
 | some v,some u=>RelV v u
 | none,none=>True
 | _,_=>False
def KV {κ:Type}:List (κ×V)->List (κ×Value)->Prop:=Paired fun(p:κ×V) (q:κ×Value)=>p.1=q.1/\RelV p.2 q.2
def kV:Key->V
 | .inl i=>.int i
 | .inr x=>.str x
inductive HO where
 /-- a list -/
 | lst (xs:List V)
 /-- a tuple (never changes) -/
 | tup (xs:List V)
 /-- a dict whose keys are ints and texts; one whose keys are tuples of ints and texts (the empty one is both) -/
 | dK (kvs:List (Key×V)) | dT (kvs:List (List Key×V))
 /-- a set of ints: its members, its size -/
 | set (S:Int->Bool) (n:Nat)
 /-- an instance of the class at C, its dict at dx, its attributes -/
 | ins (C dx:Addr) (fs:List (Str×V))
 /-- the dict of the instance at x -/
 | own (x:Addr)
 /-- the dict of an exception -/
 | xd (fs:List (Str×V))
 /-- a bound method, f of x -/
 | met (f x:Addr)
 /-- a range object lo, lo + 1, .. below hi -/
 | rng (lo hi:Int)
 /-- a thing that is known to the object (the script; a dict while a loop walks it): read, never written while it is so -/
 | frz (o:Obj) (u:HO)
 /-- a code object's table -/
 | tbl (ps:Array Value)
 /-- any other thing, by what is true of its one object (a def of one's own: SetO a S n := HO.ext fun h => ..) -/
 | ext (φ:Heap->Prop)
abbrev Hp:=Addr->Option HO
def upd (H:Hp)(a:Addr)(o:HO):Hp:=fun b=>if b=a then some o else H b
theorem yX {H:Hp}{a:Addr}{o:HO}:upd H a o a=some o:=by unfold upd;rw[Qb rfl]
theorem yI {H:Hp}{a b:Addr}{o:HO}(h:b≠a):upd H a o b=H b:=by unfold upd;rw[Ws h]
theorem xR {H:Hp}{a b:Addr}{o:HO}(h:H a=some o)(h':H b=none):a≠b:=by
 intro e;subst e;rw[h] at h';cases h'
section
variable (P:Program) (w:World)
def ObjOk (H:Hp)(h:Heap)(a:Addr):HO->Prop
 | .lst xs=>xs.length<=sizeLine/\∃(its:List Value) (n:Nat),Vals xs its/\h.get? a=some { cls:=.type "list",data:=.seq its.toArray n }
 | .tup xs=>xs.length<=sizeLine/\∃its:List Value,Vals xs its/\IsTup h a its.toArray
 | .dK kvs=>kvs.length<=sizeLine/\(a==sysModules)=false/\∃vs,KV kvs vs/\h.DictOf (zRq P w) a vs
 | .dT kvs=>kvs.length<=sizeLine/\(a==sysModules)=false/\∃xs:List (List Key×Addr×Value),
     Paired (fun(p:List Key×V) (q:List Key×Addr×Value)=>p.1=q.1/\H q.2.1=some (.tup (p.1.map kV))/\RelV p.2 q.2.2) kvs xs /\
     ∃o es ep,h.get? a=some o/\o.ExactDict/\o.data = .dict es ep/\es.toList=xs.map (entryOfKey (tupleKind (zRq P w)))/\(xs.map (·.1)).Nodup
 | .set S n=>h.SetOf (intKind P w) a S n
 | .ins C dx fs=>H dx=some (.own a)/\fs.length<=1000/\dx≠a/\h.get? a=some (PySem.W.instObj C dx) /\
     ∃mA,h.Ns1 dx mA/\(∀f,RelO (fs.lookup f) (mA f))/\PySem.Within mA (fs.map (·.1))
 | .own _=>∃o,h.get? a=some o
 | .xd fs=>∃mA,h.Ns1 a mA/\∀f,RelO (fs.lookup f) (mA f)
 | .rng lo hi=>∃t u v,h.get? a=some { cls:=.type "range",data:=.fields #[.int lo t,.int hi u,.int 1 v] }
 | .frz o u=>h.get? a=some o/\ObjOk H h a u
 | .tbl ps=>h.get? a=some { cls:=.none,data:=.fields ps }
 | .met f x=>h.get? a=some (PySem.W.methodObj (.ref f) (.ref x))
 | .ext φ=>φ h/\(∃o,h.get? a=some o)/\∀h1 h2:Heap,φ h1->(∀o,h1.get? a=some o->h2.get? a=some o)->φ h2
def HOk (H:Hp)(h:Heap):Prop:=∀a o,H a=some o->ObjOk P w H h a o
end
section
variable {P:Program} {w:World} {H H':Hp} {h h':Heap} {a:Addr} {o:HO}
theorem ObjOk.lt (x:ObjOk P w H h a o):a < h.objs.size:=by
 cases o with
 | lst xs=>obtain⟨_,_,_,_,e⟩:=x;exact Qs e
 | tup xs=>obtain⟨_,_,_,p⟩:=x;exact p.lt
 | dK kvs=>obtain⟨_,_,_,_,o,_,_,e,_⟩:=x;exact Qs e
 | dT kvs=>obtain⟨_,_,_,_,o,_,_,e,_⟩:=x;exact Qs e
 | set S n=>obtain⟨o,_,_,_,e,_⟩:=x;exact Qs e
 | ins C dx fs=>obtain⟨_,_,_,e,_⟩:=x;exact Qs e
 | own y=>obtain⟨_,e⟩:=x;exact Qs e
 | xd fs=>obtain⟨_,⟨_,_,_,e,_⟩,_⟩:=x;exact Qs e
 | rng lo hi=>obtain⟨_,_,_,e⟩:=x;exact Qs e
 | frz ob u=>obtain⟨e,_⟩:=x;exact Qs e
 | tbl ps=>exact Qs (show h.get? a=some _ from x)
 | met f y=>exact Qs (show h.get? a=some _ from x)
 | ext φ=>obtain⟨_,⟨_,e⟩,_⟩:=x;exact Qs e
theorem Paired.mapP {α β:Type}{F G:α->β->Prop}:∀ {l₁:List α} {l₂:List β},Paired F l₁ l₂->(∀a b,F a b->G a b)->Paired G l₁ l₂
 | _,_,.nil,_=>.nil
 | _,_,.cons r t,f=>.cons (f _ _ r) (Paired.mapP t f)
theorem ObjOk.stay (x:ObjOk P w H h a o)(k:∀b u,(b=a∨H b=some (.own a))->h.get? b=some u->h'.get? b=some u)
   (ho:∀b,H b=some (.own a)->H' b=some (.own a)) (ht:∀b xs,H b=some (.tup xs)->H' b=some (.tup xs)):ObjOk P w H' h' a o:=by
 induction o with
 | lst xs=>obtain⟨z,its,n,r,e⟩:=x;exact⟨z,its,n,r,k _ _ (.inl rfl) e⟩
 | tup xs=>obtain⟨z,its,r,ob,e,c⟩:=x;exact⟨z,its,r,ob,k _ _ (.inl rfl) e,c⟩
 | dK kvs=>obtain⟨z,y,vs,r,ob,es,ep,e,c⟩:=x;exact⟨z,y,vs,r,ob,es,ep,k _ _ (.inl rfl) e,c⟩
 | dT kvs =>
   obtain⟨z,y,xs,r,ob,es,ep,e,c⟩:=x
   exact⟨z,y,xs,Paired.mapP r fun p q z=>⟨z.1,ht _ _ z.2.1,z.2.2⟩,ob,es,ep,k _ _ (.inl rfl) e,c⟩
 | set S n=>obtain⟨ob,es,ep,t,e,c⟩:=x;exact⟨ob,es,ep,t,k _ _ (.inl rfl) e,c⟩
 | ins C dx fs =>
   obtain⟨d,z,ne,e,mA,⟨od,es,ep,e2,c⟩,r⟩:=x
   exact⟨ho _ d,z,ne,k _ _ (.inl rfl) e,mA,⟨od,es,ep,k _ _ (.inr d) e2,c⟩,r⟩
 | own y=>obtain⟨ob,e⟩:=x;exact⟨ob,k _ _ (.inl rfl) e⟩
 | xd fs=>obtain⟨mA,⟨od,es,ep,e,c⟩,r⟩:=x;exact⟨mA,⟨od,es,ep,k _ _ (.inl rfl) e,c⟩,r⟩
 | rng lo hi=>obtain⟨t,u,v,e⟩:=x;exact⟨t,u,v,k _ _ (.inl rfl) e⟩
 | frz ob u ih=>obtain⟨e,q⟩:=x;exact⟨k _ _ (.inl rfl) e,ih q⟩
 | tbl ps =>
   have e:h.get? a=some { cls:=.none,data:=.fields ps }:=x
   show h'.get? a=some { cls:=.none,data:=.fields ps }
   exact k a _ (.inl rfl) e
 | met f y =>
   have e:h.get? a=some (PySem.W.methodObj (.ref f) (.ref y)):=x
   show h'.get? a=some (PySem.W.methodObj (.ref f) (.ref y))
   exact k a _ (.inl rfl) e
 | ext φ=>obtain⟨p,⟨o,e⟩,st⟩:=x;exact⟨st _ _ p fun o q=>k _ _ (.inl rfl) q,⟨o,k _ _ (.inl rfl) e⟩,st⟩
theorem HOk.lt (x:HOk P w H h)(e:H a=some o):a < h.objs.size:=(x a o e).lt
theorem HOk.fresh (x:HOk P w H h)(e:h.objs.size<=a):H a=none:=by
 cases q:H a with
 | none=>rfl
 | some u=>exact absurd (We (x.lt q) e) (Wr _)
theorem HOk.kept (x:HOk P w H h)(k:∀b u,h.get? b=some u->h'.get? b=some u):HOk P w H h':=fun a o e =>
 (x a o e).stay (fun b u _ q=>k b u q) (fun _ q=>q) fun _ _ q=>q
theorem HOk.laid (x:HOk P w H h)(k:∀b u,h.get? b=some u->h'.get? b=some u)(hp:h.objs.size<=a)(new:ObjOk P w (upd H a o) h' a o):HOk P w (upd H a o) h':=fun b u e=>by
 have hn:=x.fresh hp
 by_cases hb:b=a
 · subst hb;rw[yX] at e;cases e;exact new
 · rw[yI hb] at e
   exact(x b u e).stay (fun c v _ q=>k c v q) (fun c q=>by rw[yI (xR q hn)];exact q) fun c xs q=>by rw[yI (xR q hn)];exact q
end
def Rd (H:Hp)(a:Addr)(u:HO):Prop:=H a=some u∨∃o,H a=some (.frz o u)
theorem Rd.ok {P:Program}{w:World}{H:Hp}{h:Heap}{a:Addr}{u:HO}(r:Rd H a u)(x:HOk P w H h):ObjOk P w H h a u:=by
 rcases r with r | ⟨o,r⟩
 · exact x a u r
 · obtain⟨_,q⟩:=x a _ r
   exact q
def Mut:Option HO->Prop
 | some (.lst _)=>True
 | some (.dK _)=>True
 | some (.dT _)=>True
 | some (.set _ _)=>True
 | some (.ins _ _ _)=>True
 | some (.ext _)=>True
 | _=>False
section
variable {P:Program} {w:World} {H:Hp} {h h':Heap} {x e:Addr} {o':HO}
theorem HOk.write (ok:HOk P w H h)(mu:Mut (H x))(he:e=x∨H e=some (.own x))(k:∀b u,b≠e->h.get? b=some u->h'.get? b=some u)(heo:∃u,h'.get? e=some u)
   (new:ObjOk P w (upd H x o') h' x o'):HOk P w (upd H x o') h':=fun b u q=>by
 have nown:∀c y,H c=some (.own y)->c≠x:=fun c y r z=>by subst z;rw[r] at mu;exact mu
 have ntup:∀c xs,H c=some (.tup xs)->c≠x:=fun c xs r z=>by subst z;rw[r] at mu;exact mu
 by_cases hb:b=x
 · subst hb;rw[yX] at q;cases q;exact new
 · rw[yI hb] at q
   by_cases hbe:b=e
   · have q':H b=some (.own x):=by
       rcases he with z | z
       · exact absurd (hbe.trans z) hb
       · rw[hbe];exact z
     rw[q] at q';cases q'
     obtain⟨v,hv⟩:=heo
     exact⟨v,by rw[hbe];exact hv⟩
   · refine(ok b u q).stay (fun c v hc r=>k c v ?_ r) (fun c r=>by rw[yI (nown c b r)];exact r) fun c xs r=>by rw[yI (ntup c xs r)];exact r
     rcases hc with rfl | hc
     · exact hbe
     · rintro rfl
       rcases he with z | z
       · exact nown c b hc z
       · rw[hc] at z;cases z;exact hb rfl
end
structure Un (fs ex:List Addr)(H H':Hp)(h h':Heap):Prop where
 keep:∀b o,h.get? b=some o->H b=none->b∉fs->b∉ex->h'.get? b=some o
 slot:∀b o,h.get? b=some o->H b=none->b∈fs->b∉ex->∃sl,h'.get? b=some { o with slots:=sl }
 free:∀b o,h.get? b=some o->H b=none->b∉ex->H' b=none
 there:∀b o,h.get? b=some o->b∉ex->∃o',h'.get? b=some o'
 tups:∀b xs,H b=some (.tup xs)->H' b=some (.tup xs)
 frzs:∀b o u,H b=some (.frz o u)->H' b=some (.frz o u)
 tbls:∀b ps,H b=some (.tbl ps)->∃more,H' b=some (.tbl (ps++more))
section
variable {fs ex:List Addr} {H H1 H2:Hp} {h h1 h2 h':Heap} {a x e:Addr} {o:HO}
theorem Un.any (u:Un fs ex H H1 h h1){b:Addr}{ob:Obj}(q:h.get? b=some ob)(n:H b=none)(hx:b∉ex):∃sl,h1.get? b=some { ob with slots:=sl }:=by
 by_cases hb:b∈fs
 · exact u.slot b ob q n hb hx
 · exact⟨ob.slots,u.keep b ob q n hb hx⟩
theorem Un.trans (a:Un fs ex H H1 h h1)(b:Un fs ex H1 H2 h1 h2):Un fs ex H H2 h h2 where
 keep:=fun c ob q n hc hx=>b.keep c ob (a.keep c ob q n hc hx) (a.free c ob q n hx) hc hx
 slot:=fun c ob q n hc hx=>by
   obtain⟨sl,e1⟩:=a.slot c ob q n hc hx
   obtain⟨sl',e2⟩:=b.slot c _ e1 (a.free c ob q n hx) hc hx
   exact⟨sl',e2⟩
 free:=fun c ob q n hx=>by
   obtain⟨o',e1⟩:=a.there c ob q hx
   exact b.free c o' e1 (a.free c ob q n hx) hx
 there:=fun c ob q hx=>by
   obtain⟨o',e1⟩:=a.there c ob q hx
   exact b.there c o' e1 hx
 tups:=fun c xs q=>b.tups c xs (a.tups c xs q)
 frzs:=fun c ob xs q=>b.frzs c ob xs (a.frzs c ob xs q)
 tbls:=fun c ps q=>by
   obtain⟨m1,e1⟩:=a.tbls c ps q
   obtain⟨m2,e2⟩:=b.tbls c _ e1
   exact⟨m1++m2,by rw[e2,Array.append_assoc]⟩
theorem Un.kept (k:∀b u,h.get? b=some u->h'.get? b=some u):Un fs ex H H h h' :=
 ⟨fun b ob q _ _ _=>k b ob q,fun b ob q _ _ _=>⟨ob.slots,k b ob q⟩,fun _ _ _ n _=>n,fun b ob q _=>⟨ob,k b ob q⟩,fun _ _ q=>q,fun _ _ _ q=>q,fun _ ps q=>⟨#[],by rw[q];simp⟩⟩
theorem Un.refl:Un fs ex H H h h:=Un.kept fun _ _ q=>q
theorem Un.laid (k:∀b u,h.get? b=some u->h'.get? b=some u)(hp:h.objs.size<=a)(hn:H a=none):Un fs ex H (upd H a o) h h' where
 keep:=fun b u q _ _ _=>k b u q
 slot:=fun b u q _ _ _=>⟨u.slots,k b u q⟩
 free:=fun b u q n _=>by rw[yI (Wm (We (Qs q) hp))];exact n
 there:=fun b u q _=>⟨u,k b u q⟩
 tups:=fun b xs q=>by rw[yI (xR q hn)];exact q
 frzs:=fun b u xs q=>by rw[yI (xR q hn)];exact q
 tbls:=fun b ps q=>⟨#[],by rw[yI (xR q hn),q];simp⟩
theorem Un.write (mu:Mut (H x))(he:e=x∨H e=some (.own x))(k:∀b u,b≠e->h.get? b=some u->h'.get? b=some u)(heo:∃u,h'.get? e=some u):Un fs ex H (upd H x o) h h':=by
 have hx:∀b,H b=none->b≠x:=fun b n z=>by subst z;rw[n] at mu;exact mu
 have hb:∀b,H b=none->b≠e:=fun b n z=>by
   subst z
   rcases he with r | r
   · exact hx b n r
   · rw[n] at r;cases r
 have hm:∀b u,H b=some u->¬Mut (some u)->b≠x:=fun b u q nm z=>by subst z;rw[q] at mu;exact nm mu
 refine⟨fun b u q n _ _=>k b u (hb b n) q,fun b u q n _ _=>⟨u.slots,k b u (hb b n) q⟩,fun b u q n _=>by rw[yI (hx b n)];exact n,fun b u q _=>?_,
   fun b xs q=>by rw[yI (hm b _ q fun z=>z)];exact q,fun b u xs q=>by rw[yI (hm b _ q fun z=>z)];exact q,fun b ps q=>⟨#[],by rw[yI (hm b _ q fun z=>z),q];simp⟩⟩
 by_cases hbe:b=e
 · subst hbe;exact heo
 · exact⟨u,k b u hbe q⟩
end
def trk (h:Heap)(H:Hp):List Addr:=(List.range h.objs.size).filter fun a=>(H a).isSome
def zUO (h:Heap)(H:Hp):Heap:=PySem.W.hideAll h (trk h H)
theorem zOT (h:Heap)(H:Hp):(zUO h H).objs.size=h.objs.size:=PySem.W.hideAll_size _ _
theorem zNI {h:Heap}{H:Hp}{b:Addr}{o:Obj}(e:h.get? b=some o)(n:H b=none):(zUO h H).get? b=some o :=
 PySem.W.hideAll_get _ e fun hm=>by
   have q:(H b).isSome=true:=(List.mem_filter.mp hm).2
   rw[n] at q;simp at q
theorem zLt {h:Heap}{H:Hp}{b:Addr}{o:Obj}(e:(zUO h H).get? b=some o):h.get? b=some o/\H b=none:=by
 have e':h.get? b=some o:=PySem.W.of_hideAll (trk h H) e
 refine⟨e',?_⟩
 cases q:H b with
 | none=>rfl
 | some x =>
   have hm:b∈trk h H:=List.mem_filter.mpr ⟨Rz.mpr (Qs e'),by simp[q]⟩
   have z:(zUO h H).get? b=none:=PySem.W.hideAll_none (trk h H) hm
   rw[z] at e;cases e
def zKP (g h:Heap)(L:Addr):List (Addr×Obj):=(List.range h.objs.size).filterMap fun a=>if a=L∨(g.get? a).isSome=true then none else(h.get? a).map fun o=>(a,o)
def rest (g h:Heap)(L d:Addr):List (Addr×Obj):=(zKP g h L).filter fun p=>decide (p.1≠d)
structure Mod (K:PySem.W.Frag)(mg:Str->Option Value)(base:Heap):Prop where
 kin:K.In base
 glob:base.Ns mainGlobals mg
 blt:∃mb,base.Ns builtinsNs mb/\∀x:Str,x≠"__name__"->mb x=bootBuiltins x
 nolimit:base.NoLimit
/-- the context: a def's body (or a comprehension's block) running. base: fixed through the whole law; s₀, H₀: the entry; outer: the frames whose slots others may change (a def's callers); stack: all frames that run;
  ex: iterators that were made ahead of the entry and are walked here (a comprehension's);fn: the names whose cells were made at the entry (a def: all;a comprehension's block: its own);calm: not within an except suite;pn: pins that every state bears;xe: what is wanted of an exception that leaves the code -/
structure Cx where
 prog:Program
 w:World
 K:PySem.W.Frag
 mg:Str->Option Value
 base:Heap
 A:Around
 N:List Str
 s₀:Shared
 H₀:Hp
 env:Env
 outer:List Env
 stack:List Env
 ex:List Addr
 fn:Str->Bool
 calm:Bool
 pn:List (Addr×Obj)
 xe:Value->Shared->Prop
def frs (l:List Env):List Addr:=l.filterMap (·.frame)
abbrev Cx.fs (X:Cx):List Addr:=frs X.outer
def Vis (sc:Scope)(x:Str):Prop:=sc.names.lookup x=some .local∨sc.names.lookup x=some .cell∨sc.names.lookup x=some .free
def Loc (sc:Scope)(x:Str):Prop:=sc.names.lookup x=some .local∨sc.names.lookup x=some .cell
def zGX (env:Env)(h:Heap)(m:Str->Option Value)(x:Str)(u:Value):Prop :=
 (env.kindOf x=some .local/\m x=some u)∨((env.kindOf x=some .cell∨env.kindOf x=some .free)/\∃c,env.cells.lookup x=some c/\h.IsCell c (some u))
structure Cx.Ok (X:Cx):Prop where
 mod:Mod X.K X.mg X.base
 kind:X.env.scope.kind = .function
 glob:X.env.globals=mainGlobals
 blt:X.env.builtins=builtinsNs
 above:X.s₀.heap.objs.size<=X.env.locals
 inj:∀x y c,X.env.cells.lookup x=some c->X.env.cells.lookup y=some c->x=y
 has:∀x,(X.env.kindOf x=some .cell∨X.env.kindOf x=some .free)->∃c,X.env.cells.lookup x=some c
 cab:∀x c,X.fn x=true->X.env.cells.lookup x=some c->X.s₀.heap.objs.size<=c
 hd:X.calm=true->X.A.handled=none
 frames:X.A.frames=some X.stack
 stk:X.stack=X.outer∨(X.stack=X.env::X.outer/\X.env.frame=some X.env.locals)
 exf:∀b∈X.ex,b≠X.env.locals/\∀x c,X.env.cells.lookup x=some c->c≠b
 bs:∀b o,X.base.get? b=some o->X.s₀.heap.get? b=some o/\X.H₀ b=none
 bsz:X.base.objs.size<=X.s₀.heap.objs.size
 noex:∀b o,X.base.get? b=some o->b∉X.ex
 exfs:∀b∈X.ex,b∉X.fs
 funs:X.s₀.heap.FunFrames X.base X.outer
 frf:∀b∈X.fs,X.H₀ b=none
structure Inv (X:Cx)(pins:List (Addr×Obj))(σ:List (Option V))(H:Hp)(s:Shared):Prop where
 ok:X.Ok
 os:s.os=X.s₀.os
 bare:AllBare s.gens
 base:Un X.fs X.ex X.H₀ H X.s₀.heap s.heap
 loc:∃m,s.heap.Ns X.env.locals m/\∀(i:Nat) (x:Str) (v:V),X.N[i]?=some x->σ[i]?=some (some v)->Vis X.env.scope x->∃u,RelV v u/\zGX X.env s.heap m x u
 cell:∀x c,X.env.cells.lookup x=some c->∃v,s.heap.IsCell c v
 free:H X.env.locals=none
 freeC:∀x c,X.env.cells.lookup x=some c->H c=none
 pin:∀p∈X.pn++pins,s.heap.get? p.1=some p.2/\H p.1=none/\p.1≠X.env.locals/\p.1∉X.fs/\∀v,p.2.data ≠ .cell v
 hok:HOk X.prog X.w H s.heap
 len:σ.length=X.N.length
section
variable {X:Cx} {pins:List (Addr×Obj)} {σ:List (Option V)} {H H':Hp} {s:Shared} {h':Heap}
theorem Cx.Ok.nofr (ok:X.Ok){b:Addr}{o:Obj}(e:X.base.get? b=some o):b∉X.fs:=fun hb=>by
 have:=(ok.funs.mem hb).1
 rw[e] at this;cases this
theorem Inv.bs (I:Inv X pins σ H s):∀b o,X.base.get? b=some o->s.heap.get? b=some o/\H b=none:=fun b o e =>
 ⟨I.base.keep b o (I.ok.bs b o e).1 (I.ok.bs b o e).2 (I.ok.nofr e) (I.ok.noex b o e),I.base.free b o (I.ok.bs b o e).1 (I.ok.bs b o e).2 (I.ok.noex b o e)⟩
theorem Inv.bk (I:Inv X pins σ H s):∀b o,X.base.get? b=some o->s.heap.get? b=some o:=fun b o e=>(I.bs b o e).1
theorem Inv.mod (I:Inv X pins σ H s):Mod X.K X.mg X.base:=I.ok.mod
theorem Inv.kIn (I:Inv X pins σ H s):X.K.In s.heap:=I.ok.mod.kin.keeps I.bk
theorem Inv.lt (I:Inv X pins σ H s):X.env.locals < s.heap.objs.size:=let ⟨_,hn,_⟩:=I.loc;hn.lt
theorem Inv.sz (I:Inv X pins σ H s):X.s₀.heap.objs.size<=s.heap.objs.size:=Ey I.ok.above (Wx I.lt)
theorem Inv.nofs (I:Inv X pins σ H s){a:Addr}(h:s.heap.objs.size<=a):a∉X.fs:=fun hb=>by
 obtain⟨_,o,ho,_⟩:=I.ok.funs.mem hb
 exact absurd (We (Qs ho) (Ey I.sz h)) (Wr _)
theorem Inv.cne (I:Inv X pins σ H s):∀x c,X.env.cells.lookup x=some c->c≠X.env.locals:=fun x c e z=>by
 obtain⟨v,o,ho,hd⟩:=I.cell x c e
 obtain⟨m,⟨o',es,ep,ho',hd',_⟩,_⟩:=I.loc
 rw[z,ho'] at ho;cases ho;rw[hd'] at hd;cases hd
theorem Inv.funs (I:Inv X pins σ H s):s.heap.FunFrames X.base X.outer:=by
 have all:∀(l:List Env),(∀b∈frs l,b∈X.fs)->X.s₀.heap.FunFrames X.base l->s.heap.FunFrames X.base l:=by
   intro l
   induction l with
   | nil=>intro _ _;trivial
   | cons env r ih =>
     intro hs hl
     obtain⟨hk,⟨L,o,hf,hn,ho,hd⟩,hr⟩:=hl
     have hL:L∈X.fs:=hs L (by unfold frs;rw[Ie,hf];exact Qh)
     obtain⟨sl,e⟩:=I.base.slot L o ho (I.ok.frf L hL) hL fun z=>I.ok.exfs L z hL
     exact⟨hk,⟨L,_,hf,hn,e,hd⟩,ih (fun b hb=>hs b (by unfold frs;rw[Ie,hf];exact Qd _ hb)) hr⟩
 exact all X.outer (fun _ hb=>hb) I.ok.funs
theorem Inv.stack (I:Inv X pins σ H s):s.heap.FunFrames X.base X.stack:=by
 rcases I.ok.stk with e | ⟨e,hf⟩
 · rw[e];exact I.funs
 · rw[e]
   obtain⟨m,hn,_⟩:=I.loc
   refine .cons (by rw[I.ok.kind];decide) hf hn ?_ I.funs
   exact Heap.get?_none_of_le (Ey I.ok.bsz I.ok.above)
theorem Inv.stkSub (I:Inv X pins σ H s):∀b∈frs X.stack,b∈X.env.locals::X.fs:=fun b hb=>by
 rcases I.ok.stk with e | ⟨e,hf⟩
 · rw[e] at hb;exact Qd _ hb
 · rw[e] at hb
   unfold frs at hb
   rw[Ie,hf] at hb
   exact hb
theorem Inv.stkFree (I:Inv X pins σ H s):∀b∈frs X.stack,H b=none:=fun b hb=>by
 rcases Qa.mp (I.stkSub b hb) with e | hb
 · rw[e];exact I.free
 · obtain⟨_,o,ho,_⟩:=I.ok.funs.mem hb
   exact I.base.free b o ho (I.ok.frf b hb) fun z=>I.ok.exfs b z hb
theorem Inv.step {g':Array GenState}{t':Nat}{d':Drawn}{ch:List Addr}(I:Inv X pins σ H s)
   (hch:∀b∈ch,(b∈X.ex∨X.s₀.heap.objs.size<=b)/\b≠X.env.locals/\(∀x c,X.env.cells.lookup x=some c->c≠b)/\∀p∈X.pn++pins,p.1≠b)
   (keep:∀b o,b≠X.env.locals->b∉X.fs->b∉ch->s.heap.get? b=some o->H b=none->h'.get? b=some o)
   (slot:∀b o,b≠X.env.locals->b∈X.fs->b∉ch->s.heap.get? b=some o->H b=none->∃sl,h'.get? b=some { o with slots:=sl }) (free:∀b o,b∉ch->s.heap.get? b=some o->H b=none->H' b=none)
   (there:∀b o,b∉ch->s.heap.get? b=some o->∃o',h'.get? b=some o')
   (tups:∀b xs,H b=some (.tup xs)->H' b=some (.tup xs)) (frzs:∀b o u,H b=some (.frz o u)->H' b=some (.frz o u)) (tbls:∀b ps,H b=some (.tbl ps)->∃more,H' b=some (.tbl (ps++more)))
   (ns:∀m,s.heap.Ns X.env.locals m->h'.Ns X.env.locals m) (hok:HOk X.prog X.w H' h') (hg:AllBare g') :
   Inv X pins σ H' { s with heap:=h',gens:=g',drawn:=d',toks:=t' }:=by
 have neL:∀b o,X.s₀.heap.get? b=some o->b≠X.env.locals:=fun b o e=>Wm (We (Qs e) I.ok.above)
 have neC:∀b o,X.s₀.heap.get? b=some o->b∉X.ex->b∉ch:=fun b o e hx hb=>by
   rcases(hch b hb).1 with z | z
   · exact hx z
   · exact absurd (We (Qs e) z) (Wr _)
 have cellK:∀x c,X.env.cells.lookup x=some c->∀v,s.heap.IsCell c v->h'.IsCell c v:=fun x c e v ⟨o,ho,hd⟩=>by
   have nch:c∉ch:=fun z=>(hch c z).2.2.1 x c e rfl
   by_cases hc:c∈X.fs
   · obtain⟨sl,q⟩:=slot c o (I.cne x c e) hc nch ho (I.freeC x c e)
     exact⟨_,q,hd⟩
   · exact⟨o,keep c o (I.cne x c e) hc nch ho (I.freeC x c e),hd⟩
 refine⟨I.ok,I.os,hg,⟨fun b o e n hb hx=>?_,fun b o e n hb hx=>?_,fun b o e n hx=>?_,fun b o e hx=>?_,fun b xs e=>tups b xs (I.base.tups b xs e),fun b o xs e=>frzs b o xs (I.base.frzs b o xs e),fun b ps e=>?_⟩,?_,fun x c e=>?_,?_,fun x c e=>?_,fun p hp=>?_,hok,I.len⟩
 · exact keep b o (neL b o e) hb (neC b o e hx) (I.base.keep b o e n hb hx) (I.base.free b o e n hx)
 · obtain⟨sl,e1⟩:=I.base.slot b o e n hb hx
   obtain⟨sl',e2⟩:=slot b _ (neL b o e) hb (neC b o e hx) e1 (I.base.free b o e n hx)
   exact⟨sl',e2⟩
 · obtain⟨o',e1⟩:=I.base.there b o e hx
   exact free b o' (neC b o e hx) e1 (I.base.free b o e n hx)
 · obtain⟨o',e1⟩:=I.base.there b o e hx
   exact there b o' (neC b o e hx) e1
 · obtain⟨m1,e1⟩:=I.base.tbls b ps e
   obtain⟨m2,e2⟩:=tbls b _ e1
   exact⟨m1++m2,by rw[e2,Array.append_assoc]⟩
 · obtain⟨m,hn,hl⟩:=I.loc
   refine⟨m,ns m hn,fun i x v e1 e2 e3=>?_⟩
   obtain⟨u,r,l⟩:=hl i x v e1 e2 e3
   refine⟨u,r,?_⟩
   rcases l with l | ⟨k,c,e,z⟩
   · exact .inl l
   · exact .inr ⟨k,c,e,cellK x c e _ z⟩
 · obtain⟨v,z⟩:=I.cell x c e
   exact⟨v,cellK x c e v z⟩
 · obtain⟨m,⟨o,_,_,ho,_⟩,_⟩:=I.loc
   exact free _ o (fun z=>(hch _ z).2.1 rfl) ho I.free
 · obtain⟨v,o,ho,hd⟩:=I.cell x c e
   exact free c o (fun z=>(hch c z).2.2.1 x c e rfl) ho (I.freeC x c e)
 · obtain⟨e,n,ne,nf,d⟩:=I.pin p hp
   have nch:p.1∉ch:=fun z=>(hch p.1 z).2.2.2 p hp rfl
   exact⟨keep p.1 p.2 ne nf nch e n,free p.1 p.2 nch e n,ne,nf,d⟩
theorem Inv.un {t':Nat}(I:Inv X pins σ H s)(u:Un X.fs [] H H' s.heap h')(hok:HOk X.prog X.w H' h'):Inv X pins σ H' { s with heap:=h',toks:=t' }:=by
 obtain⟨m,⟨o,es,ep,ho,r⟩,_⟩:=id I.loc
 obtain⟨sl,hL⟩:=u.any ho I.free (by simp)
 exact I.step (g':=s.gens) (d':=s.drawn) (ch:=[]) (fun _ z=>nomatch z) (fun b o _ hb _ e n=>u.keep b o e n hb (by simp)) (fun b o _ hb _ e n=>u.slot b o e n hb (by simp)) (fun b o _ e n=>u.free b o e n (by simp)) (fun b o _ e=>u.there b o e (by simp)) u.tups u.frzs u.tbls (fun m' hm=>by
   obtain⟨o',es',ep',ho',r'⟩:=hm
   rw[ho] at ho';cases ho'
   exact⟨_,es',ep',hL,r'⟩) hok I.bare
theorem Inv.call {g':Array GenState}{t':Nat}{d':Drawn}{ch:List Addr}(I:Inv X pins σ H s)(u:Un (frs X.stack) ch H H' s.heap h')(hok:HOk X.prog X.w H' h')(hg:AllBare g')
   (hch:∀b∈ch,(b∈X.ex∨X.s₀.heap.objs.size<=b)/\b≠X.env.locals/\(∀x c,X.env.cells.lookup x=some c->c≠b)/\∀p∈X.pn++pins,p.1≠b) :
   Inv X pins σ H' { s with heap:=h',gens:=g',drawn:=d',toks:=t' }:=by
 obtain⟨m,⟨o,es,ep,ho,r⟩,_⟩:=id I.loc
 obtain⟨sl,hL⟩:=u.any ho I.free fun z=>(hch _ z).2.1 rfl
 exact I.step (ch:=ch) hch (fun b o hL hb hc e n=>u.keep b o e n (fun z=>(Qa.mp (I.stkSub b z)).elim hL hb) hc) (fun b o _ _ hc e n=>u.any e n hc) (fun b o hc e n=>u.free b o e n hc) (fun b o hc e=>u.there b o e hc) u.tups u.frzs u.tbls (fun m' hm=>by
   obtain⟨o',es',ep',ho',r'⟩:=hm
   rw[ho] at ho';cases ho'
   exact⟨_,es',ep',hL,r'⟩) hok hg
theorem Inv.turned {t':Nat}{it:Addr}(I:Inv X pins σ H s)(k:∀b o,b≠it->s.heap.get? b=some o->h'.get? b=some o)(hn:H it=none)(hL:it≠X.env.locals)
   (h1:it∈X.ex∨X.s₀.heap.objs.size<=it) (h2:∀x c,X.env.cells.lookup x=some c->c≠it) (h3:∀p∈X.pn++pins,p.1≠it):Inv X pins σ H { s with heap:=h',toks:=t' }:=by
 have nit:∀b u,H b=some u->b≠it:=fun b u e z=>by rw[z,hn] at e;cases e
 refine I.step (g':=s.gens) (d':=s.drawn) (ch:=[it]) (fun b hb=>?_) (fun b o _ _ hc e _=>k b o (fun z=>hc (by simp[z])) e) (fun b o _ _ hc e _=>⟨o.slots,k b o (fun z=>hc (by simp[z])) e⟩) (fun _ _ _ _ n=>n)
   (fun b o hc e=>⟨o,k b o (fun z=>hc (by simp[z])) e⟩) (fun _ _ e=>e) (fun _ _ _ e=>e) (fun b ps e=>⟨#[],by rw[e];simp⟩) (fun m hm=>?_) (fun b u e=>?_) I.bare
 · have e:b=it:=by simpa using hb
   subst e
   exact⟨h1,hL,h2,h3⟩
 · obtain⟨o,es,ep,ho,r⟩:=hm
   exact⟨o,es,ep,k _ o (Ne.symm hL) ho,r⟩
 · refine(I.hok b u e).stay (fun c v hc q=>k c v ?_ q) (fun _ q=>q) fun _ _ q=>q
   rcases hc with z | z
   · rw[z];exact nit b u e
   · exact nit c _ z
theorem Inv.tok (I:Inv X pins σ H s)(t:Nat):Inv X pins σ H { s with toks:=t }:=I.un (h':=s.heap) (t':=t) Un.refl I.hok
theorem Inv.kept {t':Nat}(I:Inv X pins σ H s)(k:∀b u,s.heap.get? b=some u->h'.get? b=some u):Inv X pins σ H { s with heap:=h',toks:=t' }:=I.un (Un.kept k) (I.hok.kept k)
theorem Inv.laid {a:Addr}{o:HO}{t':Nat}(I:Inv X pins σ H s)(k:∀b u,s.heap.get? b=some u->h'.get? b=some u)(hp:s.heap.objs.size<=a)(new:ObjOk X.prog X.w (upd H a o) h' a o) :
   Inv X pins σ (upd H a o) { s with heap:=h',toks:=t' }:=I.un (Un.laid k hp (I.hok.fresh hp)) (I.hok.laid k hp new)
theorem Inv.write {x e:Addr}{o:HO}{t':Nat}(I:Inv X pins σ H s)(mu:Mut (H x))(he:e=x∨H e=some (.own x))(k:∀b u,b≠e->s.heap.get? b=some u->h'.get? b=some u)(heo:∃u,h'.get? e=some u)
   (new:ObjOk X.prog X.w (upd H x o) h' x o):Inv X pins σ (upd H x o) { s with heap:=h',toks:=t' }:=I.un (Un.write mu he k heo) (I.hok.write mu he k heo new)
theorem Inv.pins_of {pins':List (Addr×Obj)}(I:Inv X pins σ H s)(h:∀p∈pins',s.heap.get? p.1=some p.2/\H p.1=none/\p.1≠X.env.locals/\p.1∉X.fs/\∀v,p.2.data ≠ .cell v):Inv X pins' σ H s :=
 ⟨I.ok,I.os,I.bare,I.base,I.loc,I.cell,I.free,I.freeC,fun p hp=>(Ee.mp hp).elim (fun z=>I.pin p (Uc _ z)) (h p),I.hok,I.len⟩
theorem zUu {N:List Str}(hN:N.Nodup){i j:Nat}{x:Str}(a:N[i]?=some x)(b:N[j]?=some x):i=j:=by
 obtain⟨h1,e1⟩:=Qm.mp a
 obtain⟨h2,e2⟩:=Qm.mp b
 exact(List.getElem_inj hN).mp (e1.trans e2.symm)
theorem zW1 {M:Model}{A:Around}{E:Value->Shared->Prop}{i:Nat}{x:Str}{v:V}{u:Value}{Q:Unit->Shared->Prop}(I:Inv X pins σ H s)(hN:X.N.Nodup)(hi:X.N[i]?=some x)(hx:Loc X.env.scope x)(r:RelV v u)
   (h:∀s',Inv X pins (σ.set i (some v)) H s'->(∃a,Heap.SameBut a s.heap s'.heap/\(a=X.env.locals∨X.env.cells.lookup x=some a))->Q () s') (hf:X.fn x=true∨X.env.scope.names.lookup x=some .local:=by first | exact .inl rfl | exact .inr rfl | assumption):wpAny M A (storeName X.env x u) Q E s:=by
 obtain⟨m,hn,hl⟩:=id I.loc
 have hcls:(X.env.scope.kind == .class||(X.env.scope.kind == .module&&X.env.locals != X.env.globals))=false:=by rw[I.ok.kind];rfl
 have hiσ:i < σ.length:=by rw[I.len];exact(Qm.mp hi).1
 have cne:=I.cne
 have tracked:∀ {a:Addr} {h':Heap},(∃o,s.heap.get? a=some o/\H a=none)->Heap.SameBut a s.heap h'->HOk X.prog X.w H h':=fun {a h'} ha hs b ob e=>by
   obtain⟨_,_,hfree⟩:=ha
   refine(I.hok b ob e).stay (fun c w' hc q=>(hs.2 c ?_).trans q) (fun _ q=>q) fun _ _ q=>q
   rintro rfl
   rcases hc with rfl | hc
   · rw[hfree] at e;cases e
   · rw[hfree] at hc;cases hc
 rcases hx with hk | hk
 · refine wpAny_storeName_local hk hn (fun h' hn' hs=>?_) hcls
   obtain⟨oL,_,_,hoL,_⟩:=id hn
   refine h _ ⟨I.ok,I.os,I.bare,⟨fun b o e n hb hx=>?_,fun b o e n hb hx=>?_,I.base.free,fun b o e hx=>?_,I.base.tups,I.base.frzs,I.base.tbls⟩,⟨_,hn',fun j y v' e1 e2 e3=>?_⟩,fun y c e=>?_,I.free,I.freeC,fun p hp=>?_,tracked ⟨oL,hoL,I.free⟩ hs,by simpa using I.len⟩ ⟨_,hs,.inl rfl⟩
   · exact(hs.2 b (Wm (We (Qs e) I.ok.above))).trans (I.base.keep b o e n hb hx)
   · obtain⟨sl,e1⟩:=I.base.slot b o e n hb hx
     exact⟨sl,(hs.2 b (Wm (We (Qs e) I.ok.above))).trans e1⟩
   · obtain⟨o',e1⟩:=I.base.there b o e hx
     exact⟨o',(hs.2 b (Wm (We (Qs e) I.ok.above))).trans e1⟩
   · by_cases hj:j=i
     · subst hj
       rw[hi] at e1;cases e1
       rw[Tc hiσ] at e2
       cases e2
       exact⟨u,r,.inl ⟨hk,by simp⟩⟩
     · rw[Wb (Ne.symm hj)] at e2
       obtain⟨u',r',q⟩:=hl j y v' e1 e2 e3
       refine⟨u',r',?_⟩
       rcases q with⟨k,e⟩ | ⟨k,c,e,z⟩
       · refine .inl ⟨k,?_⟩
         have:y≠x:=fun e=>hj (zUu hN e1 (e ▸ hi))
         simp[this,e]
       · exact .inr ⟨k,c,e,z.sameBut hs (cne y c e)⟩
   · obtain⟨w',z⟩:=I.cell y c e
     exact⟨w',z.sameBut hs (cne y c e)⟩
   · obtain⟨e,n,ne,nf,d⟩:=I.pin p hp
     exact⟨(hs.2 p.1 ne).trans e,n,ne,nf,d⟩
 · have hfn:X.fn x=true:=by
     rcases hf with z | z
     · exact z
     · rw[z] at hk;cases hk
   obtain⟨c,hc⟩:=I.ok.has x (.inl hk)
   obtain⟨w',z⟩:=I.cell x c hc
   refine wpAny_storeName_cell I.ok.kind hk hc z (fun h' hc' hs=>?_)
   obtain⟨oc,hoc,hocd⟩:=id z
   refine h { s with heap:=h' } ⟨I.ok,I.os,I.bare,⟨fun b o e n hb hx=>?_,fun b o e n hb hx=>?_,I.base.free,fun b o e hx=>?_,I.base.tups,I.base.frzs,I.base.tbls⟩,⟨m,hn.sameBut hs (Ne.symm (cne x c hc)),fun j y v' e1 e2 e3=>?_⟩,fun y c' e=>?_,I.free,I.freeC,fun p hp=>?_,tracked ⟨oc,hoc,I.freeC x c hc⟩ hs,by simpa using I.len⟩ ⟨c,hs,.inr hc⟩
   · exact(hs.2 b (Wm (We (Qs e) (I.ok.cab x c hfn hc)))).trans (I.base.keep b o e n hb hx)
   · obtain⟨sl,e1⟩:=I.base.slot b o e n hb hx
     exact⟨sl,(hs.2 b (Wm (We (Qs e) (I.ok.cab x c hfn hc)))).trans e1⟩
   · obtain⟨o',e1⟩:=I.base.there b o e hx
     exact⟨o',(hs.2 b (Wm (We (Qs e) (I.ok.cab x c hfn hc)))).trans e1⟩
   · by_cases hj:j=i
     · subst hj
       rw[hi] at e1;cases e1
       rw[Tc hiσ] at e2
       cases e2
       exact⟨u,r,.inr ⟨.inl hk,c,hc,hc'⟩⟩
     · rw[Wb (Ne.symm hj)] at e2
       obtain⟨u',r',q⟩:=hl j y v' e1 e2 e3
       refine⟨u',r',?_⟩
       rcases q with q | ⟨k,c',e,z'⟩
       · exact .inl q
       · refine .inr ⟨k,c',e,z'.sameBut hs ?_⟩
         rintro rfl
         exact hj (zUu hN e1 (I.ok.inj _ _ _ e hc ▸ hi))
   · by_cases hcc:c'=c
     · subst hcc;exact⟨_,hc'⟩
     · obtain⟨w2,z2⟩:=I.cell y c' e
       exact⟨w2,z2.sameBut hs hcc⟩
   · obtain⟨e,n,ne,nf,d⟩:=I.pin p hp
     refine⟨(hs.2 p.1 ?_).trans e,n,ne,nf,d⟩
     intro q
     rw[q,hoc] at e
     have q':oc=p.2:=Ep e
     exact d w' (by rw[←q'];exact hocd)
theorem zTn {M:Model}{A:Around}{E:Value->Shared->Prop}{i:Nat}{x:Str}{v:V}{u:Value}{Q:Unit->Shared->Prop}(I:Inv X pins σ H s)(hN:X.N.Nodup)(hi:X.N[i]?=some x)(hx:Loc X.env.scope x)(r:RelV v u)
   (h:∀s',Inv X pins (σ.set i (some v)) H s'->Q () s') (hf:X.fn x=true∨X.env.scope.names.lookup x=some .local:=by first | exact .inl rfl | exact .inr rfl | assumption):wpAny M A (storeName X.env x u) Q E s :=
 zW1 I hN hi hx r (fun s' I' _=>h s' I') hf
theorem Inv.call' {s':Shared}{ch:List Addr}(I:Inv X pins σ H s)(ho:s'.os=s.os)(u:Un (frs X.stack) ch H H' s.heap s'.heap)(hok:HOk X.prog X.w H' s'.heap)(hg:AllBare s'.gens)
   (hch:∀b∈ch,(b∈X.ex∨X.s₀.heap.objs.size<=b)/\b≠X.env.locals/\(∀x c,X.env.cells.lookup x=some c->c≠b)/\∀p∈X.pn++pins,p.1≠b):Inv X pins σ H' s':=by
 obtain⟨h',g',d',t',o'⟩:=s'
 have e:o'=s.os:=ho
 subst e
 exact I.call (g':=g') (t':=t') (d':=d') u hok hg hch
end
abbrev XK:=Value->Option Addr->Hp->Prop
abbrev St:=List (Option V)
abbrev VK:=V->Hp->Prop
abbrev TE:=St->Hp->VK->Prop
abbrev TT:=St->Hp->(Bool->Hp->Prop)->Prop
abbrev TA:=St->Hp->(List V->Hp->Prop)->Prop
structure Ends where
 nx:St->Hp->Prop
 rt:VK
 bk:St->Hp->Prop:=fun _ _=>False
 ct:St->Hp->Prop:=fun _ _=>False
abbrev TS:=Ends->St->Hp->Prop
def EP (X:Cx)(pins:List (Addr×Obj))(σ:St)(Q:VK)(u:Value)(s':Shared):Prop:=∃v H',Inv X pins σ H' s'/\RelV v u/\Q v H'
def TP (X:Cx)(pins:List (Addr×Obj))(σ:St)(Q:Bool->Hp->Prop)(b:Bool)(s':Shared):Prop:=∃H',Inv X pins σ H' s'/\Q b H'
def AP (X:Cx)(pins:List (Addr×Obj))(σ:St)(Q:List V->Hp->Prop)(us:List Value)(s':Shared):Prop:=∃vs H',Inv X pins σ H' s'/\Vals vs us/\Q vs H'
def SP (X:Cx)(pins:List (Addr×Obj))(D:Ends)(f:Flow)(s':Shared):Prop :=
 match f with
 | .next=>∃σ' H',Inv X pins σ' H' s'/\D.nx σ' H'
 | .brk=>∃σ' H',Inv X pins σ' H' s'/\D.bk σ' H'
 | .cont=>∃σ' H',Inv X pins σ' H' s'/\D.ct σ' H'
 | .ret u=>∃v σ' H',Inv X pins σ' H' s'/\RelV v u/\D.rt v H'
def PE (X:Cx)(e:Expr)(t:TE):Prop :=
 ∀(pins:List (Addr×Obj)) (s:Shared) (σ:St) (H:Hp) (Q:VK),Inv X pins σ H s->t σ H Q->wpAny (model X.prog X.w) X.A (eval e X.env) (EP X pins σ Q) X.xe s
def PT (X:Cx)(e:Expr)(t:TT):Prop :=
 ∀(pins:List (Addr×Obj)) (s:Shared) (σ:St) (H:Hp) (Q:Bool->Hp->Prop),Inv X pins σ H s->t σ H Q->wpAny (model X.prog X.w) X.A (isTrue e X.env (eval e X.env)) (TP X pins σ Q) X.xe s
def PW (X:Cx)(e:Expr)(t:TT):Prop :=
 ∀(whole:Sem Value) (pins:List (Addr×Obj)) (s:Shared) (σ:St) (H:Hp) (Q:Bool->Hp->Prop),Inv X pins σ H s->t σ H Q->wpAny (model X.prog X.w) X.A (isTrue e X.env whole) (TP X pins σ Q) X.xe s
theorem PW.pt {X:Cx}{e:Expr}{t:TT}(h:PW X e t):PT X e t:=h _
def PA (X:Cx)(es:List Expr)(t:TA):Prop :=
 ∀(pos:Pos) (pins:List (Addr×Obj)) (s:Shared) (σ:St) (H:Hp) (Q:List V->Hp->Prop),Inv X pins σ H s->t σ H Q->wpAny (model X.prog X.w) X.A (spliced (backTo pos (starEach es X.env))) (AP X pins σ Q) X.xe s
def PS (X:Cx)(st:Stmt)(t:TS):Prop :=
 ∀(pins:List (Addr×Obj)) (s:Shared) (σ:St) (H:Hp) (D:Ends),Inv X pins σ H s->t D σ H->wpAny (model X.prog X.w) X.A (exec st X.env) (SP X pins D) X.xe s
def PSs (X:Cx)(st:List Stmt)(t:TS):Prop :=
 ∀(pins:List (Addr×Obj)) (s:Shared) (σ:St) (H:Hp) (D:Ends),Inv X pins σ H s->t D σ H->wpAny (model X.prog X.w) X.A (execs st X.env) (SP X pins D) X.xe s
theorem thn {α:Type}{t:Sem α}{Q Q':α->Shared->Prop}{M:Model}{A:Around}{E:Value->Shared->Prop}{s:Shared}(h:wpAny M A t Q E s)(hQ:∀a s,Q a s->Q' a s):wpAny M A t Q' E s:=Ih h hQ fun _ _ x=>x
section
variable {X:Cx}
def zLC (i:Nat):TE:=fun σ H Q=>∃v,σ[i]?=some (some v)/\Q v H
def tC (v:V):TE:=fun _ H Q=>Q v H
theorem lL {i:Nat}{x:Str}{pos:Pos}(hN:X.N[i]?=some x)(hv:Vis X.env.scope x)(hd:(x==("__debug__":Str))=false:=by decide)(hcd:(x==("__classdict__":Str))=false:=by decide):PE X (.Name x pos) (zLC i):=by
 intro pins s σ H Q I h
 obtain⟨v,e,h⟩:=h
 obtain⟨m,hn,hl⟩:=I.loc
 obtain⟨u,r,l⟩:=hl i x v hN e hv
 have fin:EP X pins σ Q u s:=⟨v,H,I,r,h⟩
 rcases l with⟨hk,hm⟩ | ⟨hk,c,hc,hcell⟩
 · exact wpAny_Name (wpAny_loadName_local I.ok.kind hk hn hm fin) hd
 · rcases hk with hk | hk
   · exact wpAny_Name (wpAny_loadName_cell I.ok.kind hk hc hcell fin) hd
   · exact wpAny_Name (wpAny_loadName_free I.ok.kind hk hc hcell fin hcd) hd
theorem zJU {i j pos}:PE X (.Constant (.int i) j pos) (tC (.int i)):=fun _ _ _ H _ I h=>wpAny_Constant_int ⟨.int i,H,I.tok _,⟨_,rfl⟩,h⟩
theorem zIg {b j pos}:PE X (.Constant (.bool b) j pos) (tC (.bl b)):=fun _ _ _ H _ I h=>Constant_bool ⟨.bl b,H,I,rfl,h⟩
theorem zOC {j pos}:PE X (.Constant .none j pos) (tC .non):=fun _ _ _ H _ I h=>Constant_none ⟨.non,H,I,rfl,h⟩
theorem zJ3 {x j pos}:PE X (.Constant (.str x) j pos) (tC (.str x)):=fun _ _ _ H _ I h=>Calls.Constant_str ⟨.str x,H,I.tok _,⟨_,rfl⟩,h⟩
def Gl (X:Cx)(x:Str):Prop:=X.env.kindOf x=some .globalImplicit
theorem zVq {E:Value->Shared->Prop}{pins:List (Addr×Obj)}{s:Shared}{σ:St}{H:Hp}{x:Str}{u:Value}{pos:Pos}{Q:Value->Shared->Prop}(I:Inv X pins σ H s)(hg:Gl X x)(hm:X.mg x=some u)(h:Q u s)
   (hd:(x==("__debug__":Str))=false:=by decide):wpAny (model X.prog X.w) X.A (eval (.Name x pos) X.env) Q E s :=
 Od I.ok.kind hg (Calls.loadGlobal_global (by rw[I.ok.glob];exact I.mod.glob.keeps I.bk) hm h) hd
theorem qD {E:Value->Shared->Prop}{pins:List (Addr×Obj)}{s:Shared}{σ:St}{H:Hp}{x:Str}{u:Value}{pos:Pos}{Q:Value->Shared->Prop}(I:Inv X pins σ H s)(hg:Gl X x)(hm:X.mg x=none)(hv:bootBuiltins x=some u)(h:Q u s)
   (hn:x≠"__name__":=by decide) (hd:(x==("__debug__":Str))=false:=by decide):wpAny (model X.prog X.w) X.A (eval (.Name x pos) X.env) Q E s:=by
 obtain⟨mb,h1,h2⟩:=I.mod.blt
 exact Od I.ok.kind hg (Calls.loadGlobal_builtin (by rw[I.ok.glob];exact I.mod.glob.keeps I.bk) hm (by rw[I.ok.blt];exact h1.keeps I.bk) ((h2 x hn).trans hv) h) hd
theorem kF {x:Str}{v:V}{u:Value}{pos:Pos}(hg:Gl X x)(hm:X.mg x=some u)(r:RelV v u)(hd:(x==("__debug__":Str))=false:=by decide):PE X (.Name x pos) (tC v) :=
 fun _ _ _ H _ I h=>zVq I hg hm ⟨v,H,I,r,h⟩ hd
theorem zLr {x:Str}{v:V}{u:Value}{pos:Pos}(hg:Gl X x)(hm:X.mg x=none)(hv:bootBuiltins x=some u)(r:RelV v u)(hn:x≠"__name__":=by decide)(hd:(x==("__debug__":Str))=false:=by decide):PE X (.Name x pos) (tC v) :=
 fun _ _ _ H _ I h=>qD I hg hm hv ⟨v,H,I,r,h⟩ hn hd
variable {a b:Expr} {ta tb:TE} {pos:Pos}
def tB (t:TE):TT:=fun σ H Q=>t σ H fun x H1=>∃c,x = .bl c/\Q c H1
theorem zIT {e:Expr}{t:TE}(h:PE X e t)(he:∀whole,isTrue e X.env whole=(do let v ←whole;standAt e.pos;holding [v] (truthy v)):=by intro _;rfl):PT X e (tB t):=by
 intro pins s σ H Q I hw
 refine isTrue_plain (thn (h pins s σ H _ I hw) fun v s1 ⟨x,H1,I1,r1,q1⟩=>?_) (he _)
 obtain⟨d,rfl,q⟩:=q1
 cases r1
 exact Ti ⟨H1,I1,q⟩
variable {tA tB':TT} {rest:List Expr}
def zHn (t u:TT):TT:=fun σ H Q=>t σ H fun c H1=>if c=true then u σ H1 Q else Q false H1
def tOr (t u:TT):TT:=fun σ H Q=>t σ H fun c H1=>if c=true then Q true H1 else u σ H1 Q
def zHa (t:TT):TT:=fun σ H Q=>t σ H fun c H1=>Q (!c) H1
theorem zMo (ha:PT X a tA):PW X (.BoolOp .And [a] pos) tA:=by
 intro wh pins s σ H Q I h
 refine isTrue_and (thn (ha pins s σ H Q I h) fun c s1 e=>?_)
 cases c with
 | true=>exact isTrue_and_nil e
 | false=>exact e
theorem zKi (ha:PT X a tA):PW X (.BoolOp .Or [a] pos) tA:=by
 intro wh pins s σ H Q I h
 refine isTrue_or (thn (ha pins s σ H Q I h) fun c s1 e=>?_)
 cases c with
 | false=>exact isTrue_or_nil e
 | true=>exact e
theorem zJp (ha:PT X a tA)(hb:PW X (.BoolOp .And (b::rest) pos) tB'):PW X (.BoolOp .And (a::b::rest) pos) (zHn tA tB'):=by
 intro wh pins s σ H Q I h
 refine isTrue_and (thn (ha pins s σ H _ I h) fun c s1 ⟨H1,I1,q1⟩=>?_)
 cases c with
 | true=>exact hb wh pins s1 σ H1 Q I1 q1
 | false=>exact⟨H1,I1,q1⟩
theorem zIm (ha:PT X a tA)(hb:PW X (.BoolOp .Or (b::rest) pos) tB'):PW X (.BoolOp .Or (a::b::rest) pos) (tOr tA tB'):=by
 intro wh pins s σ H Q I h
 refine isTrue_or (thn (ha pins s σ H _ I h) fun c s1 ⟨H1,I1,q1⟩=>?_)
 cases c with
 | true=>exact⟨H1,I1,q1⟩
 | false=>exact hb wh pins s1 σ H1 Q I1 q1
theorem zJy (ha:PT X a tA):PT X (.UnaryOp .Not a pos) (zHa tA):=by
 intro pins s σ H Q I h
 exact isTrue_not (ha pins s σ H (fun c H1=>Q (!c) H1) I h)
def zHV (ta tb:TE):TE:=fun σ H Q=>ta σ H fun x H1=>∃c,x = .bl c/\if c=true then tb σ H1 Q else Q (.bl false) H1
def zH8 (ta:TE):TE:=fun σ H Q=>ta σ H fun x H1=>∃c,x = .bl c/\Q (.bl (!c)) H1
theorem zJN {op}{t:TE}(h:PE X a t):PE X (.BoolOp op [a] pos) t:=fun pins s σ H Q I hw=>BoolOp_one (h pins s σ H Q I hw)
theorem zJ5 (ha:PE X a ta)(hb:PE X (.BoolOp .And (b::rest) pos) tb):PE X (.BoolOp .And (a::b::rest) pos) (zHV ta tb):=by
 intro pins s σ H Q I h
 refine BoolOp_and (thn (ha pins s σ H _ I h) fun v s1 ⟨x,H1,I1,r1,q1⟩=>?_)
 obtain⟨c,rfl,q1⟩:=q1
 cases r1
 refine Ti ?_
 cases c with
 | true=>exact hb pins s1 σ H1 Q I1 q1
 | false=>exact⟨.bl false,H1,I1,rfl,q1⟩
theorem zJ0 (ha:PE X a ta):PE X (.UnaryOp .Not a pos) (zH8 ta):=by
 intro pins s σ H Q I h
 refine UnaryOp_ (thn (ha pins s σ H _ I h) fun v s1 ⟨x,H1,I1,r1,q1⟩=>?_)
 obtain⟨c,rfl,q1⟩:=q1
 cases r1
 exact not_of (Ti ⟨.bl (!c),H1,I1,rfl,q1⟩)
def tIf (t:TT)(ta tb:TE):TE:=fun σ H Q=>t σ H fun c H1=>if c=true then ta σ H1 Q else tb σ H1 Q
theorem zO2 {c:Expr}(hc:PT X c tA)(ha:PE X a ta)(hb:PE X b tb):PE X (.IfExp c a b pos) (tIf tA ta tb):=by
 intro pins s σ H Q I h
 refine wpAny_IfExp (thn (hc pins s σ H _ I h) fun d s1 ⟨H1,I1,q1⟩=>?_)
 cases d with
 | true=>exact ha pins s1 σ H1 Q I1 q1
 | false=>exact hb pins s1 σ H1 Q I1 q1
end
def SqL (K:PySem.W.Frag)(H:Hp)(a:Addr)(xs:List V):Prop :=
 Rd H a (.lst xs) ∨
   ∃(o:Obj) (its:Array Value) (n:Nat),K.lookup a=some o/\o.cls = .type "list"/\o.dict=none/\o.data = .seq its n/\its.size<=sizeLine/\Vals xs its.toList
def SqT (K:PySem.W.Frag)(H:Hp)(a:Addr)(xs:List V):Prop :=
 Rd H a (.tup xs) ∨
   ∃(o:Obj) (its:Array Value) (n:Nat),K.lookup a=some o/\o.cls = .type "tuple"/\o.data = .seq its n/\its.size<=sizeLine/\Vals xs its.toList
def zHo:Value->Option V
 | .none=>some .non
 | .bool b=>some (.bl b)
 | .int i _=>some (.int i)
 | .str x _=>some (.str x)
 | .bytes b _=>some (.byt b)
 | .float b _=>some (.flt b)
 | .ref a=>some (.ref a)
 | .type n=>some (.ty n)
 | _=>none
theorem RelV.abs {x:V}{u:Value}(r:RelV x u):zHo u=some x:=by
 cases x with
 | non=>cases r;rfl
 | bl _=>cases r;rfl
 | int _=>obtain⟨t,rfl⟩:=r;rfl
 | str _=>obtain⟨t,rfl⟩:=r;rfl
 | byt _=>obtain⟨t,rfl⟩:=r;rfl
 | flt _=>obtain⟨t,rfl⟩:=r;rfl
 | ref _=>cases r;rfl
 | ty _=>cases r;rfl
theorem RelV.inj {x y:V}{u:Value}(r:RelV x u)(q:RelV y u):x=y:=Ep (r.abs.symm.trans q.abs)
theorem Vals.inj:∀ {xs ys:List V} {us:List Value},Vals xs us->Vals ys us->xs=ys
 | _,_,_,.nil,.nil=>rfl
 | _,_,_,.cons r t,.cons r' t'=>by rw[r.inj r',Vals.inj t t']
section
variable {X:Cx} {pins:List (Addr×Obj)} {σ:St} {H:Hp} {s:Shared} {a:Addr} {xs ys:List V}
theorem SqL.of {K:PySem.W.Frag}(h:H a=some (.lst xs)):SqL K H a xs:=.inl (.inl h)
theorem SqT.of {K:PySem.W.Frag}(h:H a=some (.tup xs)):SqT K H a xs:=.inl (.inl h)
theorem Inv.list (I:Inv X pins σ H s)(h:SqL X.K H a xs):∃its:List Value,Vals xs its/\PlainL s.heap a its.toArray/\xs.length<=sizeLine:=by
 rcases h with h | ⟨o,its,n,hk,hc,hd,hs,hz,r⟩
 · obtain⟨z,its,n,r,e⟩:=h.ok I.hok
   exact⟨its,r,⟨_,n,e,rfl,rfl,rfl⟩,z⟩
 · refine⟨its.toList,r,⟨o,n,I.kIn a o hk,hc,hd,by simpa using hs⟩,?_⟩
   have e:=r.length
   simp only[Ex] at e
   omega
theorem Inv.tuple (I:Inv X pins σ H s)(h:SqT X.K H a xs):∃its:List Value,Vals xs its/\IsTup s.heap a its.toArray/\xs.length<=sizeLine:=by
 rcases h with h | ⟨o,its,n,hk,hc,hs,hz,r⟩
 · obtain⟨z,its,r,p⟩:=h.ok I.hok
   exact⟨its,r,p,z⟩
 · refine⟨its.toList,r,⟨o,I.kIn a o hk,hc,n,by simpa using hs⟩,?_⟩
   have e:=r.length
   simp only[Ex] at e
   omega
theorem Inv.list_inj (I:Inv X pins σ H s)(h:SqL X.K H a xs)(h':SqL X.K H a ys):xs=ys:=by
 obtain⟨its,r,⟨o,n,e,_,_,d⟩,_⟩:=I.list h
 obtain⟨its',r',⟨o',n',e',_,_,d'⟩,_⟩:=I.list h'
 rw[e] at e';cases e'
 rw[d] at d'
 injection d' with d1 _
 have:its=its':=by simpa using Ea Array.toList d1
 subst this
 exact r.inj r'
theorem Inv.tuple_inj (I:Inv X pins σ H s)(h:SqT X.K H a xs)(h':SqT X.K H a ys):xs=ys:=by
 obtain⟨its,r,⟨o,e,_,n,d⟩,_⟩:=I.tuple h
 obtain⟨its',r',⟨o',e',_,n',d'⟩,_⟩:=I.tuple h'
 rw[e] at e';cases e'
 rw[d] at d'
 injection d' with d1 _
 have:its=its':=by simpa using Ea Array.toList d1
 subst this
 exact r.inj r'
end
abbrev Cx.wish (X:Cx)(E:Value->Shared->Prop):Cx:={ X with xe:=E }
abbrev Cx.nox (X:Cx):Cx:=X.wish fun _ _=>False
theorem Cx.Ok.wish {X:Cx}(ok:X.Ok)(E:Value->Shared->Prop):(X.wish E).Ok :=
 ⟨ok.mod,ok.kind,ok.glob,ok.blt,ok.above,ok.inj,ok.has,ok.cab,ok.hd,ok.frames,ok.stk,ok.exf,ok.bs,ok.bsz,ok.noex,ok.exfs,ok.funs,ok.frf⟩
theorem Cx.Ok.unwish {X:Cx}{E:Value->Shared->Prop}(ok:(X.wish E).Ok):X.Ok :=
 ⟨ok.mod,ok.kind,ok.glob,ok.blt,ok.above,ok.inj,ok.has,ok.cab,ok.hd,ok.frames,ok.stk,ok.exf,ok.bs,ok.bsz,ok.noex,ok.exfs,ok.funs,ok.frf⟩
section
variable {X:Cx} {pins:List (Addr×Obj)} {σ:St} {H:Hp} {s:Shared} {E:Value->Shared->Prop}
theorem Inv.wish (I:Inv X pins σ H s)(E:Value->Shared->Prop):Inv (X.wish E) pins σ H s:=⟨I.ok.wish E,I.os,I.bare,I.base,I.loc,I.cell,I.free,I.freeC,I.pin,I.hok,I.len⟩
theorem Inv.unwish (I:Inv (X.wish E) pins σ H s):Inv X pins σ H s:=⟨I.ok.unwish,I.os,I.bare,I.base,I.loc,I.cell,I.free,I.freeC,I.pin,I.hok,I.len⟩
theorem SP.unwish {D:Ends}{f:Flow}{s':Shared}(h:SP (X.wish E) pins D f s'):SP X pins D f s':=by
 cases f with
 | next=>obtain⟨σ',H',I,q⟩:=h;exact⟨σ',H',I.unwish,q⟩
 | brk=>obtain⟨σ',H',I,q⟩:=h;exact⟨σ',H',I.unwish,q⟩
 | cont=>obtain⟨σ',H',I,q⟩:=h;exact⟨σ',H',I.unwish,q⟩
 | ret u=>obtain⟨v,σ',H',I,r,q⟩:=h;exact⟨v,σ',H',I.unwish,r,q⟩
theorem PSs.nox {st:List Stmt}{t:TS}(h:PSs X.nox st t):PSs X st t:=fun pins s σ H D I hw =>
 Ih (h pins s σ H D (I.wish _) hw) (fun _ _ q=>q.unwish) fun _ _ z=>False.elim z
variable {st:Stmt} {rest:List Stmt} {t u:TS} {e:Expr} {te:TE} {pos:Pos}
def zHI:TS:=fun D σ H=>D.nx σ H
def zHj (t u:TS):TS:=fun D σ H=>t { D with nx:=u D } σ H
theorem zRl:PSs X [] zHI:=fun _ _ σ H _ I h=>Up ⟨σ,H,I,h⟩
theorem zTl (h1:PS X st t)(h2:PSs X rest u):PSs X (st::rest) (zHj t u):=by
 intro pins s σ H D I h
 refine wpAny_execs_cons (thn (h1 pins s σ H { D with nx:=u D } I h) fun f s1 q=>?_)
 cases f with
 | next =>
   obtain⟨σ',H',I',q⟩:=q
   exact h2 pins s1 σ' H' D I' q
 | ret v=>exact q
 | brk=>exact q
 | cont=>exact q
theorem zMl (h1:PS X st t):PSs X [st] t:=by
 intro pins s σ H D I h
 refine wpAny_execs_cons (thn (h1 pins s σ H D I h) fun f s1 q=>?_)
 cases f with
 | next=>exact Up q
 | ret v=>exact q
 | brk=>exact q
 | cont=>exact q
theorem Inv.quiet {pins:List (Addr×Obj)}{σ:St}{H:Hp}{s:Shared}(I:Inv X pins σ H s):interactive X.env=false:=by simp[interactive,I.ok.kind]
def zHK (te:TE):TS:=fun D σ H=>te σ H fun _ H1=>D.nx σ H1
theorem zMj (he:PE X e te)(hs:swapsWith e none pos.line X.env=pure false:=by rfl):PS X (.Expr e pos) (zHK te):=by
 intro pins s σ H D I h
 exact wpAny_Expr_any (thn (he pins s σ H _ I h) fun v s1 ⟨x,H1,I1,r1,q1⟩=>⟨σ,H1,I1,q1⟩) I.quiet hs
def zHt (te:TE):TS:=fun D σ H=>te σ H D.rt
theorem zRF (he:PE X e te):PS X (.Return (some e) pos) (zHt te):=by
 intro pins s σ H D I h
 exact wpAny_Return_some (thn (he pins s σ H _ I h) fun v s1 ⟨x,H1,I1,r1,q1⟩=>⟨x,σ,H1,I1,r1,q1⟩)
def zHc (c:TT)(t u:TS):TS:=fun D σ H=>c σ H fun b H1=>if b=true then t D σ H1 else u D σ H1
theorem zIe {c:Expr}{a b:List Stmt}{tc:TT}(hc:PT X c tc)(ha:PSs X a t)(hb:PSs X b u):PS X (.If c a b pos) (zHc tc t u):=by
 intro pins s σ H D I h
 refine wpAny_If (thn (hc pins s σ H _ I h) fun d s1 ⟨H1,I1,q1⟩=>?_)
 cases d with
 | true=>exact ha pins s1 σ H1 D I1 q1
 | false=>exact hb pins s1 σ H1 D I1 q1
end
abbrev TG:=V->St->Hp->(St->Hp->Prop)->Prop
abbrev TGs:=List V->St->Hp->(St->Hp->Prop)->Prop
def PG (X:Cx)(target:Expr)(t:TG):Prop :=
 ∀(pins:List (Addr×Obj)) (s:Shared) (σ:St) (H:Hp) (v:V) (u:Value) (Q:St->Hp->Prop),Inv X pins σ H s->RelV v u->t v σ H Q ->
   wpAny (model X.prog X.w) X.A (assign target X.env u) (fun _ s'=>∃σ' H',Inv X pins σ' H' s'/\Q σ' H') X.xe s
def PGs (X:Cx)(ts:List Expr)(t:TGs):Prop :=
 ∀(pins:List (Addr×Obj)) (s:Shared) (σ:St) (H:Hp) (vs:List V) (us:List Value) (Q:St->Hp->Prop),Inv X pins σ H s->Vals vs us->t vs σ H Q ->
   wpAny (model X.prog X.w) X.A (assignInOrder ((assignEach ts X.env).map (·.2)) us) (fun _ s'=>∃σ' H',Inv X pins σ' H' s'/\Q σ' H') X.xe s
abbrev zJu:=V->V->V->Hp->(Hp->Prop)->Prop
def zJS (X:Cx)(t:zJu):Prop :=
 ∀(pins:List (Addr×Obj)) (s:Shared) (σ:St) (H:Hp) (o i v:V) (ov iv u:Value) (Q:Hp->Prop),Inv X pins σ H s->RelV o ov->RelV i iv->RelV v u->t o i v H Q ->
   wpAny (model X.prog X.w) X.A (setItem ov iv u) (fun _ s'=>∃H',Inv X pins σ H' s'/\Q H') X.xe s
section
variable {X:Cx} {pos:Pos}
def zSP (i:Nat):TG:=fun v σ H Q=>Q (σ.set i (some v)) H
theorem zMp {i:Nat}{x:Str}(hN:X.N.Nodup)(hi:X.N[i]?=some x)(hx:Loc X.env.scope x)(hf:X.fn x=true∨X.env.scope.names.lookup x=some .local:=by first | exact .inl rfl | exact .inr rfl | assumption):PG X (.Name x pos) (zSP i):=by
 intro pins s σ H v u Q I r h
 exact wpAny_assign_Name (zTn I hN hi hx r (fun s' I'=>⟨_,H,I',h⟩) hf)
def zHs:TGs:=fun vs σ H Q=>vs=[]/\Q σ H
def zIf (t:TG)(u:TGs):TGs:=fun vs σ H Q=>∃v r,vs=v::r/\t v σ H fun σ' H'=>u r σ' H' Q
theorem zKQ:PGs X [] zHs:=by
 intro pins s σ H vs us Q I r h
 obtain⟨e,h⟩:=h
 subst e
 cases r
 exact assignInOrder_nil ⟨σ,H,I,h⟩
theorem zMS {e:Expr}{es:List Expr}{t:TG}{u:TGs}(h1:PG X e t)(h2:PGs X es u)
   (hs:(assignEach (e::es) X.env).map (·.2)=assign e X.env::(assignEach es X.env).map (·.2):=by rfl):PGs X (e::es) (zIf t u):=by
 intro pins s σ H vs us Q I r h
 obtain⟨v,vr,e1,h⟩:=h
 subst e1
 cases r with
 | cons r rr =>
   rw[hs]
   refine assignInOrder_cons (thn (h1 pins s σ H _ _ _ I r h) fun _ s1 ⟨σ1,H1,I1,q1⟩=>?_)
   exact h2 pins s1 σ1 H1 _ _ Q I1 rr q1
def zHu (K:PySem.W.Frag)(n:Nat)(t:TGs):TG:=fun v σ H Q=>∃a xs,v = .ref a/\SqT K H a xs/\xs.length=n/\t xs σ H Q
theorem zIX {es:List Expr}{k:Nat}{t:TGs}{n:Nat}(hc:X.calm=true)(h:PGs X es t)
   (hn:(assignEach es X.env).length=n:=by rfl) (hst:(assignEach es X.env).findIdx? (·.1)=none:=by rfl):PG X (.Tuple es k pos) (zHu X.K n t):=by
 intro pins s σ H v u Q I r hw
 obtain⟨a,xs,e1,hq,hl,hw⟩:=hw
 subst e1
 cases r
 obtain⟨its,rv,ht,hz⟩:=I.tuple hq
 refine assign_Tuple_tuple (I.ok.hd hc) ht (by simp[hn,←hl,rv.length]) hst fun h' hx=>?_
 have I1:Inv X pins σ H { s with heap:=h' }:=I.kept (t':=s.toks) fun b o e=>hx b o (Wm (Qs e)) e
 exact h pins _ σ H xs _ Q I1 (by simpa using rv) hw
def zHz (to ti:TE)(t:zJu):TG:=fun v σ H Q=>to σ H fun o H1=>ti σ H1 fun i H2=>t o i v H2 fun H3=>Q σ H3
theorem zNi {o i:Expr}{to ti:TE}{t:zJu}(ho:PE X o to)(hi:PE X i ti)(hs:zJS X t)
   (ha:∀v,assign (.Subscript o i pos) X.env v=(do
     let ov ←holding [v] (eval o X.env)
     let iv ←holding [v,ov] (eval i X.env)
     standAt pos
     holding [v,ov,iv] (setItem ov iv v)
     release [v,ov,iv] []):=by intro _;rfl):PG X (.Subscript o i pos) (zHz to ti t):=by
 intro pins s σ H v u Q I r h
 rw[ha]
 refine Qe (Ru (thn (ho pins s σ H _ I h) fun ov s1 ⟨x,H1,I1,r1,q1⟩=>?_))
 refine Qe (Ru (thn (hi pins s1 σ H1 _ I1 q1) fun iv s2 ⟨y,H2,I2,r2,q2⟩=>?_))
 refine Qe (wpAny_standAt (Qe (Ru (thn (hs pins s2 σ H2 x y v ov iv u _ I2 r1 r2 r q2) fun _ s3 ⟨H3,I3,q3⟩=>?_))))
 exact wpAny_release ⟨σ,H3,I3,q3⟩
def zPB (te:TE)(g:TG):TS:=fun D σ H=>te σ H fun x H1=>g x σ H1 D.nx
theorem zSd {tg e:Expr}{te:TE}{g:TG}(he:PE X e te)(hg:PG X tg g)(hs:swapsWithSole [tg] e pos.line X.env=pure false:=by rfl)(hw:swappedStores [tg] e X.env=pure none:=by rfl)
   (h1:(assignEach [tg] X.env).map (·.2)=[assign tg X.env]:=by rfl):PS X (.Assign [tg] e pos) (zPB te g):=by
 intro pins s σ H D I h
 refine wpAny_Assign_stores (thn (he pins s σ H _ I h) fun v s1 ⟨x,H1,I1,r1,q1⟩=>?_) hs hw
 rw[h1]
 exact thn (hg pins s1 σ H1 x v _ I1 r1 q1) fun _ s2 q=>q
theorem zU7 {i:Nat}{x:Str}{e:Expr}{te:TE}{pos':Pos}(hN:X.N.Nodup)(hi:X.N[i]?=some x)(hx:Loc X.env.scope x)(he:PE X e te)(hs:swapsWith e (some (.Name x pos')) pos.line X.env=pure false:=by rfl)(hf:X.fn x=true∨X.env.scope.names.lookup x=some .local:=by first | exact .inl rfl | exact .inr rfl | assumption) :
   PS X (.Assign [.Name x pos'] e pos) (zPB te (zSP i)):=by
 intro pins s σ H D I h
 refine wpAny_Assign_Name (thn (he pins s σ H _ I h) fun v s1 ⟨y,H1,I1,r1,q1⟩=>?_) hs
 exact zTn I1 hN hi hx r1 (fun s2 I2=>⟨_,H1,I2,q1⟩) hf
def zJP (c:TT)(tb:TS):TS:=fun D σ H=>∃W:Nat->St->Hp->Prop,(∃m,W m σ H)/\∀m σ H,W m σ H ->
 c σ H fun b H1=>if b=true then ∃N:St->Hp->Prop,(∀σ' H',N σ' H'->∃m',m' < m/\W m' σ' H')/\tb { D with nx:=N,ct:=N,bk:=D.nx } σ H1 else D.nx σ H1
theorem zNo {c:Expr}{body:List Stmt}{tc:TT}{tb:TS}(hp:PassesOwn (model X.prog X.w) X.A X.env X.xe)(hc:PT X c tc)(hb:PSs X body tb):PS X (.While c body [] pos) (zJP tc tb):=by
 intro pins s σ H D I h
 obtain⟨W,⟨m0,w0⟩,turn⟩:=h
 refine wpAny_While (codeAny_whileLoop (fun n s'=>∃σ' H',Inv X pins σ' H' s'/\W n σ' H') ?_ m0 ⟨σ,H,I,w0⟩)
 rintro n s1 ⟨σ1,H1,I1,w1⟩
 refine Te hp (thn (hc pins s1 σ1 H1 _ I1 (turn n σ1 H1 w1)) fun b s2 ⟨H2,I2,q2⟩=>?_)
 cases b with
 | true =>
   obtain⟨N,hN,q2⟩:=q2
   rw[Qb rfl]
   refine Te hp (thn (hb pins s2 σ1 H2 _ I2 q2) fun f s3 q3=>?_)
   cases f with
   | next =>
     obtain⟨σ3,H3,I3,n3⟩:=q3
     obtain⟨m',hm,w3⟩:=hN σ3 H3 n3
     exact⟨m',hm,σ3,H3,I3,w3⟩
   | cont =>
     obtain⟨σ3,H3,I3,n3⟩:=q3
     obtain⟨m',hm,w3⟩:=hN σ3 H3 n3
     exact⟨m',hm,σ3,H3,I3,w3⟩
   | brk=>exact q3
   | ret v=>exact q3
 | false =>
   rw[Ws Qj]
   exact Up ⟨σ1,H2,I2,q2⟩
end
structure It where
 go:Nat->Hp->Prop
 yld:Nat->Hp->V->Hp->Prop
 stop:Nat->Hp->Prop
def mX (X:Cx)(pins:List (Addr×Obj))(H:Hp)(b:Addr):Prop :=
 H b=none/\b≠X.env.locals/\b∉X.fs/\(b∈X.ex∨X.s₀.heap.objs.size<=b)/\(∀x c,X.env.cells.lookup x=some c->c≠b)/\∀p∈X.pn++pins,p.1≠b
theorem Inv.fpOk {X:Cx}{pins:List (Addr×Obj)}{σ:St}{H H':Hp}{s:Shared}{b:Addr}(I:Inv X pins σ H s)(hb:s.heap.objs.size<=b)(hn:H' b=none):mX X pins H' b:=by
 refine⟨hn,Nat.ne_of_gt (We I.lt hb),I.nofs hb,.inr (Ey I.sz hb),fun x c e z=>?_,fun p hp z=>?_⟩
 · obtain⟨v,q⟩:=I.cell x c e
   exact absurd (We q.lt (by rw[z];exact hb)) (Wr _)
 · exact absurd (We (Qs (I.pin p hp).1) (by rw[z];exact hb)) (Wr _)
structure Turn (P:Program)(w:World)(K:PySem.W.Frag)(tg:Expr)(J:It)(fp:List Addr)(it:Addr)(tn:Nat->Heap->Prop):Prop where
 mem:it∈fp
 obj:∀i h,tn i h->∀b∈fp,∃o,h.get? b=some o/\∀v,o.data ≠ .cell v
 keep:∀i h h',tn i h->(∀b∈fp,∀o,h.get? b=some o->h'.get? b=some o)->tn i h'
 item:∀(X:Cx),X.prog=P->X.w=w->X.K=K->X.calm=true->∀(i:Nat) (pins:List (Addr×Obj)) (s:Shared) (σ:St) (H:Hp) (E:Value->Shared->Prop),Inv X pins σ H s->(∀b∈fp,mX X pins H b)->tn i s.heap->J.go i H ->
   wpAny (model P w) X.A (pyNext (.ref it)) (fun r s1=>∃u,r=some u /\
     wpAny (model P w) X.A (letOwnedTupleGo tg (.ref it) u) (fun _ s2=>∃x H',Inv X pins σ H' s2/\RelV x u/\J.yld i H x H'/\tn (i+1) s2.heap/\∀b∈fp,H' b=none) E s1) E s
 done:∀(X:Cx),X.prog=P->X.w=w->X.K=K->X.calm=true->∀(i:Nat) (pins:List (Addr×Obj)) (s:Shared) (σ:St) (H:Hp) (E:Value->Shared->Prop),Inv X pins σ H s->(∀b∈fp,mX X pins H b)->tn i s.heap->J.stop i H ->
   wpAny (model P w) X.A (pyNext (.ref it)) (fun r s1=>r=none/\Inv X pins σ H s1) E s
 self:∀(A:Around) (i:Nat) (s:Shared) (Q:Value->Shared->Prop) (E:Value->Shared->Prop),tn i s.heap->Q (.ref it) s->wpAny (model P w) A (pyIter (.ref it)) Q E s
abbrev TI:=St->Hp->(It->Hp->Prop)->Prop
def PIE (X:Cx)(pins:List (Addr×Obj))(σ:St)(tg:Expr)(R:It->Hp->Prop)(itv:Value)(s2:Shared):Prop :=
 ∃(it:Addr) (fp:List Addr) (tn:Nat->Heap->Prop) (J:It) (H':Hp),itv = .ref it/\Inv X pins σ H' s2/\Turn X.prog X.w X.K tg J fp it tn/\tn 0 s2.heap/\(∀b∈fp,mX X pins H' b)/\R J H'
def PI (X:Cx)(tg iter:Expr)(wi:TI):Prop :=
 ∀(pins:List (Addr×Obj)) (s:Shared) (σ:St) (H:Hp) (R:It->Hp->Prop),Inv X pins σ H s->wi σ H R ->
   wpAny (model X.prog X.w) X.A (eval iter X.env) (fun v s1=>wpAny (model X.prog X.w) X.A (pyIter v) (PIE X pins σ tg R) X.xe s1) X.xe s
theorem zTf {M:Model}{A:Around}{E:Value->Shared->Prop}{s:Shared}{tg:Expr}{it:Addr}{u:Value}{o:Obj}{n:String}{vs:Array Value}{Q:Unit->Shared->Prop}(ho:s.heap.get? it=some o)(hc:o.cls = .type n)(hd:o.data = .fields vs)
   (hn:["enumerate","zip","dict_itemiterator","dict_reverseitemiterator","odict_iterator","itertools.zip_longest","itertools.pairwise"].contains n=false) (hQ:Q () s):wpAny M A (letOwnedTupleGo tg (.ref it) u) Q E s:=by
 unfold letOwnedTupleGo
 cases tg<;>first
   | exact Qf hQ
   | (cases u<;>first
       | exact Qf hQ
       | (refine Qe (wpAny_load ho ?_)
          rw[hc,hd]
          show wpAny M A (if (["enumerate","zip","dict_itemiterator","dict_reverseitemiterator","odict_iterator","itertools.zip_longest","itertools.pairwise"].contains n&&vs[0]?==some (rawInt _))=true then _ else _) Q E s
          rw[Ws (by intro h;rw[hn,Bool.false_and] at h;cases h)]
          exact Qf hQ))
def Itl (K:PySem.W.Frag)(a:Addr):It :=
 ⟨fun i H=>∃xs x,SqL K H a xs/\xs[i]?=some x,fun i H x H'=>H'=H/\∀xs,SqL K H a xs->xs[i]?=some x,fun i H=>∃xs,SqL K H a xs/\xs.length<=i⟩
def Itt (K:PySem.W.Frag)(a:Addr):It :=
 ⟨fun i H=>∃xs x,SqT K H a xs/\xs[i]?=some x,fun i H x H'=>H'=H/\∀xs,SqT K H a xs->xs[i]?=some x,fun i H=>∃xs,SqT K H a xs/\xs.length<=i⟩
def Itr (lo:Int)(n:Nat):It:=⟨fun i _=>i < n,fun i H x H'=>H'=H/\x = .int (lo+i),fun i _=>n<=i⟩
theorem zPc {P:Program}{w:World}{K:PySem.W.Frag}{tg:Expr}(a it:Addr):Turn P w K tg (Itl K a) [it] it (fun i h=>h.IsListIter it a i) where
 mem:=by simp
 obj:=fun i h st b hb=>by
   have e:b=it:=by simpa using hb
   subst e
   obtain⟨o,e,c,d⟩:=st
   exact⟨o,e,fun v z=>by rw[d] at z;cases z⟩
 keep:=fun i h h' st k=>st.at fun o e=>k it (by simp) o e
 item:=by
   intro X hP hw hK hc i pins s σ H E I hf st hg
   subst hP hw hK
   obtain⟨xs,x,hq,hx⟩:=hg
   obtain⟨its,rv,p,hz⟩:=I.list hq
   obtain⟨u,hu,ru⟩:=rv.get hx
   obtain⟨f0,f1,f2,f3,f4,f5⟩:=hf it (by simp)
   refine wpAny_pyNext_list_item st p.isList (x:=u) (by simpa using hu) fun h' st' sb=>?_
   have I1:Inv X pins σ H { s with heap:=h' }:=I.turned (t':=s.toks) (fun b o hb e=>(sb.2 b hb).trans e) f0 f1 f3 f4 f5
   obtain⟨o,e,c,d⟩:=id st'
   exact⟨u,rfl,zTf (s:={ s with heap:=h' }) e c d (by decide) ⟨x,H,I1,ru,⟨rfl,fun ys hy=>by rw[I.list_inj hy hq];exact hx⟩,st',fun b hb=>(hf b hb).1⟩⟩
 done:=by
   intro X hP hw hK hc i pins s σ H E I hf st hg
   subst hP hw hK
   obtain⟨xs,hq,hx⟩:=hg
   obtain⟨its,rv,p,hz⟩:=I.list hq
   obtain⟨f0,f1,f2,f3,f4,f5⟩:=hf it (by simp)
   have hl:=rv.length
   exact wpAny_pyNext_list_end (I.ok.hd hc) st p.isList (by simp;omega) fun h' eb=>⟨rfl,I.turned (t':=s.toks) (fun b o hb e=>eb b o hb e) f0 f1 f3 f4 f5⟩
 self:=fun _ _ _ _ _ st h=>wpAny_pyIter_listiter st h
theorem zSc {P:Program}{w:World}{K:PySem.W.Frag}{tg:Expr}(a it:Addr):Turn P w K tg (Itt K a) [it] it (fun i h=>h.IsTupleIter it a i) where
 mem:=by simp
 obj:=fun i h st b hb=>by
   have e:b=it:=by simpa using hb
   subst e
   obtain⟨o,e,c,d⟩:=st
   exact⟨o,e,fun v z=>by rw[d] at z;cases z⟩
 keep:=fun i h h' st k=>st.at fun o e=>k it (by simp) o e
 item:=by
   intro X hP hw hK hc i pins s σ H E I hf st hg
   subst hP hw hK
   obtain⟨xs,x,hq,hx⟩:=hg
   obtain⟨its,rv,p,hz⟩:=I.tuple hq
   obtain⟨u,hu,ru⟩:=rv.get hx
   obtain⟨f0,f1,f2,f3,f4,f5⟩:=hf it (by simp)
   refine wpAny_pyNext_tuple_item st (show s.heap.IsTuple a its.toArray from p) (x:=u) (by simpa using hu) fun h' st' sb=>?_
   have I1:Inv X pins σ H { s with heap:=h' }:=I.turned (t':=s.toks) (fun b o hb e=>(sb.2 b hb).trans e) f0 f1 f3 f4 f5
   obtain⟨o,e,c,d⟩:=id st'
   exact⟨u,rfl,zTf (s:={ s with heap:=h' }) e c d (by decide) ⟨x,H,I1,ru,⟨rfl,fun ys hy=>by rw[I.tuple_inj hy hq];exact hx⟩,st',fun b hb=>(hf b hb).1⟩⟩
 done:=by
   intro X hP hw hK hc i pins s σ H E I hf st hg
   subst hP hw hK
   obtain⟨xs,hq,hx⟩:=hg
   obtain⟨its,rv,p,hz⟩:=I.tuple hq
   obtain⟨f0,f1,f2,f3,f4,f5⟩:=hf it (by simp)
   have hl:=rv.length
   exact wpAny_pyNext_tuple_end (I.ok.hd hc) st (show s.heap.IsTuple a its.toArray from p) (by simp;omega) fun h' eb=>⟨rfl,I.turned (t':=s.toks) (fun b o hb e=>eb b o hb e) f0 f1 f3 f4 f5⟩
 self:=fun _ _ _ _ _ st h=>wpAny_pyIter_tupleiter st h
theorem zR0 {P:Program}{w:World}{K:PySem.W.Frag}{tg:Expr}(it:Addr)(lo:Int)(n:Nat):Turn P w K tg (Itr lo n) [it] it (fun i h=>IsRangeIter h it (lo+(i:Nat)*1) ((n:Int) - (i:Nat)) 1) where
 mem:=by simp
 obj:=fun i h st b hb=>by
   have e:b=it:=by simpa using hb
   subst e
   exact⟨_,st,fun v z=>by
     have z':Data.fields _=Data.cell v:=z
     cases z'⟩
 keep:=fun i h h' st k=>k it (by simp) _ st
 item:=by
   intro X hP hw hK hc i pins s σ H E I hf st hg
   subst hP hw hK
   obtain⟨f0,f1,f2,f3,f4,f5⟩:=hf it (by simp)
   have W:=Walks.range (prog:=X.prog) (w:=X.w) (I.ok.hd hc) it lo 1 n
   refine W.item i s _ _ hg st fun v h' tk hv st' kk=>?_
   obtain⟨t,rfl⟩:=hv
   have I1:Inv X pins σ H { s with heap:=h',toks:=tk }:=I.turned (fun b o hb e=>kk b o (by simpa using hb) e) f0 f1 f3 f4 f5
   refine⟨_,rfl,zTf (s:={ s with heap:=h',toks:=tk }) (n:="range_iterator") st' rfl rfl (by decide) ⟨.int (lo+i),H,I1,⟨t,?_⟩,⟨rfl,rfl⟩,st',fun b hb=>(hf b hb).1⟩⟩
   rw[Int.mul_one]
 done:=by
   intro X hP hw hK hc i pins s σ H E I hf st hg
   subst hP hw hK
   obtain⟨f0,f1,f2,f3,f4,f5⟩:=hf it (by simp)
   exact wpAny_pyNext_range_end (I.ok.hd hc) st (by have:n<=i:=hg;omega) fun h' eb=>⟨rfl,I.turned (t':=s.toks) (fun b o hb e=>eb b o hb e) f0 f1 f3 f4 f5⟩
 self:=fun _ _ _ _ _ st h=>wpAny_pyIter_rangeiter st h
section
variable {X:Cx} {tg:Expr}
def zIx (K:PySem.W.Frag)(tl:TE):TI:=fun σ H R=>tl σ H fun x H1=>∃a,x = .ref a/\(∃xs,SqL K H1 a xs)/\R (Itl K a) H1
def zGT (K:PySem.W.Frag)(tl:TE):TI:=fun σ H R=>tl σ H fun x H1=>∃a,x = .ref a/\(∃xs,SqT K H1 a xs)/\R (Itt K a) H1
theorem zRb {l:Expr}{tl:TE}(hl:PE X l tl):PI X tg l (zIx X.K tl):=by
 intro pins s σ H R I h
 refine thn (hl pins s σ H _ I h) fun v s1 ⟨x,H1,I1,r1,q1⟩=>?_
 obtain⟨a,e,⟨xs,hq⟩,q⟩:=q1
 subst e
 cases r1
 obtain⟨its,rv,p,hz⟩:=I1.list hq
 refine Yk p.isList ?_
 refine⟨s1.heap.objs.size,[s1.heap.objs.size],_,_,H1,rfl,I1.kept (t':=s1.toks) fun b o e=>Qr _ e,zPc a _,⟨_,Qk _ rfl,rfl,rfl⟩,fun b hb=>?_,q⟩
 have e:b=s1.heap.objs.size:=by simpa using hb
 subst e
 exact I1.fpOk (Ql _) (I1.hok.fresh (Ql _))
theorem zKt {l:Expr}{tl:TE}(hl:PE X l tl):PI X tg l (zGT X.K tl):=by
 intro pins s σ H R I h
 refine thn (hl pins s σ H _ I h) fun v s1 ⟨x,H1,I1,r1,q1⟩=>?_
 obtain⟨a,e,⟨xs,hq⟩,q⟩:=q1
 subst e
 cases r1
 obtain⟨its,rv,p,hz⟩:=I1.tuple hq
 refine Tw (show s1.heap.IsTuple a its.toArray from p) ?_
 refine⟨s1.heap.objs.size,[s1.heap.objs.size],_,_,H1,rfl,I1.kept (t':=s1.toks) fun b o e=>Qr _ e,zSc a _,⟨_,Qk _ rfl,rfl,rfl⟩,fun b hb=>?_,q⟩
 have e:b=s1.heap.objs.size:=by simpa using hb
 subst e
 exact I1.fpOk (Ql _) (I1.hok.fresh (Ql _))
theorem zSQ {pins:List (Addr×Obj)}{σ:St}{H:Hp}{s:Shared}{R:It->Hp->Prop}{E:Value->Shared->Prop}{lo hi:Int}{t u v:Tok}{tk:Nat}(I:Inv X pins σ H s)(h1 : -(2^62)<=lo)(h2:lo < 2^62)(h3 : -(2^62)<=hi)(h4:hi < 2^62)
   (q:R (Itr lo (hi - lo).toNat) H):wpAny (model X.prog X.w) X.A (pyIter (.ref s.heap.objs.size)) (PIE X pins σ tg R) E { s with heap:=s.heap.push { cls:=.type "range",data:=.fields #[.int lo t,.int hi u,.int 1 v] },toks:=tk }:=by
 refine wpAny_pyIter_range (IsRange.new ..) (small_one h1 h2 h3 h4) ?_
 have I1:Inv X pins σ H { s with heap:=s.heap.push { cls:=.type "range",data:=.fields #[.int lo t,.int hi u,.int 1 v] },toks:=tk }:=I.kept fun b o e=>Qr _ e
 refine⟨(s.heap.push { cls:=.type "range",data:=.fields #[.int lo t,.int hi u,.int 1 v] }).objs.size,[(s.heap.push { cls:=.type "range",data:=.fields #[.int lo t,.int hi u,.int 1 v] }).objs.size],_,_,H,rfl,
   I1.kept (t':=tk) fun b o e=>Qr _ e,zR0 _ lo (hi - lo).toNat,?_,fun b hb=>?_,q⟩
 · have e1:lo+((0:Nat):Int)*1=lo:=by simp
   have e2:(((hi - lo).toNat:Nat):Int) - ((0:Nat):Int)=Builtin.Range.rangeSize lo hi 1:=by rw[rangeSize_one];split<;>omega
   show IsRangeIter _ _ (lo+((0:Nat):Int)*1) ((((hi - lo).toNat:Nat):Int) - ((0:Nat):Int)) 1
   rw[e1,e2]
   exact Qk _ rfl
 · have e:b=(s.heap.push { cls:=.type "range",data:=.fields #[.int lo t,.int hi u,.int 1 v] }).objs.size:=by simpa using hb
   subst e
   exact I1.fpOk (Ql _) (I1.hok.fresh (Ql _))
def zI9 (ta:TA):TI:=fun σ H R=>ta σ H fun vs H1=>∃j:Int,vs=[.int j] /\ -(2^62)<=j/\j < 2^62/\R (Itr 0 j.toNat) H1
def zHB (ta:TA):TI:=fun σ H R=>ta σ H fun vs H1=>∃i j:Int,vs=[.int i,.int j]/\(-(2^62)<=i/\i < 2^62 /\ -(2^62)<=j/\j < 2^62)/\R (Itr i (j - i).toNat) H1
theorem zPg {a:Expr}{ta:TA}{p pos:Pos}(hg:Gl X "range")(hm:X.mg "range"=none)(ha:PA X [a] ta)(hs:starEach [a] X.env=[(false,eval a X.env)]:=by rfl):PI X tg (.Call (.Name "range" p) [a] [] pos) (zI9 ta):=by
 intro pins s σ H R I h
 refine Call_ (qD I hg hm boot_range (Wj (thn (ha pos pins s σ H _ I h) fun us s1 ⟨vs,H1,I1,r1,q1⟩=>?_) hs rfl))
 obtain⟨j,e,q1,q2,q⟩:=q1
 subst e
 cases r1 with
 | cons r rr =>
   cases rr
   obtain⟨t,rfl⟩:=r
   exact call_range_1 (zSQ I1 (by omega) (by omega) q1 q2 (by simpa using q))
theorem zQi {a b:Expr}{ta:TA}{p pos:Pos}(hg:Gl X "range")(hm:X.mg "range"=none)(ha:PA X [a,b] ta)(hs:starEach [a,b] X.env=[(false,eval a X.env),(false,eval b X.env)]:=by rfl)(hs2:starEach [b] X.env=[(false,eval b X.env)]:=by rfl) :
   PI X tg (.Call (.Name "range" p) [a,b] [] pos) (zHB ta):=by
 intro pins s σ H R I h
 refine Call_ (qD I hg hm boot_range (Wj (thn (ha pos pins s σ H _ I h) fun us s1 ⟨vs,H1,I1,r1,q1⟩=>?_) (by rw[hs,hs2]) (by rw[hs2];rfl)))
 obtain⟨i,j,e,⟨q1,q2,q3,q4⟩,q⟩:=q1
 subst e
 cases r1 with
 | cons r rr =>
   cases rr with
   | cons r' rr =>
     cases rr
     obtain⟨t,rfl⟩:=r
     obtain⟨t',rfl⟩:=r'
     exact call_range_2 (zSQ I1 q1 q2 q3 q4 q)
def zGZ (wi:TI)(g:TG)(tb:TS):TS:=fun D σ H=>wi σ H fun J H1=>∃W:Nat->Nat->St->Hp->Prop,(∃m,W 0 m σ H1)/\∀i m σ H,W i m σ H ->
 (J.stop i H/\D.nx σ H)∨(J.go i H/\∃N:St->Hp->Prop,(∀σ' H',N σ' H'->∃m',m' < m/\W (i+1) m' σ' H')/\∀x H',J.yld i H x H'->g x σ H' fun σ2 H2=>tb { D with nx:=N,ct:=N,bk:=D.nx } σ2 H2)
def zYi (fp:List Addr)(h:Heap):List (Addr×Obj):=fp.filterMap fun b=>(h.get? b).map fun o=>(b,o)
theorem jN {fp:List Addr}{h:Heap}{b:Addr}{o:Obj}(hb:b∈fp)(e:h.get? b=some o):(b,o)∈zYi fp h:=List.mem_filterMap.mpr ⟨b,hb,by rw[e];rfl⟩
theorem zP5 {fp:List Addr}{h:Heap}{p:Addr×Obj}(hp:p∈zYi fp h):p.1∈fp/\h.get? p.1=some p.2:=by
 obtain⟨b,hb,e⟩:=List.mem_filterMap.mp hp
 cases q:h.get? b with
 | none=>rw[q] at e;cases e
 | some o =>
   rw[q] at e
   have e':(b,o)=p:=Ep e
   subst e'
   exact⟨hb,q⟩
theorem Inv.pinned {pins:List (Addr×Obj)}{σ:St}{H:Hp}{s:Shared}{fp:List Addr}(I:Inv X pins σ H s)(hf:∀b∈fp,mX X pins H b)(ho:∀b∈fp,∃o,s.heap.get? b=some o/\∀v,o.data ≠ .cell v):Inv X (pins++zYi fp s.heap) σ H s :=
 I.pins_of fun p hp=>(Ee.mp hp).elim (fun z=>I.pin p (Eu _ z)) fun z=>by
   obtain⟨hb,e⟩:=zP5 z
   obtain⟨f0,f1,f2,_⟩:=hf p.1 hb
   obtain⟨o,e',d⟩:=ho p.1 hb
   rw[e] at e';cases e'
   exact⟨e,f0,f1,f2,d⟩
theorem Inv.unpinned {pins pl:List (Addr×Obj)}{σ:St}{H:Hp}{s:Shared}(I:Inv X (pins++pl) σ H s):Inv X pins σ H s:=I.pins_of fun p hp=>I.pin p (Eu _ (Uc _ hp))
theorem zJM {iter:Expr}{body:List Stmt}{wi:TI}{g:TG}{tb:TS}{pos:Pos}(hp:PassesOwn (model X.prog X.w) X.A X.env X.xe)(hc:X.calm=true)(hi:PI X tg iter wi)(hg:PG X tg g)(hb:PSs X body tb)
   (hs:∀x,foldedSetIterable iter X.env x=pure x:=by intro _;rfl):PS X (.For tg iter body [] pos) (zGZ wi g tb):=by
 intro pins s σ H D I h
 refine wpAny_For (thn (hi pins s σ H _ I h) fun v s1 h1=>thn h1 fun itv s2 h2=>?_) hs
 obtain⟨it,fp,tn,J,H2,e,I2,T,st2,f2,W,⟨m0,w0⟩,turn⟩:=h2
 subst e
 -- what stays true of the iterator's objects through the loop
 have stat:∀ {H':Hp},(∀b∈fp,H' b=none)->∀b∈fp,mX X pins H' b:=fun hn b hb=>⟨hn b hb,(f2 b hb).2⟩
 refine codeAny_forLoop_any (fun n s'=>∃i σ' H',Inv X pins σ' H' s'/\tn i s'.heap/\(∀b∈fp,H' b=none)/\W i n σ' H') ?_ m0 ⟨0,σ,H2,I2,st2,fun b hb=>(f2 b hb).1,w0⟩
 rintro n s3 ⟨i,σ3,H3,I3,st3,fr3,w3⟩
 rcases turn i n σ3 H3 w3 with⟨stop,qn⟩ | ⟨go,N,hN,step⟩
 · refine Te hp (thn (T.done X rfl rfl rfl hc i pins s3 σ3 H3 X.xe I3 (stat fr3) st3 stop) fun r s4 ⟨hr,I4⟩=>?_)
   subst hr
   exact Up ⟨σ3,H3,I4,qn⟩
 · refine Te hp (thn (T.item X rfl rfl rfl hc i pins s3 σ3 H3 X.xe I3 (stat fr3) st3 go) fun r s4 ⟨u,hr,h4⟩=>?_)
   subst hr
   refine Te hp (thn h4 fun _ s5 ⟨x,H5,I5,r5,y5,st5,fr5⟩=>?_)
   have I5':=I5.pinned (stat fr5) (T.obj _ _ st5)
   refine Te hp (thn (hg _ s5 σ3 H5 x u _ I5' r5 (step x H5 y5)) fun _ s6 ⟨σ6,H6,I6,q6⟩=>?_)
   refine Te hp (thn (hb _ s6 σ6 H6 _ I6 q6) fun f s7 q7=>?_)
   have again:∀ {σ7:St} {H7:Hp},Inv X (pins++zYi fp s5.heap) σ7 H7 s7->N σ7 H7->∃m,m < n/\∃i σ' H',Inv X pins σ' H' s7/\tn i s7.heap/\(∀b∈fp,H' b=none)/\W i m σ' H':=fun {σ7 H7} I7 n7=>by
     obtain⟨m',hm,w7⟩:=hN σ7 H7 n7
     refine⟨m',hm,i+1,σ7,H7,I7.unpinned,T.keep _ _ _ st5 fun b hb o e=>(I7.pin (b,o) (Eu _ (Eu _ (jN hb e)))).1,fun b hb=>?_,w7⟩
     obtain⟨o,e,d⟩:=T.obj _ _ st5 b hb
     exact(I7.pin (b,o) (Eu _ (Eu _ (jN hb e)))).2.1
   cases f with
   | next=>obtain⟨σ7,H7,I7,n7⟩:=q7;exact again I7 n7
   | cont=>obtain⟨σ7,H7,I7,n7⟩:=q7;exact again I7 n7
   | brk=>obtain⟨σ7,H7,I7,q7⟩:=q7;exact⟨σ7,H7,I7.unpinned,q7⟩
   | ret v=>obtain⟨x7,σ7,H7,I7,r7,q7⟩:=q7;exact⟨x7,σ7,H7,I7.unpinned,r7,q7⟩
end
abbrev R2:=V->V->Hp->VK->Prop
def OpR (X:Cx)(f:Value->Value->Sem Value)(r:R2):Prop :=
 ∀(pins:List (Addr×Obj)) (s:Shared) (σ:St) (H:Hp) (x y:V) (v u:Value) (Q:VK),Inv X pins σ H s->RelV x v->RelV y u->r x y H Q ->
   wpAny (model X.prog X.w) X.A (f v u) (EP X pins σ Q) X.xe s
def UnR (X:Cx)(f:Value->Sem Value)(r:V->Hp->VK->Prop):Prop :=
 ∀(pins:List (Addr×Obj)) (s:Shared) (σ:St) (H:Hp) (x:V) (v:Value) (Q:VK),Inv X pins σ H s->RelV x v->r x H Q ->
   wpAny (model X.prog X.w) X.A (f v) (EP X pins σ Q) X.xe s
def CallR (X:Cx)(f:Value)(r:List V->Hp->VK->Prop):Prop :=
 ∀(pins:List (Addr×Obj)) (s:Shared) (σ:St) (H:Hp) (xs:List V) (us:List Value) (Q:VK),Inv X pins σ H s->Vals xs us->r xs H Q ->
   wpAny (model X.prog X.w) X.A (call f us) (EP X pins σ Q) X.xe s
def tOp (r:R2)(ta tb:TE):TE:=fun σ H Q=>ta σ H fun x H1=>tb σ H1 fun y H2=>r x y H2 Q
def tUn (r:V->Hp->VK->Prop)(ta:TE):TE:=fun σ H Q=>ta σ H fun x H1=>r x H1 Q
def rI (C:Int->Int->Prop)(g:Int->Int->V):R2:=fun x y H Q=>∃i j,x = .int i/\y = .int j/\C i j/\Q (g i j) H
def rI0 (g:Int->Int->V):R2:=fun x y H Q=>∃i j,x = .int i/\y = .int j/\Q (g i j) H
def rU (g:Int->V):V->Hp->VK->Prop:=fun x H Q=>∃i,x = .int i/\Q (g i) H
section
variable {X:Cx} {a b:Expr} {ta tb:TE} {pos:Pos}
theorem zKv (ha:PE X a ta)(hb:PE X b tb){pins:List (Addr×Obj)}{s:Shared}{σ:St}{H:Hp}{R:V->V->Hp->Prop}(I:Inv X pins σ H s)
   (h:ta σ H fun x H1=>tb σ H1 fun y H2=>R x y H2) {Q:Value->Shared->Prop} {f:Value->Value->Sem Value}
   (hf:∀v u s2 x y H2,Inv X pins σ H2 s2->RelV x v->RelV y u->R x y H2->wpAny (model X.prog X.w) X.A (f v u) Q X.xe s2) :
   wpAny (model X.prog X.w) X.A (eval a X.env) (fun v s₁=>wpAny (model X.prog X.w) X.A (eval b X.env) (fun u s₂=>wpAny (model X.prog X.w) X.A (f v u) Q X.xe s₂) X.xe s₁) X.xe s:=by
 refine thn (ha pins s σ H _ I h) fun v s1 ⟨x,H1,I1,r1,q1⟩=>?_
 refine thn (hb pins s1 σ H1 _ I1 q1) fun u s2 ⟨y,H2,I2,r2,q2⟩=>?_
 exact hf v u s2 x y H2 I2 r1 r2 q2
theorem zXT {op:Operator}{r:R2}(ho:OpR X (binaryOp op) r)(ha:PE X a ta)(hb:PE X b tb):PE X (.BinOp a op b pos) (tOp r ta tb):=by
 intro pins s σ H Q I h
 exact wpAny_BinOp (zKv ha hb I h fun v u s2 x y H2 I2 rx ry q=>ho pins s2 σ H2 x y v u Q I2 rx ry q)
theorem zIr {op:UnaryOp}{r:V->Hp->VK->Prop}(ho:UnR X (unaryOp op) r)(ha:PE X a ta):PE X (.UnaryOp op a pos) (tUn r ta):=by
 intro pins s σ H Q I h
 exact UnaryOp_ (thn (ha pins s σ H _ I h) fun v s1 ⟨x,H1,I1,r1,q1⟩=>ho pins s1 σ H1 x v Q I1 r1 q1)
theorem opI {f:Value->Value->Sem Value}{C:Int->Int->Prop}{g:Int->Int->Int}
   (rule:∀(i j:Int) (t u:Tok) (s:Shared) (Q:Value->Shared->Prop) (E:Value->Shared->Prop),C i j->Q (.int (g i j) s.toks) { s with toks:=s.toks+1 }->wpAny (model X.prog X.w) X.A (f (.int i t) (.int j u)) Q E s) :
   OpR X f (rI C fun i j=>.int (g i j)):=by
 intro pins s σ H x y v u Q I rx ry h
 obtain⟨i,j,rfl,rfl,hc,q⟩:=h
 obtain⟨t,rfl⟩:=rx
 obtain⟨t',rfl⟩:=ry
 exact rule i j t t' s _ _ hc ⟨.int (g i j),H,I.tok _,⟨_,rfl⟩,q⟩
theorem zJa {f:Value->Value->Sem Value}{g:Int->Int->Int}
   (rule:∀(i j:Int) (t u:Tok) (s:Shared) (Q:Value->Shared->Prop) (E:Value->Shared->Prop),Q (.int (g i j) s.toks) { s with toks:=s.toks+1 }->wpAny (model X.prog X.w) X.A (f (.int i t) (.int j u)) Q E s) :
   OpR X f (rI0 fun i j=>.int (g i j)):=by
 intro pins s σ H x y v u Q I rx ry h
 obtain⟨i,j,rfl,rfl,q⟩:=h
 obtain⟨t,rfl⟩:=rx
 obtain⟨t',rfl⟩:=ry
 exact rule i j t t' s _ _ ⟨.int (g i j),H,I.tok _,⟨_,rfl⟩,q⟩
theorem zJO {f:Value->Value->Sem Value}{g:Int->Int->Bool}
   (rule:∀(i j:Int) (t u:Tok) (s:Shared) (Q:Value->Shared->Prop) (E:Value->Shared->Prop),Q (.bool (g i j)) s->wpAny (model X.prog X.w) X.A (f (.int i t) (.int j u)) Q E s) :
   OpR X f (rI0 fun i j=>.bl (g i j)):=by
 intro pins s σ H x y v u Q I rx ry h
 obtain⟨i,j,rfl,rfl,q⟩:=h
 obtain⟨t,rfl⟩:=rx
 obtain⟨t',rfl⟩:=ry
 exact rule i j t t' s _ _ ⟨.bl (g i j),H,I,rfl,q⟩
def zHi (i j:Int):Prop:=0 < j/\j < 1073741824
def zKs (i j:Int):Prop:=0<=j/\j<=1000000/\i.natAbs < 2^64
def CMul (i j:Int):Prop:=(-(2^64) < i/\i < 2^64)∨(-(2^64) < j/\j < 2^64)
theorem CMul.ok {i j:Int}(h:CMul i j):IntMulOk i j:=by
 rcases h with⟨h1,h2⟩ | ⟨h1,h2⟩
 · exact .of_left (intBits_le_64 h1 h2)
 · exact .of_right (intBits_le_64 h1 h2)
theorem zOz:OpR X (binaryOp .Add) (rI0 fun i j=>.int (i+j)):=zJa fun _ _ _ _ _ _ _ q=>add_int q
theorem zJi:OpR X (binaryOp .Sub) (rI0 fun i j=>.int (i - j)):=zJa fun _ _ _ _ _ _ _ q=>sub_int q
theorem zJZ:OpR X (binaryOp .Mult) (rI CMul fun i j=>.int (i*j)):=opI fun _ _ _ _ _ _ _ hc q=>mul_int q hc.ok
theorem zKV:OpR X (binaryOp .FloorDiv) (rI zHi fun i j=>.int (i / j)):=opI fun i j _ _ _ _ _ hc q=>by
 have h1:(0:Int) < j:=hc.1
 have h2:j < 1073741824:=hc.2
 exact floordiv_int (by omega) (by rw[Int.fdiv_eq_ediv_of_nonneg i (by omega)];exact q) (.inl (PyProof.noPylong_small (by omega)))
theorem zJ6:OpR X (binaryOp .Mod) (rI (fun _ j=>0 < j) fun i j=>.int (i % j)):=opI fun i j _ _ _ _ _ hc q=>by
 have h1:(0:Int) < j:=hc
 exact mod_int' (by omega) (by rw[Int.fmod_eq_emod_of_nonneg i (by omega)];exact q)
theorem zIR:OpR X (binaryOp .Pow) (rI zKs fun i j=>.int (i^j.toNat)):=opI fun _ _ _ _ _ _ _ hc q=>pow_int_small hc.1 hc.2.1 hc.2.2 q
theorem zJs:OpR X (binaryOp .LShift) (rI zKs fun i j=>.int (i*2^j.toNat)):=opI fun _ _ _ _ _ _ _ hc q=>lshift_int_small hc.1 hc.2.1 hc.2.2 q
theorem zJg:OpR X (binaryOp .BitXor) (rI0 fun i j=>.int (Builtin.bitXor i j)):=zJa fun _ _ _ _ _ _ _ q=>xor_int q
theorem unI {f:Value->Sem Value}{g:Int->Int}
   (rule:∀(i:Int) (t:Tok) (s:Shared) (Q:Value->Shared->Prop) (E:Value->Shared->Prop),Q (.int (g i) s.toks) { s with toks:=s.toks+1 }->wpAny (model X.prog X.w) X.A (f (.int i t)) Q E s) :
   UnR X f (rU fun i=>.int (g i)):=by
 intro pins s σ H x v Q I rx h
 obtain⟨i,rfl,q⟩:=h
 obtain⟨t,rfl⟩:=rx
 exact rule i t s _ _ ⟨.int (g i),H,I.tok _,⟨_,rfl⟩,q⟩
theorem zKj:UnR X (unaryOp .USub) (rU fun i=>.int (-i)):=unI fun _ _ _ _ _ q=>neg_int q
def zJ2:V->V->Bool
 | .non,.non=>true | .non,.int _=>true | .int _,.non=>true | .non,.bl _=>true | .bl _,.non=>true | .non,.str _=>true | .str _,.non=>true
 | .int _,.int _=>true | .bl _,.bl _=>true | .str _,.str _=>true | .byt _,.byt _=>true
 | .int _,.str _=>true | .str _,.int _=>true | .bl _,.str _=>true | .str _,.bl _=>true
 | _,_=>false
def rEq:R2:=fun x y H Q=>zJ2 x y=true/\Q (.bl (decide (x=y))) H
def rNe:R2:=fun x y H Q=>zJ2 x y=true/\Q (.bl (!decide (x=y))) H
theorem zQU {i j:Int}:decide (V.int i=V.int j)=(i==j):=by
 rw[Yi]
 simp
theorem zVN {i j:Bool}:decide (V.bl i=V.bl j)=(i==j):=by
 rw[Yi]
 simp
theorem zQS {i j:Str}:decide (V.str i=V.str j)=(i==j):=by
 rw[Yi]
 simp
theorem zRw {i j:Array UInt8}:decide (V.byt i=V.byt j)=(i.toList==j.toList):=by
 rw[Yi]
 cases i
 cases j
 simp
variable {c:Expr} {tc:TE}
theorem y0 {pins:List (Addr×Obj)}{σ:St}{H:Hp}{s:Shared}{Q:VK}{k k':Bool}(I:Inv X pins σ H s)(q:Q (.bl k) H)(e:k=k'):EP X pins σ Q (.bool k') s:=by
 subst e
 exact⟨.bl k,H,I,rfl,q⟩
theorem zIv:OpR X (compareOp .Eq) rEq:=by
 intro pins s σ H x y v u Q I rx ry h
 obtain⟨hs,q⟩:=h
 cases x with
 | non =>
   cases rx
   cases y with
   | non=>cases ry;exact PySem.EqNone.eq_none_none (y0 I q (by simp))
   | bl j=>cases ry;exact PySem.EqNone.eq_none_bool (y0 I q (by simp))
   | int j=>obtain⟨t',rfl⟩:=ry;exact PySem.EqNone.eq_none_int (y0 I q (by simp))
   | str j=>obtain⟨t',rfl⟩:=ry;exact PySem.EqNone.eq_none_str (y0 I q (by simp))
   | _=>exact absurd (show false=true from hs) Qj
 | bl i =>
   cases rx
   cases y with
   | non=>cases ry;exact PySem.EqNone.eq_bool_none (y0 I q (by simp))
   | bl j=>cases ry;exact eq_bool (y0 I q zVN)
   | str j=>obtain⟨t',rfl⟩:=ry;exact PySem.EqMixed.eq_bool_str (y0 I q (by simp))
   | _=>exact absurd (show false=true from hs) Qj
 | int i =>
   obtain⟨t,rfl⟩:=rx
   cases y with
   | non=>cases ry;exact PySem.EqNone.eq_int_none (y0 I q (by simp))
   | int j=>obtain⟨t',rfl⟩:=ry;exact eq_int (y0 I q zQU)
   | str j=>obtain⟨t',rfl⟩:=ry;exact PySem.EqMixed.eq_int_str (y0 I q (by simp))
   | _=>exact absurd (show false=true from hs) Qj
 | str i =>
   obtain⟨t,rfl⟩:=rx
   cases y with
   | non=>cases ry;exact PySem.EqNone.eq_str_none (y0 I q (by simp))
   | bl j=>cases ry;exact PySem.EqMixed.eq_str_bool (y0 I q (by simp))
   | int j=>obtain⟨t',rfl⟩:=ry;exact PySem.EqMixed.eq_str_int (y0 I q (by simp))
   | str j=>obtain⟨t',rfl⟩:=ry;exact eq_str (y0 I q zQS)
   | _=>exact absurd (show false=true from hs) Qj
 | byt i =>
   obtain⟨t,rfl⟩:=rx
   cases y with
   | byt j=>obtain⟨t',rfl⟩:=ry;exact PySem.W.eq_bytes (y0 I q zRw)
   | _=>exact absurd (show false=true from hs) Qj
 | _=>cases y<;>exact absurd (show false=true from hs) Qj
theorem zHG:OpR X (compareOp .NotEq) rNe:=by
 intro pins s σ H x y v u Q I rx ry h
 obtain⟨hs,q⟩:=h
 cases x with
 | non =>
   cases rx
   cases y with
   | non=>cases ry;exact PySem.EqNone.ne_none_none (y0 I q (by simp))
   | bl j=>cases ry;exact PySem.EqNone.ne_none_bool (y0 I q (by simp))
   | int j=>obtain⟨t',rfl⟩:=ry;exact PySem.EqNone.ne_none_int (y0 I q (by simp))
   | str j=>obtain⟨t',rfl⟩:=ry;exact PySem.EqNone.ne_none_str (y0 I q (by simp))
   | _=>exact absurd (show false=true from hs) Qj
 | bl i =>
   cases rx
   cases y with
   | non=>cases ry;exact PySem.EqNone.ne_bool_none (y0 I q (by simp))
   | bl j=>cases ry;exact ne_bool (y0 I q (Ea not zVN))
   | str j=>obtain⟨t',rfl⟩:=ry;exact PySem.EqMixed.ne_bool_str (y0 I q (by simp))
   | _=>exact absurd (show false=true from hs) Qj
 | int i =>
   obtain⟨t,rfl⟩:=rx
   cases y with
   | non=>cases ry;exact PySem.EqNone.ne_int_none (y0 I q (by simp))
   | int j=>obtain⟨t',rfl⟩:=ry;exact ne_int (y0 I q (Ea not zQU))
   | str j=>obtain⟨t',rfl⟩:=ry;exact PySem.EqMixed.ne_int_str (y0 I q (by simp))
   | _=>exact absurd (show false=true from hs) Qj
 | str i =>
   obtain⟨t,rfl⟩:=rx
   cases y with
   | non=>cases ry;exact PySem.EqNone.ne_str_none (y0 I q (by simp))
   | bl j=>cases ry;exact PySem.EqMixed.ne_str_bool (y0 I q (by simp))
   | int j=>obtain⟨t',rfl⟩:=ry;exact PySem.EqMixed.ne_str_int (y0 I q (by simp))
   | str j=>obtain⟨t',rfl⟩:=ry;exact ne_str (y0 I q (Ea not zQS))
   | _=>exact absurd (show false=true from hs) Qj
 | byt i =>
   obtain⟨t,rfl⟩:=rx
   cases y with
   | byt j=>obtain⟨t',rfl⟩:=ry;exact PySem.W.ne_bytes (y0 I q (Ea not zRw))
   | _=>exact absurd (show false=true from hs) Qj
 | _=>cases y<;>exact absurd (show false=true from hs) Qj
theorem zHP:OpR X (compareOp .Lt) (rI0 fun i j=>.bl (decide (i < j))):=zJO fun _ _ _ _ _ _ _ q=>lt_int q
theorem zHW:OpR X (compareOp .LtE) (rI0 fun i j=>.bl (decide (i<=j))):=zJO fun _ _ _ _ _ _ _ q=>le_int q
theorem zH9:OpR X (compareOp .Gt) (rI0 fun i j=>.bl (decide (j < i))):=zJO fun _ _ _ _ _ _ _ q=>gt_int q
theorem zQc:OpR X (compareOp .In) (fun x y H Q=>∃i j,x = .str i/\y = .str j/\Q (.bl (!(Builtin.Str.occurrences j i 0 j.length 1).isEmpty)) H):=by
 intro pins s σ H x y v u Q I rx ry h
 obtain⟨i,j,rfl,rfl,q⟩:=h
 obtain⟨t,rfl⟩:=rx
 obtain⟨t',rfl⟩:=ry
 exact in_str (y0 I q rfl)
theorem zIJ:OpR X (compareOp .Is) (fun x y H Q=>y = .non/\Q (.bl (decide (x = .non))) H):=by
 intro pins s σ H x y v u Q I rx ry h
 obtain⟨rfl,q⟩:=h
 cases ry
 refine is_none_gen (y0 I q ?_)
 cases x<;>first
   | (cases rx;rfl)
   | (obtain⟨t,rfl⟩:=rx;rfl)
theorem zLd:OpR X (compareOp .IsNot) (fun x y H Q=>y = .non/\Q (.bl (!decide (x = .non))) H):=by
 intro pins s σ H x y v u Q I rx ry h
 obtain⟨rfl,q⟩:=h
 cases ry
 refine isnot_none_gen (y0 I q ?_)
 cases x<;>first
   | (cases rx;rfl)
   | (obtain⟨t,rfl⟩:=rx;rfl)
theorem OpR.or {f:Value->Value->Sem Value}{r r':R2}(h:OpR X f r)(h':OpR X f r'):OpR X f (fun x y H Q=>r x y H Q∨r' x y H Q):=by
 intro pins s σ H x y v u Q I rx ry q
 rcases q with q | q
 · exact h pins s σ H x y v u Q I rx ry q
 · exact h' pins s σ H x y v u Q I rx ry q
theorem zZ3 (b:Expr){op:CmpOp}(h:op ≠ .In:=by decide)(h2:op ≠ .NotIn:=by decide):behindInMarks op b=false:=by
 have e1:(op==CmpOp.In)=false:=by cases op<;>first | rfl | exact absurd rfl h
 have e2:(op==CmpOp.NotIn)=false:=by cases op<;>first | rfl | exact absurd rfl h2
 cases b<;>simp[behindInMarks,e1,e2]
theorem zKY {op:CmpOp}{r:R2}(ho:OpR X (compareOp op) r)(ha:PE X a ta)(hb:PE X b tb)(hm:behindInMarks op b=false):PE X (.Compare a [op] [b] pos) (tOp r ta tb):=by
 intro pins s σ H Q I h
 exact wpAny_Compare1 (zKv ha hb I h fun v u s2 x y H2 I2 rx ry q=>ho pins s2 σ H2 x y v u Q I2 rx ry q) hm
def zK4 (t:TE):TT:=fun σ H Q=>t σ H fun x H'=>∃k,x = .bl k/\Q k H'
theorem bA {op:CmpOp}{r:R2}(ho:OpR X (compareOp op) r)(ha:PE X a ta)(hb:PE X b tb)(hm:behindInMarks op b=false):PT X (.Compare a [op] [b] pos) (zK4 (tOp r ta tb)):=by
 intro pins s σ H Q I h
 refine wpAny_isTrue_Compare1 (thn (ha pins s σ H _ I h) fun v s1 ⟨x,H1,I1,r1,q1⟩=>thn (hb pins s1 σ H1 _ I1 q1) fun u s2 ⟨y,H2,I2,r2,q2⟩ =>
   thn (ho pins s2 σ H2 x y v u _ I2 r1 r2 q2) fun c s3 ⟨z,H3,I3,r3,k,e,q3⟩=>?_) hm
 subst e
 cases r3
 exact Ti ⟨H3,I3,q3⟩
def zIV (r r':R2)(ta tb tc:TE):TE:=fun σ H Q=>ta σ H fun x H1=>tb σ H1 fun y H2=>r x y H2 fun z H3=>∃k,z = .bl k /\
 (if k=true then tc σ H3 fun w' H4=>r' y w' H4 Q else Q (.bl false) H3)
theorem zO1 {op op':CmpOp}{r r':R2}(ho:OpR X (compareOp op) r)(ho':OpR X (compareOp op') r')(ha:PE X a ta)(hb:PE X b tb)(hc:PE X c tc)
   (hm:lastMarks [op,op'] [b,c]=false:=by with_unfolding_all rfl):PE X (.Compare a [op,op'] [b,c] pos) (zIV r r' ta tb tc):=by
 intro pins s σ H Q I h
 refine Compare_chain (thn (ha pins s σ H _ I h) fun v s1 ⟨x,H1,I1,r1,q1⟩=>chain_link (thn (hb pins s1 σ H1 _ I1 q1) fun u s2 ⟨y,H2,I2,r2,q2⟩ =>
   thn (ho pins s2 σ H2 x y v u _ I2 r1 r2 q2) fun d s3 ⟨z,H3,I3,r3,k,e,q3⟩=>?_)) hm
 subst e
 cases r3
 refine Ti ?_
 cases k with
 | false=>exact ite_ff ⟨.bl false,H3,I3,rfl,q3⟩
 | true=>exact ite_tt (chain_last (thn (hc pins s3 σ H3 _ I3 q3) fun w' s4 ⟨z',H4,I4,r4,q4⟩=>ho' pins s4 σ H4 y z' u w' Q I4 r2 r4 q4))
theorem zZ8:(sizeLine:Nat) < 2^63:=by rw[Yv];decide
theorem zSh:OpR X (binaryOp .Add) (fun x y H Q=>∃i j,x = .str i/\y = .str j/\i.length+j.length<=sizeLine/\Q (.str (i++j)) H):=by
 intro pins s σ H x y v u Q I rx ry h
 obtain⟨i,j,rfl,rfl,hz,q⟩:=h
 obtain⟨t,rfl⟩:=rx
 obtain⟨t',rfl⟩:=ry
 exact add_str (fun t' tk=>⟨.str (i++j),H,I.tok _,⟨_,rfl⟩,q⟩) hz
theorem qJ {x:V}{us:List Value}(r:Vals [x] us):∃u,us=[u]/\RelV x u:=by
 cases r with
 | cons r1 r2=>cases r2;exact⟨_,rfl,r1⟩
theorem zT4 {x y:V}{us:List Value}(r:Vals [x,y] us):∃u w',us=[u,w']/\RelV x u/\RelV y w':=by
 cases r with
 | cons r1 r2 =>
   cases r2 with
   | cons r3 r4=>cases r4;exact⟨_,_,rfl,r1,r3⟩
theorem zPv (hc:X.calm=true):CallR X (.builtin "max") (fun xs H Q=>∃i j,xs=[.int i,.int j]/\Q (.int (if j > i then j else i)) H):=by
 intro pins s σ H xs us Q I r h
 obtain⟨i,j,rfl,q⟩:=h
 obtain⟨u,w',rfl,⟨t,rfl⟩,⟨t',rfl⟩⟩:=zT4 r
 refine max_two_ints (I.ok.hd hc) fun h' tk k=>⟨_,H,I.kept k,?_,q⟩
 by_cases hj:j > i
 · rw[Qb hj,Qb hj];exact⟨_,rfl⟩
 · rw[Ws hj,Ws hj];exact⟨_,rfl⟩
theorem zPU (hc:X.calm=true):CallR X (.builtin "min") (fun xs H Q=>∃i j,xs=[.int i,.int j]/\Q (.int (if j < i then j else i)) H):=by
 intro pins s σ H xs us Q I r h
 obtain⟨i,j,rfl,q⟩:=h
 obtain⟨u,w',rfl,⟨t,rfl⟩,⟨t',rfl⟩⟩:=zT4 r
 refine min_two_ints (I.ok.hd hc) fun h' tk k=>⟨_,H,I.kept k,?_,q⟩
 by_cases hj:j < i
 · rw[Qb hj,Qb hj];exact⟨_,rfl⟩
 · rw[Ws hj,Ws hj];exact⟨_,rfl⟩
theorem zPt:CallR X (.type "int") (fun xs H Q=>(∃i,xs=[.int i]/\Q (.int i) H)∨∃k,xs=[.bl k]/\Q (.int (if k then 1 else 0)) H):=by
 intro pins s σ H xs us Q I r h
 rcases h with⟨i,rfl,q⟩ | ⟨k,rfl,q⟩
 · obtain⟨u,rfl,t,rfl⟩:=qJ r
   exact call_int_int ⟨.int i,H,I,⟨_,rfl⟩,q⟩
 · obtain⟨u,rfl,r1⟩:=qJ r
   cases r1
   exact call_int_bool ⟨.int (if k then 1 else 0),H,I.tok _,⟨_,rfl⟩,q⟩
theorem aJ:CallR X (.type "str") (fun xs H Q=>∃i,xs=[.int i]/\i.natAbs.log2 < 1920/\Q (.str (toString i)) H):=by
 intro pins s σ H xs us Q I r h
 obtain⟨i,rfl,hz,q⟩:=h
 obtain⟨u,rfl,t,rfl⟩:=qJ r
 exact PySem.P.str_of_int hz ⟨.str _,H,I.tok _,⟨_,rfl⟩,q⟩
end
structure ObjM (h:Heap)(x dx C:Addr)(mA:Str->Option Value):Prop where
 obj:h.get? x=some (PySem.W.instObj C dx)
 ns:h.Ns1 dx mA
 ne:dx≠x
theorem zPq {h:Heap}{dx:Addr}{mA:Str->Option Value}(n:h.Ns1 dx mA):∃od,h.get? dx=some od/\∀name,PySem.W.lookIn name od=some (mA name):=by
 obtain⟨o,es,ep,ho,hd,hk,_,hm⟩:=n
 refine⟨o,ho,fun name=>?_⟩
 have e:=hm name
 unfold nsFind findBy at e
 rw[←Array.find?_toList] at e
 unfold PySem.W.lookIn
 rw[hd]
 dsimp only
 split
 · rename_i y q
   rw[q] at e
   exact Ea some e
 · rename_i q
   rw[q] at e
   have a:es.toList.any (·.refKey)=false:=by
     rw[List.any_eq_false]
     intro y hy
     obtain⟨z,t,hkey⟩:=hk y (Array.mem_toList_iff.mp hy)
     simp[DictEntry.refKey,hkey]
   have a':¬es.toList.any (·.refKey)=true:=by rw[a];exact Qj
   rw[Ws a']
   exact Ea some e
theorem ObjM.look {h:Heap}{x dx C:Addr}{mA:Str->Option Value}(I:ObjM h x dx C mA):∃od,PySem.W.InstAt h x (PySem.W.instObj C dx) C (some od)/\∀name,PySem.W.lookIn name od=some (mA name) :=
 let ⟨od,ho,hl⟩:=zPq I.ns
 ⟨od,⟨I.obj,rfl,rfl,ho⟩,hl⟩
section
variable {prog:Program} {w:World} {A:Around} {E:Value->Shared->Prop} {s:Shared} {K:PySem.W.Frag} {x dx C f:Addr} {mA:Str->Option Value} {name:Str} {v:Value}
theorem zKR {expr:Bool}{Q:Value->Shared->Prop}(X:K.In s.heap)(I:ObjM s.heap x dx C mA)(hg:PySem.W.plainGet K C name=true)(hh:PySem.W.hasDictIn K C=true)
   (ha:PySem.W.findIn K (.ref C) name=some none) (hv:mA name=some v) (hv':PySem.W.handedIn v=true) (h:Q v { s with toks:=s.toks+1 }) :
   wpAny (model prog w) A (getAttr (.ref x) name expr) Q E s:=by
 obtain⟨od,J,hl⟩:=I.look
 exact PySem.W.get_value X J (PySem.W.plainGet_of hg).1 (PySem.W.findObj_own hh ha rfl (by rw[hl,hv])) hv' h
theorem zLp {ns:List Str}{Q:Unit->Shared->Prop}(X:K.In s.heap)(I:ObjM s.heap x dx C mA)
   (hs:PySem.W.findIn K (.ref C) "__setattr__"=some (some (.builtin "object.__setattr__"))) (hp:PySem.W.plainOver K C=true) (ht:PySem.W.takerIn K C name=some none) (hh:PySem.W.hasDictIn K C=true)
   (hw:PySem.Within mA ns) (hsz:ns.length<=sizeLine)
   (h:∀h',ObjM h' x dx C (fun y=>if y=name then some v else mA y)->Heap.SameBut dx s.heap h'->Q () { s with heap:=h',toks:=s.toks+2 }) :
   wpAny (model prog w) A (setAttr (.ref x) name v) Q E s:=by
 obtain⟨od,J,hl⟩:=I.look
 refine PySem.W.set_plain X J hs (PySem.W.osa_open (s:={ s with toks:=s.toks+1 }) (r:=none) X J hp ht fun b=>?_)
 obtain⟨cd,hc,hd'⟩:=PySem.W.any_some hh
 have hx:s.heap.get? x=some ⟨.ref C,some dx,.plain,#[]⟩:=I.obj
 refine Qe (Qf (Qe (Qe (wpAny_loadPart hx (Qe (PySem.W.Looks.here (s:={ s with toks:=s.toks+1 }) (PySem.W.looks_clsIn X hc) ?_))))))
 rw[hd']
 refine Qf (a:=some dx) (Qe (Qf (Qe ?_)))
 refine wpAny_nsSet1 (s:={ s with toks:=s.toks+1 }) I.ns fun h' hn2 hs2=>?_
 obtain⟨oD,esD,epD,hoD,hdD,hcD⟩:=hn2.count (PySem.Within.cons name v hw)
 refine Qe (wpAny_lookBehind hoD (by rw[hdD];exact pastItsLine_dict (Ey hcD (by rw[Qo];omega))) ?_)
 exact Qf (h _ ⟨(hs2.2 _ (Ne.symm I.ne)).trans I.obj,hn2,I.ne⟩ hs2)
theorem zOv {R:Result->Shared->Prop}{vs:List Value}{kw:List (Str×Value)}(X:K.In s.heap)(hm:PySem.W.makesIn K C=true)
   (hi:PySem.W.findIn K (.ref C) "__init__"=some (some (.ref f))) (hf:PySem.W.typeIn K (.ref f)=some (.type "function"))
   (h:codeAny (model prog w) (A.under (.builtin "type.__call__" ⟨.ref C::vs,kw⟩)) (.call (.ref f) ⟨.ref (s.heap.objs.size+1)::vs,kw⟩) (PySem.W.InitBack (s.heap.objs.size+1) R)
     { s with heap:=(s.heap.push PySem.W.emptyDict).push (PySem.W.instObj C s.heap.objs.size) }) :
   codeAny (model prog w) A (.call (.ref C) ⟨vs,kw⟩) R s:=by
 obtain⟨hh,g,d,t,os⟩:=s
 exact PySem.W.make_core (PySem.W.makes_of X hm) (PySem.W.looks_findIn X hi) (fun self=>PySem.W.bind_fn X self hf) (.inl rfl) h
end
def iB (f:Str)(v:V):List (Str×V)->List (Str×V)
 | []=>[(f,v)]
 | (g,x)::r=>if g=f then(g,v)::r else(g,x)::iB f v r
theorem zZi (f g:Str)(v:V):∀fs:List (Str×V),(iB f v fs).lookup g=if g=f then some v else fs.lookup g
 | []=>by
   show List.lookup g [(f,v)]=_
   by_cases h:g=f
   · have hb:(g==f)=true:=Ul.mpr h
     simp only[List.lookup,hb,Qb h]
   · have hb:(g==f)=false:=Es.mpr h
     simp only[List.lookup,hb,Ws h]
 | (k,x)::r=>by
   have ih:=zZi f g v r
   rw[show iB f v ((k,x)::r)=(if k=f then(k,v)::r else(k,x)::iB f v r) from rfl]
   by_cases hk:k=f
   · rw[Qb hk]
     by_cases h:g=k
     · have hb:(g==k)=true:=Ul.mpr h
       simp only[List.lookup,hb,Qb (h.trans hk)]
     · have hb:(g==k)=false:=Es.mpr h
       simp only[List.lookup,hb,Ws (fun e:g=f=>h (e.trans hk.symm))]
   · rw[Ws hk]
     by_cases h:g=k
     · have hb:(g==k)=true:=Ul.mpr h
       simp only[List.lookup,hb,Ws (fun e:g=f=>hk (h.symm.trans e))]
     · have hb:(g==k)=false:=Es.mpr h
       simp only[List.lookup,hb]
       exact ih
theorem zZ4 (f:Str)(v:V):∀fs:List (Str×V),f∈(iB f v fs).map (·.1)/\∀g,g∈fs.map (·.1)->g∈(iB f v fs).map (·.1)
 | []=>⟨by simp[iB],fun g h=>by simp at h⟩
 | (k,x)::r=>by
   obtain⟨i1,i2⟩:=zZ4 f v r
   rw[show iB f v ((k,x)::r)=(if k=f then(k,v)::r else(k,x)::iB f v r) from rfl]
   by_cases hk:k=f
   · rw[Qb hk]
     subst hk
     exact⟨by simp,fun g h=>by simpa using h⟩
   · rw[Ws hk]
     refine⟨?_,fun g h=>?_⟩
     · rw[Qp]
       exact Qd _ i1
     · rw[Qp] at h ⊢
       rcases Qa.mp h with e | e
       · exact Qa.mpr (.inl e)
       · exact Qd _ (i2 g e)
theorem zZe (f:Str)(v:V):∀fs:List (Str×V),(iB f v fs).length<=fs.length+1
 | []=>by simp[iB]
 | (k,x)::r=>by
   have ih:=zZe f v r
   rw[show iB f v ((k,x)::r)=(if k=f then(k,v)::r else(k,x)::iB f v r) from rfl]
   by_cases hk:k=f
   · rw[Qb hk,Qo,Qo];omega
   · rw[Ws hk,Qo,Qo];omega
theorem RelO.some_of {v:V}{o:Option Value}(r:RelO (some v) o):∃u,o=some u/\RelV v u:=by
 cases o with
 | none=>exact(show False from r).elim
 | some u=>exact⟨u,rfl,r⟩
theorem zQb {v:V}{u:Value}(r:RelV v u):PySem.W.handedIn u=true:=by
 cases v with
 | non=>cases (show u=Value.none from r);rfl
 | bl b=>cases (show u=Value.bool b from r);rfl
 | int i=>obtain⟨t,e⟩:=(show ∃t,u=Value.int i t from r);cases e;rfl
 | str x=>obtain⟨t,e⟩:=(show ∃t,u=Value.str x t from r);cases e;rfl
 | byt b=>obtain⟨t,e⟩:=(show ∃t,u=Value.bytes b t from r);cases e;rfl
 | flt b=>obtain⟨t,e⟩:=(show ∃t,u=Value.float b t from r);cases e;rfl
 | ref a=>cases (show u=Value.ref a from r);rfl
 | ty n=>cases (show u=Value.type n from r);rfl
section
variable {P:Program} {w:World} {H:Hp} {h:Heap} {a C dx:Addr} {fs:List (Str×V)}
theorem zQV (hok:HOk P w H h)(e:H a=some (.ins C dx fs)):∃mA,ObjM h a dx C mA/\(∀f,RelO (fs.lookup f) (mA f))/\PySem.Within mA (fs.map (·.1))/\fs.length<=1000/\H dx=some (.own a):=by
 obtain⟨d,z,ne,ob,mA,n,r,q⟩:=(show ObjOk P w H h a (.ins C dx fs) from hok a _ e)
 exact⟨mA,⟨ob,n,ne⟩,r,q,z,d⟩
end
structure Cls (K:PySem.W.Frag)(C:Addr):Prop where
 pg:PySem.W.plainGet K C Str.empty=true
 hd:PySem.W.hasDictIn K C=true
 po:PySem.W.plainOver K C=true
 sa:PySem.W.findIn K (.ref C) "__setattr__"=some (some (.builtin "object.__setattr__"))
theorem Cls.get {K:PySem.W.Frag}{C:Addr}(c:Cls K C)(f:Str):PySem.W.plainGet K C f=true:=c.pg
def NoAttr (K:PySem.W.Frag)(C:Addr)(f:Str):Prop:=PySem.W.findIn K (.ref C) f=some none
theorem NoAttr.taker {K:PySem.W.Frag}{C:Addr}{f:Str}(n:NoAttr K C f):PySem.W.takerIn K C f=some none:=by
 unfold PySem.W.takerIn
 rw[show PySem.W.findIn K (.ref C) f=some none from n]
 rfl
structure Con (K:PySem.W.Frag)(C:Addr)(f:Str)(v:V)(u:Value):Prop where
 at_:PySem.W.findIn K (.ref C) f=some (some u)
 rel:RelV v u
 get:PySem.W.specialIn K u "__get__"=some none
 cp:PySem.W.copiedNames.contains f=false
structure Meth (K:PySem.W.Frag)(C:Addr)(m:Str)(f:Addr):Prop where
 at_:PySem.W.findIn K (.ref C) m=some (some (.ref f))
 fn:PySem.W.isFn K (.ref f)=true
 kp:PySem.W.keepIn K (.ref f)=true
section
variable {X:Cx} {pins:List (Addr×Obj)} {σ:St} {H:Hp} {s:Shared} {a C dx:Addr} {fs:List (Str×V)} {f:Str} {v:V} {A:Around} {E:Value->Shared->Prop}
theorem zSK {b:Bool}{Q:Value->Shared->Prop}(I:Inv X pins σ H s)(e:H a=some (.ins C dx fs))(c:Cls X.K C)(n:NoAttr X.K C f)(l:fs.lookup f=some v)
   (h:∀u s',Inv X pins σ H s'->RelV v u->Q u s'):wpAny (model X.prog X.w) A (getAttr (.ref a) f b) Q E s:=by
 obtain⟨mA,O,r,_,_,_⟩:=zQV I.hok e
 obtain⟨u,hu,ru⟩:=RelO.some_of (v:=v) (o:=mA f) (by rw[←l];exact r f)
 exact zKR I.kIn O (c.get f) c.hd n hu (zQb ru) (h u _ (I.tok _) ru)
theorem zSE {y:V}{u:Value}{Q:Unit->Shared->Prop}(I:Inv X pins σ H s)(e:H a=some (.ins C dx fs))(c:Cls X.K C)(n:NoAttr X.K C f)(hl:fs.length < 1000)(ry:RelV y u)
   (h:∀s',Inv X pins σ (upd H a (.ins C dx (iB f y fs))) s'->Q () s'):wpAny (model X.prog X.w) A (setAttr (.ref a) f u) Q E s:=by
 obtain⟨mA,O,r,wi,_,ho⟩:=zQV I.hok e
 have hz:(fs.map (·.1)).length<=sizeLine:=by rw[Qy,Yv];omega
 refine zLp I.kIn O c.sa c.po n.taker c.hd wi hz fun h' O' sb=>h _ ?_
 have hd:∃o,h'.get? dx=some o:=let ⟨o,_,_,e',_⟩:=O'.ns;⟨o,e'⟩
 refine I.write (x:=a) (e:=dx) (by rw[e];exact True.intro) (.inr ho) (fun b q hb z=>(sb.2 b hb).trans z) hd ?_
 refine⟨by rw[yI O.ne];exact ho,?_,O.ne,O'.obj,_,O'.ns,fun g=>?_,fun g hg=>?_⟩
 · have:=zZe f y fs;omega
 · show RelO ((iB f y fs).lookup g) (if g=f then some u else mA g)
   rw[zZi]
   by_cases q:g=f
   · rw[Qb q,Qb q];exact ry
   · rw[Ws q,Ws q];exact r g
 · by_cases q:g=f
   · rw[q];exact(zZ4 f y fs).1
   · refine(zZ4 f y fs).2 g (wi g fun z=>hg ?_)
     show(if g=f then some u else mA g)=none
     rw[Ws q];exact z
theorem Inv.made (I:Inv X pins σ H s):Inv X pins σ (upd (upd H s.heap.objs.size (.own (s.heap.objs.size+1))) (s.heap.objs.size+1) (.ins C s.heap.objs.size []))
   { s with heap:=(s.heap.push PySem.W.emptyDict).push (PySem.W.instObj C s.heap.objs.size) }:=by
 have e1:(s.heap.push PySem.W.emptyDict).get? s.heap.objs.size=some PySem.W.emptyDict:=Qk s.heap rfl
 have e2:((s.heap.push PySem.W.emptyDict).push (PySem.W.instObj C s.heap.objs.size)).get? (s.heap.objs.size+1)=some (PySem.W.instObj C s.heap.objs.size):=by
   have:=Qk (s.heap.push PySem.W.emptyDict) (o:=PySem.W.instObj C s.heap.objs.size) rfl
   rwa[Rx] at this
 have e3:(s.heap.push PySem.W.emptyDict).Ns s.heap.objs.size (fun _=>none):=⟨PySem.W.emptyDict,#[],_,e1,rfl,(fun e he=>absurd he (by simp)),fun _=>rfl⟩
 have I1:=I.laid (a:=s.heap.objs.size) (o:=.own (s.heap.objs.size+1)) (h':=s.heap.push PySem.W.emptyDict) (t':=s.toks) (fun b u q=>Qr _ q) (Ql _) ⟨_,e1⟩
 refine I1.laid (a:=s.heap.objs.size+1) (o:=.ins C s.heap.objs.size []) (t':=s.toks) (fun b u q=>Qr _ q) (Ua (Rx _ _)) ?_
 have ne:s.heap.objs.size≠s.heap.objs.size+1:=Wm (Im _)
 refine⟨by rw[yI ne,yX],Td _,ne,e2,fun _=>none,(Heap.Ns1.of_empty e3).at fun o q=>Qr _ q,fun _=>True.intro,fun y hy=>absurd rfl hy⟩
theorem zLD {prog:Program}{w:World}{env:Env}{e:Expr}{f:Str}{pos:Pos}{s:Shared}{Q:Value->Shared->Prop}(hb:attributeBase e f env (eval e env)=eval e env)
   (h:wpAny (model prog w) A (eval e env) (fun o s₁=>wpAny (model prog w) A (getAttr o f true) Q E s₁) E s):wpAny (model prog w) A (eval (.Attribute e f pos) env) Q E s :=
 Attribute_any_ h (by rw[arm_eval_Attribute,hb])
end
def zHe (K:PySem.W.Frag)(ta:TE)(f:Str):TE:=fun σ H Q=>ta σ H fun x H1=>∃a C dx fs v,x = .ref a/\H1 a=some (.ins C dx fs)/\Cls K C/\NoAttr K C f/\fs.lookup f=some v/\Q v H1
def zHf (K:PySem.W.Frag)(ta tv:TE)(f:Str):TS:=fun D σ H=>tv σ H fun y H1=>ta σ H1 fun x H2=>∃a C dx fs,x = .ref a/\H2 a=some (.ins C dx fs)/\Cls K C/\NoAttr K C f/\fs.length < 1000 /\
 D.nx σ (upd H2 a (.ins C dx (iB f y fs)))
section
variable {X:Cx} {o e value:Expr} {f:Str} {pos pos':Pos} {ta tv:TE}
theorem zJt (he:PE X e ta)(hb:attributeBase e f X.env (eval e X.env)=eval e X.env):PE X (.Attribute e f pos) (zHe X.K ta f):=by
 intro pins s σ H Q I h
 refine zLD hb (thn (he pins s σ H _ I h) fun u s1 ⟨x,H1,I1,rx,a,C,dx,fs,v,ex,ea,c,n,l,q⟩=>?_)
 subst ex
 obtain rfl:u=Value.ref a:=rx
 exact zSK I1 ea c n l fun u' s2 I2 ru=>⟨v,H1,I2,ru,q⟩
theorem zJJ (ha:PE X o ta)(hv:PE X value tv)(hs:swapsWith value (some (.Attribute o f pos')) pos.line X.env=pure false):PS X (.Assign [.Attribute o f pos'] value pos) (zHf X.K ta tv f):=by
 intro pins s σ H D I h
 refine plainObj_wpAny_Assign_Attribute (thn (hv pins s σ H _ I h) fun u s1 ⟨y,H1,I1,ry,q⟩=>thn (ha pins s1 σ H1 _ I1 q) fun ov s2 ⟨x,H2,I2,rx,a,C,dx,fs,ex,ea,c,n,l,q2⟩=>?_) hs
 subst ex
 obtain rfl:ov=Value.ref a:=rx
 exact zSE I2 ea c n l ry fun s3 I3=>⟨σ,_,I3,q2⟩
variable {H:Hp}
inductive TyOf (K:PySem.W.Frag)(H:Hp):V->Value->Prop where
 | non:TyOf K H .non (.type "NoneType")
 | bl (x:Bool):TyOf K H (.bl x) (.type "bool")
 | int (i:Int):TyOf K H (.int i) (.type "int")
 | str (x:Str):TyOf K H (.str x) (.type "str")
 | flt (x:UInt64):TyOf K H (.flt x) (.type "float")
 | lst {a:Addr} {xs:List V} (e:H a=some (.lst xs)):TyOf K H (.ref a) (.type "list")
 | frz {a:Addr} {o:Obj} {xs:List V} (e:H a=some (.frz o (.lst xs))):TyOf K H (.ref a) (.type "list")
 | tup {a:Addr} {xs:List V} (e:H a=some (.tup xs)):TyOf K H (.ref a) (.type "tuple")
 | dK {a:Addr} {kvs:List (Key×V)} (e:H a=some (.dK kvs)):TyOf K H (.ref a) (.type "dict")
 | dT {a:Addr} {kvs:List (List Key×V)} (e:H a=some (.dT kvs)):TyOf K H (.ref a) (.type "dict")
 | ins {a C dx:Addr} {fs:List (Str×V)} (e:H a=some (.ins C dx fs)) (cl:Cls K C) (ha:PySem.W.findIn K (.ref C) "__class__"=some (some (.builtin "object.__class__")))
     (hn:PySem.W.specialIn K (.builtin "object.__class__") "__get__"=some (some (.builtin "getset_descriptor.__get__"))) (htk:PySem.W.takesIn K (.builtin "object.__class__")=some true)
     (hm:PySem.W.mroIn K C (.type "object")=some true):TyOf K H (.ref a) (.ref C)
end
structure Room (k:Nat)(A:Around):Prop where
 hd:A.handled=none
 dp:A.depth+3*k+5 < recursionLimit
 un:A.units+16*k+200 < cLine
theorem Room.mono {j k:Nat}{A:Around}(r:Room k A)(h:j<=k):Room j A:=⟨r.hd,by have:=r.dp;omega,by have:=r.un;omega⟩
theorem Room.deeper {k:Nat}{A:Around}(r:Room (k+1) A)(env:Env):Room k (A.deeper env) :=
 ⟨r.hd,by have:=r.dp;show A.depth+1+3*k+5 < _;omega,by have:=r.un;show A.units+3+16*k+200 < _;omega⟩
theorem zSz {A:Around}{C:Addr}{us:List Value}{kw:List (Str×Value)}:(A.under (.builtin "type.__call__" ⟨.ref C::us,kw⟩)).depth=A.depth+1:=by
 first | rfl | simp[Around.under,Code.weight,Code.isCreation,Code.isGuard,Code.isCaller,Code.frames,Code.isFrame,guardIds]
theorem zR9 {A:Around}{C:Addr}{us:List Value}{kw:List (Str×Value)}:(A.under (.builtin "type.__call__" ⟨.ref C::us,kw⟩)).units=A.units+1:=by
 first | rfl | simp[Around.under,Code.cUnits,Code.frames,Code.isFrame]
theorem Room.make {k:Nat}{A:Around}(r:Room (k+1) A)(C:Addr)(us:List Value)(kw:List (Str×Value)):Room k (A.under (.builtin "type.__call__" ⟨.ref C::us,kw⟩)) :=
 ⟨r.hd,by have:=r.dp;rw[zSz];omega,by have:=r.un;rw[zR9];omega⟩
theorem Room.depth {k:Nat}{A:Around}(r:Room k A):A.depth < recursionLimit:=by have:=r.dp;omega
theorem Room.units {k:Nat}{A:Around}(r:Room k A):A.units+64 < cLine:=by have:=r.un;omega
theorem Room.units0 {k:Nat}{A:Around}(r:Room k A):A.units < cLine:=by have:=r.un;omega
def zSb:TA:=fun _ H Q=>Q [] H
def zY7 (ta:TE)(tr:TA):TA:=fun σ H Q=>ta σ H fun x H1=>tr σ H1 fun xs H2=>Q (x::xs) H2
section
variable {X:Cx} {e:Expr} {es:List Expr} {te:TE} {t:TA} {pos:Pos}
theorem yK:PA X [] zSb:=fun _ _ _ _ H Q I h=>Ij ⟨[],H,I,.nil,h⟩
theorem yY (ha:PE X e te)(hr:PA X es t)(hs:starEach (e::es) X.env=(false,eval e X.env)::starEach es X.env:=by rfl):PA X (e::es) (zY7 te t):=by
 intro pos pins s σ H Q I h
 rw[hs]
 show wpAny _ _ (spliced ((false,eval e X.env)::backTo pos (starEach es X.env))) _ _ s
 refine Iy (thn (ha pins s σ H _ I h) fun u s1 ⟨x,H1,I1,r1,q1⟩=>?_)
 exact thn (hr pos pins s1 σ H1 _ I1 q1) fun us s2 ⟨xs,H2,I2,r2,q2⟩=>⟨x::xs,H2,I2,.cons r1 r2,q2⟩
def zHk (t:TA):TE:=fun σ H Q=>t σ H fun xs H1=>xs.length<=sizeLine/\∀p,H1 p=none->Q (.ref p) (upd H1 p (.tup xs))
def zHv (t:TA):TE:=fun σ H Q=>t σ H fun xs H1=>xs.length<=sizeLine/\∀p,H1 p=none->Q (.ref p) (upd H1 p (.lst xs))
theorem zKk {x1}(h:PA X es t):PE X (.Tuple es x1 pos) (zHk t):=by
 intro pins s σ H Q I hq
 refine wpAny_Tuple_spliced (thn (h pos pins s σ H _ I hq) fun us s1 ⟨xs,H1,I1,r,z,q⟩=>⟨by rw[←r.length];exact z,?_⟩)
 have hf:H1 s1.heap.objs.size=none:=I1.hok.fresh (Ql _)
 refine⟨.ref s1.heap.objs.size,upd H1 s1.heap.objs.size (.tup xs),I1.laid (t':=s1.toks) (fun b u e=>Qr _ e) (Ql _) ?_,rfl,q _ hf⟩
 exact⟨z,us,r,⟨_,Qk _ rfl,rfl,_,rfl⟩⟩
theorem zMN (h:PA X es t):PE X (.List es pos) (zHv t):=by
 intro pins s σ H Q I hq
 refine wpAny_List_spliced (thn (h pos pins s σ H _ I hq) fun us s1 ⟨xs,H1,I1,r,z,q⟩=>⟨by rw[←r.length];exact z,?_⟩)
 have hf:H1 s1.heap.objs.size=none:=I1.hok.fresh (Ql _)
 refine⟨.ref s1.heap.objs.size,upd H1 s1.heap.objs.size (.lst xs),I1.laid (t':=s1.toks) (fun b u e=>Qr _ e) (Ql _) ?_,rfl,q _ hf⟩
 exact⟨z,us,0,r,Qk _ rfl⟩
end
abbrev Sp:=List V->Hp->VK->XK->Prop
abbrev CXT:=List Env->Hp->Shared->XK->Value->Shared->Prop
structure Env0 (P:Program)(w:World)(K:PySem.W.Frag)(mg:Str->Option Value)(base:Heap)(A:Around)(outer:List Env)(s:Shared)(H:Hp):Prop where
 frames:A.frames=some outer
 mod:Mod K mg base
 bs:∀b o,base.get? b=some o->s.heap.get? b=some o/\H b=none
 bsz:base.objs.size<=s.heap.objs.size
 funs:s.heap.FunFrames base outer
 frf:∀b∈frs outer,H b=none
 hok:HOk P w H s.heap
 bare:AllBare s.gens
def CE (outer:List Env)(P:Program)(w:World)(H:Hp)(s:Shared)(Q:VK)(u:Value)(s':Shared):Prop :=
 ∃v H',s'.os=s.os/\AllBare s'.gens/\Un (frs outer) [] H H' s.heap s'.heap/\HOk P w H' s'.heap/\RelV v u/\Q v H'
def CR (CX:CXT)(outer:List Env)(P:Program)(w:World)(H:Hp)(s:Shared)(Q:VK)(E:XK)(r:Result)(s':Shared):Prop :=
 match r with
 | .ok (.ret u)=>CE outer P w H s Q u s'
 | .ok _=>False
 | .error e=>CX outer H s E e s'
structure FnOk (P:Program)(w:World)(K:PySem.W.Frag)(mg:Str->Option Value)(base:Heap)(CX:CXT)(k:Nat)(f:Addr)(fd:FuncData)(ps:List Str)(sp:Sp):Prop where
 len:∀vs H Q E,sp vs H Q E->vs.length=ps.length
 run:∀(A:Around) (outer:List Env) (s:Shared) (H:Hp) (args:Args) (us:List Value) (vs:List V) (Q:VK) (E:XK),Room k A->Env0 P w K mg base A outer s H->BindsTo s fd args (ps.zip us)->Vals vs us->sp vs H Q E ->
   codeAny (model P w) A (.call (.ref f) args) (CR CX outer P w H s Q E) s
theorem Env0.make {P:Program}{w:World}{K:PySem.W.Frag}{mg:Str->Option Value}{base:Heap}{A:Around}{outer:List Env}{s:Shared}{H:Hp}(e:Env0 P w K mg base A outer s H)(C:Addr)(us:List Value)(kw:List (Str×Value)) :
   Env0 P w K mg base (A.under (.builtin "type.__call__" ⟨.ref C::us,kw⟩)) outer s H:=⟨by first | exact e.frames | (simpa [Around.under,Code.envs,Code.isFrame,pushEnvs] using e.frames),e.mod,e.bs,e.bsz,e.funs,e.frf,e.hok,e.bare⟩
section
variable {X:Cx} {pins:List (Addr×Obj)} {σ:St} {H:Hp} {s s':Shared}
theorem Inv.env0 (I:Inv X pins σ H s):Env0 X.prog X.w X.K X.mg X.base X.A X.stack s H :=
 ⟨I.ok.frames,I.ok.mod,I.bs,Ey I.ok.bsz I.sz,I.stack,I.stkFree,I.hok,I.bare⟩
theorem Inv.after {Q:VK}{u:Value}(I:Inv X pins σ H s)(h:CE X.stack X.prog X.w H s Q u s'):EP X pins σ Q u s':=by
 obtain⟨v,H',os,bare,un,hok,r,q⟩:=h
 obtain⟨hh,g,d,t,os'⟩:=s'
 obtain rfl:os'=s.os:=os
 exact⟨v,H',I.call (h':=hh) (g':=g) (d':=d) (t':=t) (ch:=[]) un hok bare (fun b z=>absurd z (by simp)),r,q⟩
end
def zI8 (sp:Sp)(dvs:List V)(E:XK)(t:TA):TE:=fun σ H Q=>t σ H fun vs H1=>sp (vs++dvs) H1 Q E
def zH3 (C:Addr)(sp:Sp)(dvs:List V)(E:XK)(t:TA):TE:=fun σ H Q=>t σ H fun vs H1=>∀x dx,H1 x=none->H1 dx=none->dx≠x ->
 sp (.ref x::(vs++dvs)) (upd (upd H1 dx (.own x)) x (.ins C dx [])) (fun v H2=>v = .non/\Q (.ref x) H2) E
def Binds (K:PySem.W.Frag)(fd:FuncData)(ps:List Str)(ds:List Value):Prop :=
 ∀(s:Shared) (us:List Value),K.In s.heap->(us++ds).length=ps.length->BindsTo s fd ⟨us,[]⟩ (ps.zip (us++ds))
theorem Binds.all {K:PySem.W.Frag}{fd:FuncData}{ps:List Str}(h:∀us:List Value,us.length=ps.length->bindArgs fd ⟨us,[]⟩=pure (ps.zip us)):Binds K fd ps []:=fun s us _ hl=>by
 rw[Er] at hl ⊢
 exact .of_eq (h us hl)
def zYs (CX:CXT)(X:Cx)(E:XK):Prop:=∀(pins:List (Addr×Obj)) (σ:St) (H:Hp) (s:Shared) (e:Value) (s':Shared),Inv X pins σ H s->CX X.stack H s E e s'->X.xe e s'
section
variable {X:Cx} {CX:CXT} {k:Nat} {f C:Addr} {fd:FuncData} {ps:List Str} {sp:Sp} {dvs:List V} {ds:List Value} {E:XK} {x:Str} {p pos:Pos} {e:Expr} {es:List Expr} {t:TA}
theorem zJd {pins:List (Addr×Obj)}{σ:St}{H:Hp}{s:Shared}{Q:VK}{us:List Value}{vs:List V}(F:FnOk X.prog X.w X.K X.mg X.base CX k f fd ps sp)(hr:Room k X.A)(hb:Binds X.K fd ps ds)(hd:Vals dvs ds)(hx:zYs CX X E)
   (I:Inv X pins σ H s) (r:Vals vs us) (h:sp (vs++dvs) H Q E):wpAny (model X.prog X.w) X.A (call (.ref f) us) (EP X pins σ Q) X.xe s:=by
 have r2:Vals (vs++dvs) (us++ds):=r.append hd
 have hl:(us++ds).length=ps.length:=by rw[←r2.length];exact F.len _ _ _ _ h
 refine wpAny_call (Ix (F.run X.A X.stack s H ⟨us,[]⟩ (us++ds) (vs++dvs) Q E hr I.env0 (hb s us I.kIn hl) r2 h) fun r s' hq=>?_)
 cases r with
 | error e=>exact hx pins σ H s e s' I hq
 | ok fl =>
   cases fl with
   | ret u=>exact I.after hq
   | next=>exact False.elim hq
   | brk=>exact False.elim hq
   | cont=>exact False.elim hq
theorem zUS (F:FnOk X.prog X.w X.K X.mg X.base CX k f fd ps sp)(hr:Room k X.A)(hg:Gl X x)(hm:X.mg x=some (.ref f))(hk:PySem.W.keepIn X.K (.ref f)=true)(hb:Binds X.K fd ps ds)(hd:Vals dvs ds)(hx:zYs CX X E)
   (ha:PA X (e::es) t) (hdb:(x==("__debug__":Str))=false:=by decide) (he:starEach (e::es) X.env=(false,eval e X.env)::starEach es X.env:=by rfl) (hpl:(backTo pos (starEach es X.env)).any (·.1)=false:=by rfl) :
   PE X (.Call (.Name x p) (e::es) [] pos) (zI8 sp dvs E t):=by
 intro pins s σ H Q I h
 refine Tg (zVq I hg hm ?_ hdb)
 refine PySem.W.callWith_K (h₀:=X.base) I.ok.mod.kin hk (thn (ha pos pins s σ H _ I h) fun us s1 ⟨vs,H1,I1,r,q⟩=>⟨I1.kIn,?_⟩) he hpl
 exact zJd F hr hb hd hx I1 r q
structure Mk (K:PySem.W.Frag)(C f:Addr):Prop where
 makes:PySem.W.makesIn K C=true
 init:PySem.W.findIn K (.ref C) "__init__"=some (some (.ref f))
 fn:PySem.W.isFn K (.ref f)=true
 kp:PySem.W.keepIn K (.ref C)=true
theorem zO7 {pins:List (Addr×Obj)}{σ:St}{H:Hp}{s:Shared}{Q:VK}{us:List Value}{vs:List V}(M:Mk X.K C f)(F:FnOk X.prog X.w X.K X.mg X.base CX k f fd ps sp)(hr:Room (k+1) X.A)(hb:Binds X.K fd ps ds)(hd:Vals dvs ds)
   (hx:zYs CX X E) (I:Inv X pins σ H s) (r:Vals vs us)
   (h:∀x dx,H x=none->H dx=none->dx≠x->sp (.ref x::(vs++dvs)) (upd (upd H dx (.own x)) x (.ins C dx [])) (fun v H2=>v = .non/\Q (.ref x) H2) E) :
   wpAny (model X.prog X.w) X.A (call (.ref C) us) (EP X pins σ Q) X.xe s:=by
 have hq:=h (s.heap.objs.size+1) s.heap.objs.size (I.hok.fresh (Yo _)) (I.hok.fresh (Ql _)) (Wm (Im _))
 have I2:=Inv.made (C:=C) I
 have r2:Vals (V.ref (s.heap.objs.size+1)::(vs++dvs)) (Value.ref (s.heap.objs.size+1)::(us++ds)):=.cons rfl (r.append hd)
 have hl:(Value.ref (s.heap.objs.size+1)::us++ds).length=ps.length:=by
   have e:=r2.length
   rw[F.len _ _ _ _ hq] at e
   exact e.symm
 refine wpAny_call (zOv (f:=f) I.kIn M.makes M.init (Ul.mp M.fn) (Ix (F.run _ X.stack _ _ ⟨Value.ref (s.heap.objs.size+1)::us,[]⟩ (Value.ref (s.heap.objs.size+1)::(us++ds)) _ _ E (hr.make C us [])
   (I2.env0.make C us []) (hb _ (Value.ref (s.heap.objs.size+1)::us) I2.kIn hl) r2 hq) fun r s' hq'=>?_))
 cases r with
 | error e=>exact hx pins σ _ _ e s' I2 hq'
 | ok fl =>
   cases fl with
   | ret u =>
     obtain⟨v,H',I3,rv,ev,q3⟩:=I2.after hq'
     subst ev
     exact⟨rv,⟨V.ref (s.heap.objs.size+1),H',I3,rfl,q3⟩⟩
   | next=>exact False.elim hq'
   | brk=>exact False.elim hq'
   | cont=>exact False.elim hq'
theorem zL0 (M:Mk X.K C f)(F:FnOk X.prog X.w X.K X.mg X.base CX k f fd ps sp)(hr:Room (k+1) X.A)(hg:Gl X x)(hm:X.mg x=some (.ref C))(hb:Binds X.K fd ps ds)(hd:Vals dvs ds)(hx:zYs CX X E)
   (ha:PA X (e::es) t) (hdb:(x==("__debug__":Str))=false:=by decide) (he:starEach (e::es) X.env=(false,eval e X.env)::starEach es X.env:=by rfl) (hpl:(backTo pos (starEach es X.env)).any (·.1)=false:=by rfl) :
   PE X (.Call (.Name x p) (e::es) [] pos) (zH3 C sp dvs E t):=by
 intro pins s σ H Q I h
 refine Tg (zVq I hg hm ?_ hdb)
 refine PySem.W.callWith_K (h₀:=X.base) I.ok.mod.kin M.kp (thn (ha pos pins s σ H _ I h) fun us s1 ⟨vs,H1,I1,r,q⟩=>⟨I1.kIn,?_⟩) he hpl
 exact zO7 M F hr hb hd hx I1 r q
variable {ks:List Str}
structure KBinds (K:PySem.W.Frag)(fd:FuncData)(ps ks:List Str)(g:List Value->List Value->List Value)(gV:List V->List V->List V):Prop where
 to:∀(s:Shared) (us ws:List Value),K.In s.heap->(g us ws).length=ps.length->BindsTo s fd ⟨us,ks.zip ws⟩ (ps.zip (g us ws))
 rel:∀ {vs:List V} {us:List Value} {zs:List V} {ws:List Value},Vals vs us->Vals zs ws->Vals (gV vs zs) (g us ws)
variable {g:List Value->List Value->List Value} {gV:List V->List V->List V}
end
structure FnScope (N P:List Str)(sc:Scope):Prop where
 kind:sc.kind = .function
 co:sc.isCoroutine=false
 gen:sc.isGenerator=false
 nd:N.Nodup
 pre:N.take P.length=P
 par:∀x∈P,sc.names.lookup x=some .local∨sc.names.lookup x=some .cell
 nofree:∀y∈sc.names,y.2 ≠ .free
theorem zWD {kindOf:Str->Option NameKind}{x:Str}:∀ {binds:List (Str×Value)} {m:Str->Option Value},(∀v,(x,v)∉binds)->bindL kindOf binds m x=m x
 | [],_,_=>rfl
 | (n,v)::r,m,h=>by
   unfold bindL
   rw[zWD fun w hw=>h w (Qd _ hw)]
   split
   · have:x≠n:=by rintro rfl;exact h v Qh
     simp[this]
   · rfl
theorem zWF {kindOf:Str->Option NameKind}{x:Str}:∀ {binds:List (Str×Value)} {m:Str->Option Value},(∀v,(x,v)∉binds)->bindC kindOf binds m x=m x
 | [],_,_=>rfl
 | (n,v)::r,m,h=>by
   unfold bindC
   rw[zWF fun w hw=>h w (Qd _ hw)]
   split
   · rfl
   · have:x≠n:=by rintro rfl;exact h v Qh
     simp[this]
theorem zWy {kindOf:Str->Option NameKind}{x:Str}{v:Value}:∀ {P:List Str} {vs:List Value} {i:Nat} {m:Str->Option Value},P.Nodup->P[i]?=some x->vs[i]?=some v->kindOf x=some .local ->
   bindL kindOf (P.zip vs) m x=some v
 | [],_,_,_,_,h,_,_=>by simp at h
 | _::_,[],_,_,_,_,h,_=>by simp at h
 | p::P,w::vs,0,m,nd,h1,h2,hk=>by
   simp at h1 h2;subst h1;subst h2
   show bindL kindOf ((p,w)::P.zip vs) m p=_
   unfold bindL
   rw[zWD fun v hv=>(Yp.mp nd).1 (Oo hv).1,Qb hk]
   simp
 | p::P,w::vs,i+1,m,nd,h1,h2,hk=>by
   show bindL kindOf ((p,w)::P.zip vs) m x=_
   unfold bindL
   exact zWy (i:=i) (Yp.mp nd).2 (by simpa using h1) (by simpa using h2) hk
theorem zWk {kindOf:Str->Option NameKind}{x:Str}{v:Value}:∀ {P:List Str} {vs:List Value} {i:Nat} {m:Str->Option Value},P.Nodup->P[i]?=some x->vs[i]?=some v->kindOf x≠some .local ->
   bindC kindOf (P.zip vs) m x=some v
 | [],_,_,_,_,h,_,_=>by simp at h
 | _::_,[],_,_,_,_,h,_=>by simp at h
 | p::P,w::vs,0,m,nd,h1,h2,hk=>by
   simp at h1 h2;subst h1;subst h2
   show bindC kindOf ((p,w)::P.zip vs) m p=_
   unfold bindC
   rw[zWF fun v hv=>(Yp.mp nd).1 (Oo hv).1,Ws hk]
   simp
 | p::P,w::vs,i+1,m,nd,h1,h2,hk=>by
   show bindC kindOf ((p,w)::P.zip vs) m x=_
   unfold bindC
   exact zWk (i:=i) (Yp.mp nd).2 (by simpa using h1) (by simpa using h2) hk
def iM (N:List Str)(vs:List V):St:=vs.map some++List.replicate (N.length - vs.length) none
def zXs (CX:CXT)(P:Program)(w:World)(K:PySem.W.Frag)(mg:Str->Option Value)(base:Heap)(N:List Str)(qual:Str)(scope:Scope)(f:Addr)(cd:Value)(A:Around)(outer:List Env)(s:Shared)(H:Hp)(E:XK):Cx where
 prog:=P
 w:=w
 K:=K
 mg:=mg
 base:=base
 A:=A.deeper (envOfC qual scope s.heap.objs.size f cd)
 N:=N
 s₀:=s
 H₀:=H
 env:=envOfC qual scope s.heap.objs.size f cd
 outer:=outer
 stack:=envOfC qual scope s.heap.objs.size f cd::outer
 ex:=[]
 calm:=true
 fn:=fun _=>true
 pn:=[]
 xe:=fun e s'=>wpAny (model P w) (A.deeper (envOfC qual scope s.heap.objs.size f cd)) (leaving (envOfC qual scope s.heap.objs.size f cd) e) (fun _ s''=>CX outer H s E e s'') (fun e' s''=>CX outer H s E e' s'') s'
theorem zUk {sc:Scope}{n:Nat}{x:Str}(h:sc.names.lookup x=some .cell):∃c,(cellsFrom n sc.names []).lookup x=some c:=by
 have q:=PySem.W.cellsFrom_some sc.names n [] (.inl h)
 exact Ec.mp q
theorem zQw {CX:CXT}{P:Program}{w:World}{K:PySem.W.Frag}{mg:Str->Option Value}{base:Heap}{N ps:List Str}{qual:Str}{scope:Scope}{f:Addr}{cd:Value}{A:Around}{outer:List Env}{s s1:Shared}{H:Hp}{E:XK}{us:List Value}{vs:List V}
   (S:FnScope N ps scope) (hd:A.handled=none) (e0:Env0 P w K mg base A outer s H) (hl:vs.length=ps.length) (r:Vals vs us)
   (x:InCallC s s.heap.objs.size (bindL (envOfC qual scope s.heap.objs.size f cd).kindOf (ps.zip us) fun _=>none) (cellsFrom (s.heap.objs.size+1) scope.names []) (bindC (envOfC qual scope s.heap.objs.size f cd).kindOf (ps.zip us) fun _=>none) s1) :
   Inv (zXs CX P w K mg base N qual scope f cd A outer s H E) [] (iM N vs) H s1:=by
 have hpl:ps.length<=N.length:=by have:=Ea List.length S.pre;rw[Yw] at this;omega
 obtain⟨h1,tk,rfl,hk⟩:=x.done
 have noA:∀b:Addr,b∉(zXs CX P w K mg base N qual scope f cd A outer s H E).ex:=fun b z=>absurd (show b∈([]:List Addr) from z) (by simp)
 refine⟨⟨e0.mod,S.kind,rfl,rfl,Ql _,fun y z c h1 h2=>?_,fun y hy=>?_,fun y c _ h=>?_,fun _=>hd,Around.frames_deeper e0.frames,.inr ⟨rfl,rfl⟩,fun b z=>absurd z (noA b),e0.bs,e0.bsz,fun b _ _=>noA b,fun b z=>absurd z (noA b),e0.funs,e0.frf⟩,
   rfl,e0.bare,Un.kept hk,⟨_,x.toInCall.ns,fun i y v h1 h2 h3=>?_⟩,fun y c h=>⟨_,x.cell y c h⟩,e0.hok.fresh (Ql _),fun y c h=>?_,fun p hp=>absurd (show p∈([]:List (Addr×Obj)) from hp) (by simp),e0.hok.kept hk,?_⟩
 · exact name_of_addr x.apart (Em h1) (Em h2)
 · have hy:scope.names.lookup y=some .cell∨scope.names.lookup y=some .free:=hy
   rcases hy with hy | hy
   · exact zUk hy
   · exact absurd rfl (S.nofree _ (Em hy))
 · exact Wx (x.above y c (Em h))
 · have hi:i < vs.length:=by
     unfold iM at h2
     by_cases hi:i < vs.length
     · exact hi
     · rw[Wc (by simpa using hi)] at h2
       rw[Ri] at h2
       split at h2<;>cases h2
   have ha:vs[i]?=some v:=by
     unfold iM at h2
     rw[Ej (by simpa using hi),Wp] at h2
     cases e:vs[i]? with
     | none=>rw[e] at h2;cases h2
     | some a=>rw[e] at h2;cases h2;rfl
   obtain⟨u,hu,rv⟩:=r.get ha
   have hp:ps[i]?=some y:=by
     rw[←S.pre,List.getElem?_take_of_lt (by omega)];exact h1
   have ndP:ps.Nodup:=by rw[←S.pre];exact S.nd.sublist (List.take_sublist _ _)
   refine⟨u,rv,?_⟩
   rcases S.par y (Ye hp) with k | k
   · exact .inl ⟨k,zWy ndP hp hu k⟩
   · obtain⟨c,e⟩:=zUk (n:=s.heap.objs.size+1) k
     refine .inr ⟨.inl k,c,e,?_⟩
     have q:=x.cell y c e
     rw[zWk ndP hp hu (by show scope.names.lookup y≠_;rw[k];decide)] at q
     exact q
 · exact e0.hok.fresh (Wx (x.above y c (Em h)))
 · unfold iM
   show _=N.length
   rw[Wq,Qy,Ev]
   omega
theorem zK3 {CX:CXT}{P:Program}{w:World}{K:PySem.W.Frag}{mg:Str->Option Value}{base:Heap}{k:Nat}{f:Addr}{name qual:Str}{params:Arguments}{body:List Stmt}{scope:Scope}{dV kV doc pm cdv ct oc:Value}{an od:Option Addr}
   {osl:Array (Option Value)} {N ps:List Str} {sp:Sp} (lk:K.lookup f=some ⟨oc,od,.func (PySem.W.fnOf name qual params body scope dV kV doc pm an cdv ct),osl⟩) (hcd:PySem.W.codeIn K cdv qual=true) (S:FnScope N ps scope)
   (len:∀vs H Q E,sp vs H Q E->vs.length=ps.length)
   (hbody:∀(A:Around) (outer:List Env) (s:Shared) (H:Hp) (vs:List V) (Q:VK) (E:XK),Room k (A.deeper (envOfC qual scope s.heap.objs.size f cdv))->sp vs H Q E ->
     ∃t,PSs (zXs CX P w K mg base N qual scope f cdv A outer s H E) body t/\t { nx:=fun _ H'=>Q .non H',rt:=Q } (iM N vs) H) :
   FnOk P w K mg base CX (k+1) f (PySem.W.fnOf name qual params body scope dV kV doc pm an cdv ct) ps sp:=by
 refine⟨len,fun A outer s H args us vs Q E hr e0 hb r hsp=>?_⟩
 have hl:=len _ _ _ _ hsp
 have KX:K.In s.heap:=e0.mod.kin.keeps fun b o e=>(e0.bs b o e).1
 have lim:s.heap.NoLimit:=e0.mod.nolimit.keeps fun b o e=>(e0.bs b o e).1
 have hkind:∀y∈ps.zip us,scope.names.lookup y.1=some .local∨(scope.names.lookup y.1=some .cell/\((cellsFrom (s.heap.objs.size+1) scope.names []).lookup y.1).isSome=true):=fun⟨n,v⟩ hy=>by
   rcases S.par n (Oo hy).1 with q | q
   · exact .inl q
   · exact .inr ⟨q,PySem.W.cellsFrom_some _ _ _ (.inl q)⟩
 refine codeAny_call_function hr.depth (KX _ _ lk) rfl S.co S.gen rfl (PySem.W.codeRec_of KX hcd) (hb _ _ _ _ ?_)
 refine wpAny_newFunctionEnv_cells S.kind hkind fun env he s1 x=>?_
 subst he
 refine⟨lim.keeps x.toInCall.keep,codeAny_func ?_⟩
 obtain⟨t,ht,hq⟩:=hbody A outer s H vs Q E (hr.deeper _) hsp
 have I:Inv (zXs CX P w K mg base N qual scope f cdv A outer s H E) [] (iM N vs) H s1:=zQw S hr.hd e0 hl r x
 refine Ih (ht [] s1 (iM N vs) H _ I hq) (fun fl s' hs=>?_) fun e s' hs=>hs
 have fin:∀ {σ':St} {H':Hp} {v:V} {u:Value},Inv (zXs CX P w K mg base N qual scope f cdv A outer s H E) [] σ' H' s'->RelV v u->Q v H'->CE outer P w H s Q u s' :=
   fun {σ' H' v u} J rv q=>⟨v,H',J.os,J.bare,J.base,J.hok,rv,q⟩
 cases fl with
 | ret u =>
   obtain⟨v,σ',H',J,rv,q⟩:=hs
   exact fin J rv q
 | next =>
   obtain⟨σ',H',J,q⟩:=hs
   exact fin (v:=V.non) (u:=Value.none) J rfl q
 | brk =>
   obtain⟨_,_,_,q⟩:=hs
   exact False.elim q
 | cont =>
   obtain⟨_,_,_,q⟩:=hs
   exact False.elim q
section
variable {X:Cx} {x:Str} {p pos:Pos} {e:Expr} {es:List Expr} {t:TA} {id T:String} {r:List V->Hp->VK->Prop}
def tCB (r:List V->Hp->VK->Prop)(t:TA):TE:=fun σ H Q=>t σ H fun vs H1=>r vs H1 Q
theorem qV (hc:CallR X (.builtin id) r)(hg:Gl X x)(hm:X.mg x=none)(hv:bootBuiltins x=some (.builtin id))(ha:PA X (e::es) t)(hn:x≠"__name__":=by decide)(hdb:(x==("__debug__":Str))=false:=by decide)
   (he:starEach (e::es) X.env=(false,eval e X.env)::starEach es X.env:=by rfl) (hpl:(backTo pos (starEach es X.env)).any (·.1)=false:=by rfl):PE X (.Call (.Name x p) (e::es) [] pos) (tCB r t):=by
 intro pins s σ H Q I h
 refine Tg (qD I hg hm hv ?_ hn hdb)
 exact PyProof.Rows.callWith_builtin1 (thn (ha pos pins s σ H _ I h) fun us s1 ⟨vs,H1,I1,r1,q1⟩=>hc pins s1 σ H1 vs us Q I1 r1 q1) he hpl
theorem qC (hc:CallR X (.type T) r)(hg:Gl X x)(hm:X.mg x=none)(hv:bootBuiltins x=some (.type T))(ha:PA X (e::es) t)(hn:x≠"__name__":=by decide)(hdb:(x==("__debug__":Str))=false:=by decide)
   (he:starEach (e::es) X.env=(false,eval e X.env)::starEach es X.env:=by rfl) (hpl:(backTo pos (starEach es X.env)).any (·.1)=false:=by rfl):PE X (.Call (.Name x p) (e::es) [] pos) (tCB r t):=by
 intro pins s σ H Q I h
 refine Tg (qD I hg hm hv ?_ hn hdb)
 exact Wj (thn (ha pos pins s σ H _ I h) fun us s1 ⟨vs,H1,I1,r1,q1⟩=>hc pins s1 σ H1 vs us Q I1 r1 q1) he hpl
end
end L2
namespace HT
open PySem PyProof.Rows
section
variable {prog:Program} {w:World} {A:Around} {E:Value->Shared->Prop} {s:Shared}
theorem cat_tup {t b:Addr}{vs ws:List Value}{Q:Value->Shared->Prop}(ht:IsTup s.heap t vs.toArray)(hb:IsTup s.heap b ws.toArray)(hv:vs≠[])
   (h1:ws=[]->Q (.ref t) s) (h2:ws≠[]->Q (.ref s.heap.objs.size) { s with heap:=s.heap.push { cls:=.type "tuple",data:=.seq (vs++ws).toArray } })
   (hsz:vs.length+ws.length<=sizeLine):wpAny (model prog w) A (binaryOp .Add (.ref t) (.ref b)) Q E s:=by
 obtain⟨⟨cls,dd,data,sl⟩,ho,hc,n,hd⟩:=id ht
 obtain⟨⟨cls2,dd2,data2,sl2⟩,ho2,hc2,n2,hd2⟩:=id hb
 simp only at hc hd hc2 hd2
 subst hc hd hc2 hd2
 have e:vs.toArray++ws.toArray=(vs++ws).toArray:=by simp
 by_cases hw:ws=[]
 · exact Ic ⟨_,ho,rfl⟩ ⟨_,ho2,rfl⟩ Oq seq_tuple_add Ur Yb (Yl _ _)
     (tuple_addW1 t b vs.toArray ws.toArray n n2 dd dd2 sl sl2 (by simpa using hv) (by simp[hw])) ⟨ho,ho2,h1 hw⟩
 · refine Ic ⟨_,ho,rfl⟩ ⟨_,ho2,rfl⟩ Oq seq_tuple_add Ur Yb (Yl _ _)
     (tuple_addW2 t b vs.toArray ws.toArray n n2 dd dd2 sl sl2 (by simpa using hv) (by simpa using hw) (by rw[Qg,Qg];exact hsz)) ⟨ho,ho2,?_⟩
   rw[e]
   exact h2 hw
def sIx (n d:Nat):Option Int->Nat
 | none=>d
 | some v=>if v < 0 then(v+(n:Int)).toNat else min v.toNat n
theorem sIx_nat (n d k:Nat):sIx n d (some (k:Int))=min k n:=by
 show(if (k:Int) < 0 then((k:Int)+(n:Int)).toNat else min (k:Int).toNat n)=min k n
 rw[Ws (by omega),Ra]
theorem zJ8 (n d:Nat)(hd:d<=n)(o:Option Int):sIx n d o<=n:=by
 cases o with
 | none=>exact hd
 | some v =>
   show(if v < 0 then(v+(n:Int)).toNat else min v.toNat n)<=n
   by_cases hv:v < 0
   · rw[Qb hv];omega
   · rw[Ws hv];exact Nat.min_le_right _ _
theorem zRp (v:Int)(n d:Nat):(if v < 0 then max (v+(n:Int)) 0 else min v (n:Int))=((sIx n d (some v):Nat):Int):=by
 show(if v < 0 then max (v+(n:Int)) 0 else min v (n:Int))=(((if v < 0 then(v+(n:Int)).toNat else min v.toNat n):Nat):Int)
 by_cases hv:v < 0
 · simp only[Qb hv];omega
 · simp only[Ws hv];omega
theorem zSC (lo hi:Option Int)(n:Nat):Builtin.Slice.sliceAdjust lo hi 1 (n:Int)=(((sIx n 0 lo:Nat):Int),((sIx n n hi:Nat):Int)):=by
 have h1:¬((1:Int) < 0):=by omega
 unfold Builtin.Slice.sliceAdjust
 simp only[h1,Ro]
 refine Prod.ext ?_ ?_
 · cases lo with
   | none=>rfl
   | some v=>exact zRp v n 0
 · cases hi with
   | none=>rfl
   | some v=>exact zRp v n n
theorem zSi (i j:Nat):Builtin.Slice.slicePlaces (i:Int) (j:Int) 1=j - i:=by
 unfold Builtin.Slice.slicePlaces
 have h1:(1:Int) > 0:=by omega
 simp only[h1,Rq,Int.ediv_one]
 split<;>omega
theorem zX9 {v:Value}{o:Option Int}{Q:Option Int->Shared->Prop}(p:IsPart v o)(h:Q o s):wpAny (model prog w) A (Builtin.Slice.slicePartIndex v) Q E s:=by
 cases p with
 | none=>exact slicePart_none h
 | int i t=>exact slicePart_int h
theorem kR {sl:Addr}{vl vu:Value}{lo hi:Option Int}{n:Nat}{Q:Int×Int×Nat->Shared->Prop}(hs:s.heap.IsSliceOf sl vl vu .none)(pl:IsPart vl lo)(pu:IsPart vu hi)
   (h:Q (((sIx n 0 lo:Nat):Int),1,sIx n n hi - sIx n 0 lo) s):wpAny (model prog w) A (Builtin.Slice.sliceApplied (.ref sl) (pure (n:Int))) Q E s:=by
 obtain⟨os,hos,hcs,hds⟩:=id hs
 unfold Builtin.Slice.sliceApplied Builtin.Slice.sliceFields
 refine Qe (Qe (Ed hos hds (x:=vl) rfl (Qe (Ed hos hds (x:=vu) rfl (Qe (Ed hos hds (x:=.none) rfl (Qf ?_)))))))
 refine Qe (slicePart_none ?_)
 show wpAny _ _ (if ((1:Int)==0)=true then _ else _) _ _ s
 rw[Ws (by decide)]
 refine Qe (zX9 pl (Qe (zX9 pu (Qe (Qf ?_)))))
 show wpAny _ _ (match Builtin.Slice.sliceAdjust lo hi 1 (n:Int) with | (lo,hi)=>pure (lo,(1:Int),Builtin.Slice.slicePlaces lo hi 1)) _ _ s
 rw[zSC lo hi n]
 show wpAny _ _ (pure (((sIx n 0 lo:Nat):Int),(1:Int),Builtin.Slice.slicePlaces ((sIx n 0 lo:Nat):Int) ((sIx n n hi:Nat):Int) 1)) _ _ s
 rw[zSi]
 exact Qf h
theorem zMI (xs:Array Value)(i k:Nat):((List.range k).filterMap fun(m:Nat)=>xs[((i:Int)+(m:Int)*1).toNat]?).toArray=((xs.toList.drop i).take k).toArray:=by
 have e:(fun(m:Nat)=>xs[((i:Int)+(m:Int)*1).toNat]?)=fun m=>xs[i+m]?:=by
   funext m
   have:((i:Int)+(m:Int)*1).toNat=i+m:=by omega
   rw[this]
 rw[e]
 have:=pick_run xs i k
 rw[List.filterMap_map] at this
 have e2:((fun x=>xs[x]?) ∘ fun x=>i+x)=fun m=>xs[i+m]?:=rfl
 rw[e2] at this
 rw[this]
theorem getItem_tuple_cut {t sl:Addr}{items:Array Value}{vl vu:Value}{lo hi:Option Int}{Q:Value->Shared->Prop}(ht:IsTup s.heap t items)(hs:s.heap.IsSliceOf sl vl vu .none)(pl:IsPart vl lo)(pu:IsPart vu hi)
   (hw:¬(sIx items.size 0 lo=0/\sIx items.size items.size hi=items.size))
   (h:Q (.ref s.heap.objs.size) { s with heap:=s.heap.push { cls:=.type "tuple",data:=.seq ((items.toList.drop (sIx items.size 0 lo)).take (sIx items.size items.size hi - sIx items.size 0 lo)).toArray } })
   (hsz:items.size<=sizeLine):wpAny (model prog w) A (getItem (.ref t) (.ref sl)) Q E s:=by
 have htake:sizeOk (.seq ((items.toList.drop (sIx items.size 0 lo)).take (sIx items.size items.size hi - sIx items.size 0 lo)).toArray):=by
   show((items.toList.drop (sIx items.size 0 lo)).take (sIx items.size items.size hi - sIx items.size 0 lo)).toArray.size<=sizeLine
   rw[Qg,Yw,Ow,Ex]
   omega
 have hj:sIx items.size items.size hi<=items.size:=zJ8 _ _ (Ql _) hi
 obtain⟨os,hos,hcs,hds⟩:=id hs
 have hTs:s.TypeIs (.ref sl) "slice":=⟨os,hos,hcs⟩
 unfold getItem
 try with_reducible refine Ru ?_
 first | refine Qe (Qf ?_) | skip
 refine Qe (wpAny_sequenceKey ht.typeIs (by decide) ?_)
 refine Qe (El (name:=Str.ofString "__getitem__") ht.typeIs Rc
   (Rg Rc ht.typeIs entry_tuple_getitem ?_ (args_tuple_getitem _ _)))
 show wpAny _ _ (Builtin.Tuple.tupleItemsOf (.ref t) >>= _) _ _ s
 refine Qe (tupleItemsOf_ ht ?_)
 refine Qe (Yg hTs ?_)
 rw[Qb (by decide)]
 refine Qe (kR hs pl pu ?_)
 have hno:¬((((sIx items.size 0 lo:Nat):Int)==0&&(1:Int)==1&&(sIx items.size items.size hi - sIx items.size 0 lo)==items.size)=true):=by
   intro q
   rw[Qx,Qx] at q
   have q1:((sIx items.size 0 lo:Nat):Int)=0:=eq_of_beq q.1.1
   have q2:sIx items.size items.size hi - sIx items.size 0 lo=items.size:=eq_of_beq q.2
   exact hw ⟨by omega,by omega⟩
 show wpAny _ _ (if (((sIx items.size 0 lo:Nat):Int)==0&&(1:Int)==1&&(sIx items.size items.size hi - sIx items.size 0 lo)==items.size)=true then _ else _) _ _ s
 rw[Ws hno,zMI]
 first
   | exact Qe (m:=Builtin.Tuple.tupleExact _) (Eb (Qf ⟨_,rfl,Qf h⟩) htake)
   | exact Qe (m:=Builtin.Tuple.tupleExact _) (Eb (Qe (Qf (Qf ⟨_,rfl,Qf h⟩))) htake)
   | exact Qe (Qe (m:=Builtin.Tuple.tupleExact _) (Eb (Qf (Qf ⟨_,rfl,Qf h⟩)) htake))
   | exact Qe (Qe (m:=Builtin.Tuple.tupleExact _) (Eb (Qf ⟨_,rfl,Qf h⟩) htake))
end
end HT
namespace L2
open PySem PySem.Spec PyProof.Rows
abbrev TO:=St->Hp->(Option Int->Hp->Prop)->Prop
def PO (X:Cx)(e:Option Expr)(t:TO):Prop :=
 ∀(pins:List (Addr×Obj)) (s:Shared) (σ:St) (H:Hp) (Q:Option Int->Hp->Prop),Inv X pins σ H s->t σ H Q ->
   wpAny (model X.prog X.w) X.A (evalPart e X.env) (fun u s'=>∃o H',Inv X pins σ H' s'/\IsPart u o/\Q o H') X.xe s
def zLc:TO:=fun _ H Q=>Q none H
def zHC (t:TE):TO:=fun σ H Q=>t σ H fun x H1=>∃i,x = .int i/\Q (some i) H1
theorem zR8 {ns:List Int}:∀ {us:List Value},Vals (ns.map V.int) us->IntsAre us ns:=by
 induction ns with
 | nil=>intro us r;rw[Wv] at r;cases r;exact .nil
 | cons n ns ih =>
   intro us r
   rw[Qp] at r
   cases r with
   | cons r1 r2 =>
     obtain⟨t,e⟩:=r1
     subst e
     exact .cons n t (ih r2)
section
variable {X:Cx} {e:Expr} {te:TE} {lo hi:Option Expr} {tl th:TO} {pos p2:Pos}
theorem zLK:PO X none zLc:=by
 intro pins s σ H Q I h
 rw[evalPart_none]
 exact Qf ⟨none,H,I,.none,h⟩
theorem zKO (h:PE X e te):PO X (some e) (zHC te):=by
 intro pins s σ H Q I hw
 rw[evalPart_some]
 refine thn (h pins s σ H _ I hw) fun u s1 ⟨x,H1,I1,r1,q1⟩=>?_
 obtain⟨i,rfl,q⟩:=q1
 obtain⟨t,rfl⟩:=r1
 exact⟨some i,H1,I1,.int i t,q⟩
def SlR (X:Cx)(r:V->Option Int->Option Int->Hp->VK->Prop):Prop :=
 ∀(pins:List (Addr×Obj)) (s:Shared) (σ:St) (H:Hp) (x:V) (v vl vu:Value) (lo hi:Option Int) (sl:Addr) (Q:VK),Inv X pins σ H s->RelV x v->s.heap.IsSliceOf sl vl vu .none->IsPart vl lo->IsPart vu hi->r x lo hi H Q ->
   ∃T id,typeLookup (.type T) "__getitem__"=pure (some (.builtin id))/\s.TypeIs v T/\wpAny (model X.prog X.w) X.A (getItem v (.ref sl)) (EP X pins σ Q) X.xe s
theorem SlR.or {r r':V->Option Int->Option Int->Hp->VK->Prop}(h:SlR X r)(h':SlR X r'):SlR X (fun x lo hi H Q=>r x lo hi H Q∨r' x lo hi H Q):=by
 intro pins s σ H x v vl vu lo hi sl Q I rx hs pl pu q
 rcases q with q | q
 · exact h pins s σ H x v vl vu lo hi sl Q I rx hs pl pu q
 · exact h' pins s σ H x v vl vu lo hi sl Q I rx hs pl pu q
def tSl (r:V->Option Int->Option Int->Hp->VK->Prop)(te:TE)(tl th:TO):TE:=fun σ H Q=>te σ H fun x H1=>tl σ H1 fun l H2=>th σ H2 fun u H3=>r x l u H3 Q
theorem zTm {r:V->Option Int->Option Int->Hp->VK->Prop}(hr:SlR X r)(he:PE X e te)(hl:PO X lo tl)(hu:PO X hi th):PE X (.Subscript e (.Slice lo hi none p2) pos) (tSl r te tl th):=by
 intro pins s σ H Q I h
 refine Subscript_ (thn (he pins s σ H _ I h) fun v s1 ⟨x,H1,I1,r1,q1⟩=>?_)
 refine wpAny_Slice (thn (hl pins s1 σ H1 _ I1 q1) fun vl s2 ⟨l,H2,I2,pl,q2⟩=>thn (hu pins s2 σ H2 _ I2 q2) fun vu s3 ⟨u,H3,I3,pu,q3⟩=>?_)
 rw[evalPart_none]
 refine Qf ?_
 have I4:Inv X pins σ H3 { s3 with heap:=s3.heap.push { cls:=.type "slice",data:=.fields #[vl,vu,.none] } }:=I3.kept (t':=s3.toks) fun b ob q=>Qr _ q
 obtain⟨T,id,hT,ht,hg⟩:=hr pins { s3 with heap:=s3.heap.push { cls:=.type "slice",data:=.fields #[vl,vu,.none] } } σ H3 x v vl vu l u s3.heap.objs.size Q I4 r1 (Heap.IsSliceOf.new ..) pl pu q3
 show wpAny (model X.prog X.w) X.A (subscriptTail e (.Slice lo hi none p2) v (.ref s3.heap.objs.size)) (EP X pins σ Q) X.xe { s3 with heap:=s3.heap.push { cls:=.type "slice",data:=.fields #[vl,vu,.none] } }
 exact Oi (ops:=[.ref s3.heap.objs.size,v]) ht hT hg (by with_unfolding_all rfl)
def zX1 (xs:List V)(lo hi:Option Int):List V:=(xs.drop (HT.sIx xs.length 0 lo)).take (HT.sIx xs.length xs.length hi - HT.sIx xs.length 0 lo)
theorem zZa (xs:List V)(lo hi:Option Int):(zX1 xs lo hi).length<=xs.length:=by
 unfold zX1
 rw[Yw,Ow]
 omega
def zGV (K:PySem.W.Frag):V->Option Int->Option Int->Hp->VK->Prop:=fun x lo hi H Q=>∃a xs,x = .ref a/\SqT K H a xs /\
 ¬(HT.sIx xs.length 0 lo=0/\HT.sIx xs.length xs.length hi=xs.length)/\∀p,H p=none->Q (.ref p) (upd H p (.tup (zX1 xs lo hi)))
theorem zIS:SlR X (zGV X.K):=by
 intro pins s σ H x v vl vu lo hi sl Q I rx hs pl pu h
 obtain⟨a,xs,rfl,hx,hw,q⟩:=h
 cases rx
 obtain⟨its,r,ht,hz⟩:=I.tuple hx
 have hlen:its.toArray.size=xs.length:=by rw[Qg];exact r.length.symm
 refine⟨"tuple",_,Rc.lookup,ht.typeIs,?_⟩
 refine HT.getItem_tuple_cut ht hs pl pu (by rw[hlen];exact hw) ?_ (by rw[hlen];exact hz)
 rw[hlen]
 refine⟨.ref s.heap.objs.size,_,I.laid (t':=s.toks) (o:=.tup (zX1 xs lo hi)) (fun b ob q=>Qr _ q) (Ql _) ?_,rfl,q _ (I.hok.fresh (Ql _))⟩
 exact⟨Ey (zZa xs lo hi) hz,_,(r.drop (HT.sIx xs.length 0 lo)).take (HT.sIx xs.length xs.length hi - HT.sIx xs.length 0 lo),IsTup.new _ _⟩
def zI2 (K:PySem.W.Frag):R2:=fun x y H Q=>∃a b xs ys,x = .ref a/\y = .ref b/\SqT K H a xs/\SqT K H b ys/\xs≠[]/\xs.length+ys.length<=sizeLine /\
 (ys=[]->Q (.ref a) H)/\(ys≠[]->∀p,H p=none->Q (.ref p) (upd H p (.tup (xs++ys))))
theorem Vals.nil_iff {xs:List V}{us:List Value}(r:Vals xs us):us=[]↔xs=[]:=by
 cases r with
 | nil=>simp
 | cons _ _=>simp
theorem zLL:OpR X (binaryOp .Add) (zI2 X.K):=by
 intro pins s σ H x y v u Q I rx ry h
 obtain⟨a,b,xs,ys,rfl,rfl,ha,hb,hx,hz,q1,q2⟩:=h
 cases rx
 cases ry
 obtain⟨its,r1,p1,_⟩:=I.tuple ha
 obtain⟨its2,r2,p2,_⟩:=I.tuple hb
 refine HT.cat_tup p1 p2 (fun z=>hx (r1.nil_iff.mp z)) (fun z=>⟨.ref a,H,I,rfl,q1 (r2.nil_iff.mp z)⟩) (fun z=>?_) (by rw[←r1.length,←r2.length];exact hz)
 refine⟨.ref s.heap.objs.size,_,I.laid (t':=s.toks) (o:=.tup (xs++ys)) (fun b ob q=>Qr _ q) (Ql _) ?_,rfl,q2 (fun w=>z (r2.nil_iff.mpr w)) _ (I.hok.fresh (Ql _))⟩
 exact⟨by rw[Wq];exact hz,_,r1.append r2,IsTup.new _ _⟩
end
def ixN (n:Nat)(i:Int):Option Nat:=if 0<=i then(if i < n then some i.toNat else none) else if -(n:Int)<=i then some (i+n).toNat else none
def atI {α:Type}(xs:List α)(i:Int):Option α:=(ixN xs.length i).bind fun j=>xs[j]?
theorem zVk {n:Nat}{i:Int}{j:Nat}(h:ixN n i=some j):seqIndex? i n=some j/\j < n /\ -(n:Int)<=i/\i < n:=by
 unfold ixN at h
 by_cases h0:0<=i
 · rw[Qb h0] at h
   by_cases h1:i < n
   · rw[Qb h1] at h
     have e:i.toNat=j:=Ep h
     exact⟨by rw[seqIndex_of h0 h1,e],by omega,by omega,h1⟩
   · rw[Ws h1] at h;cases h
 · rw[Ws h0] at h
   by_cases h1 : -(n:Int)<=i
   · rw[Qb h1] at h
     have e:(i+n).toNat=j:=Ep h
     exact⟨by rw[seqIndex_neg (by omega) h1,e],by omega,h1,by omega⟩
   · rw[Ws h1] at h;cases h
theorem zV6 {α:Type}{xs:List α}{i:Int}{v:α}(h:atI xs i=some v):∃j,seqIndex? i xs.length=some j/\xs[j]?=some v/\j < xs.length /\ -(xs.length:Int)<=i/\i < xs.length:=by
 unfold atI at h
 cases e:ixN xs.length i with
 | none=>rw[e] at h;cases h
 | some j =>
   rw[e] at h
   obtain⟨h1,h2,h3,h4⟩:=zVk e
   exact⟨j,h1,h,h2,h3,h4⟩
theorem zYQ {α:Type}{xs:List α}{j:Nat}{v:α}(h:xs[j]?=some v):atI xs (j:Int)=some v:=by
 have hj:j < xs.length:=(Qm.mp h).1
 have e:ixN xs.length (j:Int)=some j:=by
   unfold ixN
   rw[Qb (by omega),Qb (by omega)];simp
 unfold atI;rw[e];exact h
def dZ (b:Expr):Prop:=∀o i,subscripted b false o i=operate [o,i] (getItem o i)
def IxR (X:Cx)(r:R2):Prop :=
 ∀(value slice:Expr) (pins:List (Addr×Obj)) (s:Shared) (σ:St) (H:Hp) (x y:V) (v u:Value) (Q:VK),Inv X pins σ H s->RelV x v->RelV y u->r x y H Q ->
   subscripted slice false v u=operate [v,u] (getItem v u)->wpAny (model X.prog X.w) X.A (subscriptTail value slice v u) (EP X pins σ Q) X.xe s
def MtR (X:Cx)(id:String)(r:V->List V->Hp->VK->Prop):Prop :=
 ∀(pins:List (Addr×Obj)) (s:Shared) (σ:St) (H:Hp) (x:V) (xs:List V) (v:Value) (us:List Value) (Q:VK),Inv X pins σ H s->RelV x v->Vals xs us->r x xs H Q ->
   wpAny (model X.prog X.w) X.A (call (.builtin id) (v::us)) (EP X pins σ Q) X.xe s
section
variable {X:Cx} {a b:Expr} {ta tb:TE} {pos:Pos}
theorem IxR.or {r r':R2}(h:IxR X r)(h':IxR X r'):IxR X (fun x y H Q=>r x y H Q∨r' x y H Q):=by
 intro value slice pins s σ H x y v u Q I rx ry q hs
 rcases q with q | q
 · exact h value slice pins s σ H x y v u Q I rx ry q hs
 · exact h' value slice pins s σ H x y v u Q I rx ry q hs
theorem zUl {r:R2}(hr:IxR X r)(ha:PE X a ta)(hb:PE X b tb)(hs:dZ b):PE X (.Subscript a b pos) (tOp r ta tb):=by
 intro pins s σ H Q I h
 exact Subscript_ (zKv ha hb I h fun v u s2 x y H2 I2 rx ry q=>hr a b pins s2 σ H2 x y v u Q I2 rx ry q (hs _ _))
def zIz (K:PySem.W.Frag):R2:=fun x y H Q=>∃p xs i v,x = .ref p/\y = .int i/\SqL K H p xs/\atI xs i=some v/\Q v H
def zIi (K:PySem.W.Frag):R2:=fun x y H Q=>∃p xs i v,x = .ref p/\y = .int i/\SqT K H p xs/\atI xs i=some v/\Q v H
def zH6:R2:=fun x y H Q=>∃z i c,x = .str z/\y = .int i/\z.length<=sizeLine/\atI z.cps.toList i=some c/\Q (.str ⟨#[c]⟩) H
theorem zQW:IxR X (zIz X.K):=by
 intro value slice pins s σ H x y v u Q I rx ry h hs
 obtain⟨p,xs,i,z,rfl,rfl,hq,he,q⟩:=h
 cases rx
 obtain⟨t,rfl⟩:=ry
 obtain⟨its,r,pl,hz⟩:=I.list hq
 obtain⟨j,h1,h2,h3,h4,h5⟩:=zV6 he
 obtain⟨w,ew,rw'⟩:=r.get h2
 have hl:=r.length
 have hn:=zZ8
 have fin:EP X pins σ Q w s:=⟨z,H,I,rw',q⟩
 by_cases h0:0<=i
 · have hj:i.toNat=j:=by
     rw[seqIndex_of h0 h5] at h1
     exact Ep h1
   exact item_listR pl.isList h0 (by omega) (by rw[hj];simpa using ew) fin hs
 · have hj:(i+(its.toArray.size:Int)).toNat=j:=by
     rw[seqIndex_neg (by omega) h4] at h1
     rw[Qg,←hl]
     exact Ep h1
   exact subscriptTail_builtinR (x:=w) pl.isList.typeIs slot_list_getitem.lookup
     (wpAny_getItem_list_neg (Q:=fun r s'=>r=w/\EP X pins σ Q r s') pl.isList (by omega) (by rw[Qg]<;>omega) (by omega) (by rw[hj];simpa using ew) ⟨rfl,fin⟩) hs
theorem zJf:IxR X (zIi X.K):=by
 intro value slice pins s σ H x y v u Q I rx ry h hs
 obtain⟨p,xs,i,z,rfl,rfl,hq,he,q⟩:=h
 cases rx
 obtain⟨t,rfl⟩:=ry
 obtain⟨its,r,pl,hz⟩:=I.tuple hq
 obtain⟨j,h1,h2,h3,h4,h5⟩:=zV6 he
 obtain⟨w,ew,rw'⟩:=r.get h2
 have hl:=r.length
 have hn:=zZ8
 have fin:EP X pins σ Q w s:=⟨z,H,I,rw',q⟩
 exact subscriptTail_builtinR (x:=w) pl.typeIs slot_tuple_getitem.lookup
   (getItem_tuple (j:=j) (Q:=fun r s'=>r=w/\EP X pins σ Q r s') pl (by omega) (by omega) (by rw[Qg,←hl];exact h1) (by simpa using ew) ⟨rfl,fin⟩) hs
theorem zJE:IxR X zH6:=by
 intro value slice pins s σ H x y v u Q I rx ry h hs
 obtain⟨z,i,c,rfl,rfl,hz,he,q⟩:=h
 obtain⟨t,rfl⟩:=rx
 obtain⟨t',rfl⟩:=ry
 obtain⟨j,h1,h2,h3,h4,h5⟩:=zV6 he
 have hl:z.cps.toList.length=z.length:=by simp[Str.length]
 rw[hl] at h1 h4 h5
 have hn:=zZ8
 exact Oi (Uz s z t) slot_str_getitem.lookup (getItem_str (c:=c) (by
   have e1:decide (i < -(2^63:Int))=false:=Qz (by omega)
   have e2:decide (i≥2^63)=false:=Qz (by omega)
   rw[e1,e2,Bool.or_false]) (by rw[h1];simpa using h2) ⟨.str ⟨#[c]⟩,H,I.tok _,⟨_,rfl⟩,q⟩) hs
def rIx (K:PySem.W.Frag):R2:=fun x y H Q=>zIz K x y H Q∨zIi K x y H Q∨zH6 x y H Q
theorem zJx:IxR X (rIx X.K):=zQW.or (zJf.or zJE)
theorem zRY (its:List Value)(n j:Nat)(u:Value):Obj.mapSeq (·.setIfInBounds j u) { cls:=.type "list",data:=.seq its.toArray n }={ cls:=.type "list",data:=.seq (its.set j u).toArray n }:=by
 simp[Obj.mapSeq]
theorem Inv.lst {pins:List (Addr×Obj)}{σ:St}{H:Hp}{s:Shared}{p:Addr}{xs:List V}(I:Inv X pins σ H s)(h:H p=some (.lst xs)) :
   ∃(its:List Value) (n:Nat),Vals xs its/\s.heap.get? p=some { cls:=.type "list",data:=.seq its.toArray n }/\xs.length<=sizeLine:=by
 obtain⟨z,its,n,r,e⟩:=I.hok p _ h
 exact⟨its,n,r,e,z⟩
theorem Inv.lstUpd {pins:List (Addr×Obj)}{σ:St}{H:Hp}{s:Shared}{p:Addr}{xs ys:List V}{its its':List Value}{n n':Nat}{f:Obj->Obj}(I:Inv X pins σ H s)(h:H p=some (.lst xs))
   (ho:s.heap.get? p=some { cls:=.type "list",data:=.seq its.toArray n }) (hf:f { cls:=.type "list",data:=.seq its.toArray n }={ cls:=.type "list",data:=.seq its'.toArray n' }) (r:Vals ys its') (hz:ys.length<=sizeLine) (t:Nat) :
   Inv X pins σ (upd H p (.lst ys)) { s with heap:=s.heap.update p f,toks:=t }:=by
 have e:(s.heap.update p f).get? p=some { cls:=.type "list",data:=.seq its'.toArray n' }:=by
   rw[Rw f ho (by rw[hf]<;>rfl),hf]
 refine I.write (x:=p) (e:=p) (by rw[h];trivial) (.inl rfl) (fun b u hb q=>(Rf _ _ (Ne.symm hb)).trans q) ⟨_,e⟩ ?_
 exact⟨hz,its',n',r,e⟩
def zHO:V->V->V->Hp->(Hp->Prop)->Prop:=fun o i v H Q=>∃p xs k j,o = .ref p/\i = .int k/\H p=some (.lst xs)/\ixN xs.length k=some j/\Q (upd H p (.lst (xs.set j v)))
theorem zOu:zJS X zHO:=by
 intro pins s σ H o i v ov iv u Q I ro ri rv h
 obtain⟨p,xs,k,j,rfl,rfl,hp,hj,q⟩:=h
 cases ro
 obtain⟨t,rfl⟩:=ri
 obtain⟨its,n,r,ho,hz⟩:=I.lst hp
 obtain⟨h1,h2,h3,h4⟩:=zVk hj
 have hl:=r.length
 have hn:=zZ8
 have I':Inv X pins σ (upd H p (.lst (xs.set j v))) { s with heap:=s.heap.update p (Obj.mapSeq (·.setIfInBounds j u)) } :=
   I.lstUpd hp ho (zRY its n j u) (r.set rv j) (by rw[Th];exact hz) s.toks
 by_cases h0:0<=k
 · have hk:k.toNat=j:=by
     rw[seqIndex_of h0 h4] at h1
     exact Ep h1
   exact PySem.W.ki_setAt ho h0 (by omega) (by rw[Qg,←hl];exact h4) (by rw[hk];exact⟨_,I',q⟩)
 · have hk:(k+(its.toArray.size:Int)).toNat=j:=by
     rw[seqIndex_neg (by omega) h3] at h1
     rw[Qg,←hl]
     exact Ep h1
   exact PySem.W.ki_setBack ho (by omega) (by rw[Qg,←hl];exact h3) (by omega) (by rw[hk];exact⟨_,I',q⟩)
theorem zVm (lo hi:Option Int)(n:Nat):(sliceBounds lo hi none n).1=((HT.sIx n 0 lo:Nat):Int)/\(sliceBounds lo hi none n).2.1=((HT.sIx n n hi:Nat):Int)/\(sliceBounds lo hi none n).2.2=1:=by
 refine⟨?_,?_,rfl⟩
 · cases lo with
   | none=>simp[sliceBounds,HT.sIx]
   | some i =>
     simp only[sliceBounds,HT.sIx,Option.getD_none,show(1:Int) > 0 by decide,Rq]
     by_cases h:i < 0
     · simp only[h,Rq]<;>omega
     · simp only[h,Ro]<;>omega
 · cases hi with
   | none=>simp[sliceBounds,HT.sIx]
   | some i =>
     simp only[sliceBounds,HT.sIx,Option.getD_none,show(1:Int) > 0 by decide,Rq]
     by_cases h:i < 0
     · simp only[h,Rq]<;>omega
     · simp only[h,Ro]<;>omega
theorem zXp (its:List Value)(lo hi:Option Int):slicePick its.toArray lo hi none=((its.drop (HT.sIx its.length 0 lo)).take (HT.sIx its.length its.length hi - HT.sIx its.length 0 lo)).toArray:=by
 obtain⟨h1,h2,h3⟩:=zVm lo hi its.toArray.size
 unfold slicePick
 rw[h1,h2,h3]
 simp only[sliceRange_one,pick_run,Qg]<;>rfl
def zHy (K:PySem.W.Frag):V->Option Int->Option Int->Hp->VK->Prop:=fun x lo hi H Q=>∃a xs,x = .ref a/\SqL K H a xs/\∀p,H p=none->Q (.ref p) (upd H p (.lst (zX1 xs lo hi)))
theorem zLq:SlR X (zHy X.K):=by
 intro pins s σ H x v vl vu lo hi sl Q I rx hs pl pu h
 obtain⟨a,xs,rfl,hx,q⟩:=h
 cases rx
 obtain⟨its,r,ht,hz⟩:=I.list hx
 have hlen:=r.length
 refine⟨"list",_,slot_list_getitem.lookup,ht.isList.typeIs,?_⟩
 refine wpAny_getItem_list_slice ht.isList hs pl pu .none (by simp) ?_ (by rw[Qg]<;>omega)
 rw[zXp,←hlen]
 refine⟨.ref s.heap.objs.size,_,I.laid (t':=s.toks) (o:=.lst (zX1 xs lo hi)) (fun b ob q=>Qr _ q) (Ql _) ?_,rfl,q _ (I.hok.fresh (Ql _))⟩
 exact⟨Ey (zZa xs lo hi) hz,_,0,(r.drop (HT.sIx xs.length 0 lo)).take (HT.sIx xs.length xs.length hi - HT.sIx xs.length 0 lo),Qk _ rfl⟩
def iN:V->Bool
 | .non=>true
 | .bl _=>true
 | .int _=>true
 | .str _=>true
 | _=>false
def eqV:V->V->Bool
 | .non,.non=>true
 | .bl a,.bl b=>a==b
 | .bl a,.int b=>(if a then 1 else 0)==b
 | .int a,.bl b=>a==(if b then 1 else 0)
 | .int a,.int b=>a==b
 | .str a,.str b=>a==b
 | _,_=>false
theorem zKu {A:Around}{s:Shared}{y x:V}{u v:Value}(ry:RelV y u)(rx:RelV x v)(fy:iN y=true)(fx:iN x=true):SeqAt.EqAt A s u v (eqV y x):=by
 cases y with
 | non =>
   cases ry
   cases x with
   | non=>cases rx;exact Ya _
   | bl b=>cases rx;exact SeqAt.EqAt.none_bool b
   | int b=>obtain⟨t,rfl⟩:=rx;exact SeqAt.EqAt.none_int b t
   | str b=>obtain⟨t,rfl⟩:=rx;exact SeqAt.EqAt.none_str b t
   | _=>exact absurd (show false=true from fx) Qj
 | bl a =>
   cases ry
   cases x with
   | non=>cases rx;exact SeqAt.EqAt.bool_none a
   | bl b=>cases rx;exact Uv a b
   | int b=>obtain⟨t,rfl⟩:=rx;exact SeqAt.EqAt.bool_int a b t
   | str b=>obtain⟨t,rfl⟩:=rx;exact SeqAt.EqAt.bool_str a b t
   | _=>exact absurd (show false=true from fx) Qj
 | int a =>
   obtain⟨t',rfl⟩:=ry
   cases x with
   | non=>cases rx;exact SeqAt.EqAt.int_none a t'
   | bl b=>cases rx;exact SeqAt.EqAt.int_bool a t' b
   | int b=>obtain⟨t,rfl⟩:=rx;exact Iu a t' b t
   | str b=>obtain⟨t,rfl⟩:=rx;exact SeqAt.EqAt.int_str a t' b t
   | _=>exact absurd (show false=true from fx) Qj
 | str a =>
   obtain⟨t',rfl⟩:=ry
   cases x with
   | non=>cases rx;exact SeqAt.EqAt.str_none a t'
   | bl b=>cases rx;exact SeqAt.EqAt.str_bool a t' b
   | int b=>obtain⟨t,rfl⟩:=rx;exact SeqAt.EqAt.str_int a t' b t
   | str b=>obtain⟨t,rfl⟩:=rx;exact SeqAt.EqAt.str_str a t' b t
   | _=>exact absurd (show false=true from fx) Qj
 | _=>exact absurd (show false=true from fy) Qj
def eqU (x:V)(u:Value):Bool:=match u with
 | .none=>eqV .non x
 | .bool b=>eqV (.bl b) x
 | .int i _=>eqV (.int i) x
 | .str z _=>eqV (.str z) x
 | _=>false
theorem zNK {x y:V}{u:Value}(r:RelV y u)(f:iN y=true):eqU x u=eqV y x:=by
 cases y with
 | non=>cases r;rfl
 | bl b=>cases r;rfl
 | int i=>obtain⟨t,rfl⟩:=r;rfl
 | str z=>obtain⟨t,rfl⟩:=r;rfl
 | _=>exact absurd (show false=true from f) Qj
theorem zVI {x:V}:∀ {xs:List V} {us:List Value},Vals xs us->xs.all iN=true->us.any (eqU x)=xs.any fun y=>eqV y x
 | _,_,.nil,_=>rfl
 | y::xs,u::us,.cons r t,f=>by
   rw[Yr,Qx] at f
   rw[List.any_cons,List.any_cons,zNK r f.1,zVI t f.2]
theorem zYk {A:Around}{s:Shared}{x:V}{v:Value}(rx:RelV x v)(fx:iN x=true):∀ {xs:List V} {us:List Value},Vals xs us->xs.all iN=true->∀u∈us,SeqAt.EqAt A s u v (eqU x u)
 | _,_,.nil,_=>fun u hu=>by cases hu
 | y::xs,u::us,.cons r t,f=>fun u' hu=>by
   rw[Yr,Qx] at f
   rcases Qa.mp hu with rfl | hu
   · rw[zNK r f.1];exact zKu r rx f.1 fx
   · exact zYk rx fx t f.2 u' hu
def inV (x:V)(xs:List V):Bool:=xs.any fun y=>eqV y x
def rIn (K:PySem.W.Frag)(neg:Bool):R2:=fun x y H Q=>∃p xs,y = .ref p/\(SqL K H p xs∨SqT K H p xs)/\iN x=true/\xs.all iN=true/\Q (.bl (if neg then !inV x xs else inV x xs)) H
theorem zPV:OpR X (compareOp .In) (rIn X.K false):=by
 intro pins s σ H x y v u Q I rx ry h
 obtain⟨p,xs,rfl,hq,fx,fs,q⟩:=h
 cases ry
 rcases hq with hq | hq
 · obtain⟨its,r,pl,hz⟩:=I.list hq
   refine SeqAt.in_listAt (eqU x) pl.isList (fun w hw=>zYk rx fx r fs w (by simpa using hw)) ⟨.bl _,H,I,rfl,?_⟩
   rw[show its.toArray.any (eqU x)=its.any (eqU x) by simp,zVI r fs]
   exact q
 · obtain⟨its,r,pl,hz⟩:=I.tuple hq
   refine SeqAt.in_tupleAt (eqU x) pl (fun w hw=>zYk rx fx r fs w (by simpa using hw)) ⟨.bl _,H,I,rfl,?_⟩
   rw[show its.toArray.any (eqU x)=its.any (eqU x) by simp,zVI r fs]
   exact q
theorem bQ:CallR X (.builtin "len") (fun xs H Q=>∃p ys,xs=[.ref p]/\(SqL X.K H p ys∨SqT X.K H p ys)/\Q (.int ys.length) H):=by
 intro pins s σ H xs us Q I r h
 obtain⟨p,ys,rfl,hq,q⟩:=h
 obtain⟨u,rfl,rx⟩:=qJ r
 cases rx
 have hn:=zZ8
 rcases hq with hq | hq
 · obtain⟨its,r',pl,hz⟩:=I.list hq
   have hlen:=r'.length
   exact Calls.call_len_list pl.isList (by simp only[Qg]<;>omega) ⟨.int ys.length,H,I.tok _,⟨s.toks+1,by rw[Qg,hlen]⟩,q⟩
 · obtain⟨its,r',pl,hz⟩:=I.tuple hq
   have hlen:=r'.length
   exact len_tuple pl (by simp only[Qg]<;>omega) ⟨.int ys.length,H,I.tok _,⟨s.toks+1,by rw[Qg,hlen]⟩,q⟩
theorem zVJ:CallR X (.builtin "len") (fun xs H Q=>∃z,xs=[.str z]/\z.length<=sizeLine/\Q (.int z.length) H):=by
 intro pins s σ H xs us Q I r h
 obtain⟨z,rfl,hz,q⟩:=h
 obtain⟨u,rfl,t,rfl⟩:=qJ r
 have hn:=zZ8
 exact len_str (by omega) ⟨.int z.length,H,I.tok _,⟨_,rfl⟩,q⟩
theorem CallR.or {f:Value}{r r':List V->Hp->VK->Prop}(h:CallR X f r)(h':CallR X f r'):CallR X f (fun xs H Q=>r xs H Q∨r' xs H Q):=by
 intro pins s σ H xs us Q I rs q
 rcases q with q | q
 · exact h pins s σ H xs us Q I rs q
 · exact h' pins s σ H xs us Q I rs q
theorem zUP:CallR X (.type "list") (fun xs H Q=>∃p ys,xs=[.ref p]/\(SqL X.K H p ys∨SqT X.K H p ys)/\∀l,H l=none->Q (.ref l) (upd H l (.lst ys))):=by
 intro pins s σ H xs us Q I r h
 obtain⟨p,ys,rfl,hq,q⟩:=h
 obtain⟨u,rfl,rx⟩:=qJ r
 cases rx
 have fin:∀(its:List Value),Vals ys its->ys.length<=sizeLine->∀(h':Heap) (c':Nat),(∀b o',s.heap.get? b=some o'->h'.get? b=some o') ->
     h'.get? s.heap.objs.size=some { cls:=.type "list",dict:=none,data:=.seq its.toArray c',slots:=#[] }->EP X pins σ Q (.ref s.heap.objs.size) { s with heap:=h' }:=fun its r' hz h' c' kp e =>
   ⟨.ref s.heap.objs.size,_,I.laid (t':=s.toks) kp (Ql _) (show ObjOk X.prog X.w _ h' _ (.lst ys) from⟨hz,its,c',r',e⟩),rfl,q _ (I.hok.fresh (Ql _))⟩
 rcases hq with hq | hq
 · obtain⟨its,r',pl,hz⟩:=I.list hq
   have hlen:=r'.length
   obtain⟨o,ho,hc,n,hd⟩:=pl.isList
   exact call_list_seq p (.inl rfl) ho hc hd (fun h' c' kp e=>fin its r' hz h' c' kp e) (by simp only[Qg]<;>omega)
 · obtain⟨its,r',pl,hz⟩:=I.tuple hq
   have hlen:=r'.length
   obtain⟨o,ho,hc,n,hd⟩:=pl
   exact call_list_seq p (.inr rfl) ho hc hd (fun h' c' kp e=>fin its r' hz h' c' kp e) (by simp only[Qg]<;>omega)
theorem zWU:CallR X (.type "tuple") (fun xs H Q=>∃p ys,xs=[.ref p]/\((SqL X.K H p ys/\∀l,H l=none->Q (.ref l) (upd H l (.tup ys)))∨(SqT X.K H p ys/\Q (.ref p) H))):=by
 intro pins s σ H xs us Q I r h
 obtain⟨p,ys,rfl,h⟩:=h
 obtain⟨u,rfl,rx⟩:=qJ r
 cases rx
 rcases h with⟨hq,q⟩ | ⟨hq,q⟩
 · obtain⟨its,r',pl,hz⟩:=I.list hq
   have hlen:=r'.length
   refine call_tuple_list pl.isList (fun h' kp=>?_) (by simp only[Qg]<;>omega)
   have I1:Inv X pins σ H { s with heap:=h' }:=I.kept (t':=s.toks) kp
   have I2:Inv X pins σ (upd H h'.objs.size (.tup ys)) { s with heap:=h'.push { cls:=.type "tuple",data:=.seq its.toArray } } :=
     I1.laid (t':=s.toks) (fun b o e=>Qr _ e) (Ql _) (show ObjOk X.prog X.w _ _ _ (.tup ys) from⟨hz,its,r',IsTup.new _ _⟩)
   exact⟨.ref h'.objs.size,_,I2,rfl,q _ (I1.hok.fresh (Ql _))⟩
 · obtain⟨its,r',pl,hz⟩:=I.tuple hq
   exact call_tuple_same pl ⟨.ref p,H,I,rfl,q⟩
def tyV (K:PySem.W.Frag)(T:String)(x:V)(H:Hp):Prop:=match x with
 | .str _=>T="str"
 | .int _=>T="int"
 | .ref p=>(T="list"/\∃xs,SqL K H p xs)∨(T="tuple"/\∃o,K.lookup p=some o/\o.cls = .type "tuple"/\o.dict=none) ∨
     (T="dict"/\((∃kvs,H p=some (.dK kvs))∨∃kvs,H p=some (.dT kvs)))∨(T="set"/\∃S n,H p=some (.set S n))
 | _=>False
theorem zIW {pins:List (Addr×Obj)}{σ:St}{H:Hp}{s:Shared}{T:String}{x:V}{v:Value}(I:Inv X pins σ H s)(r:RelV x v)(ty:tyV X.K T x H) :
   s.TypeIs v T/\∀a,v = .ref a->∃ob,s.heap.get? a=some ob/\ob.dict=none:=by
 cases x with
 | str z =>
   obtain⟨t,rfl⟩:=r
   cases (show T="str" from ty)
   exact⟨Uz s z t,fun _ e=>nomatch e⟩
 | int i =>
   obtain⟨t,rfl⟩:=r
   cases (show T="int" from ty)
   exact⟨typeIs_int s i t,fun _ e=>nomatch e⟩
 | ref p =>
   cases r
   rcases ty with⟨rfl,xs,hq⟩ | ⟨rfl,o,hk,hc,hd⟩ | ⟨rfl,hk⟩ | ⟨rfl,S,n,hk⟩
   · obtain⟨its,_,pl,_⟩:=I.list hq
     refine⟨pl.isList.typeIs,fun a e=>?_⟩
     cases e
     obtain⟨o,n,e,c,hd,_⟩:=pl
     exact⟨o,e,hd⟩
   · refine⟨⟨o,I.kIn p o hk,hc⟩,fun a e=>?_⟩
     cases e
     exact⟨o,I.kIn _ o hk,hd⟩
   · have z:∃o,s.heap.get? p=some o/\o.ExactDict:=by
       rcases hk with⟨kvs,hk⟩ | ⟨kvs,hk⟩
       · obtain⟨_,_,_,_,o,_,_,e,ex,_⟩:=I.hok p _ hk
         exact⟨o,e,ex⟩
       · obtain⟨_,_,_,_,o,_,_,e,ex,_⟩:=I.hok p _ hk
         exact⟨o,e,ex⟩
     obtain⟨o,e,ex⟩:=z
     refine⟨⟨o,e,ex.1⟩,fun a e2=>?_⟩
     cases e2
     exact⟨o,e,ex.2.1⟩
   · obtain⟨o,_,_,_,e,ex,_⟩:=I.hok p _ hk
     refine⟨⟨o,e,ex.1⟩,fun a e2=>?_⟩
     cases e2
     exact⟨o,e,ex.2.1⟩
 | _=>exact False.elim ty
def tBM (K:PySem.W.Frag)(T:String)(r:V->List V->Hp->VK->Prop)(to:TE)(t:TA):TE:=fun σ H Q=>to σ H fun x H1=>tyV K T x H1/\t σ H1 fun xs H2=>r x xs H2 Q
variable {o e:Expr} {es:List Expr} {to:TE} {t:TA} {name:Str} {apos cpos:Pos} {T id:String} {r:V->List V->Hp->VK->Prop}
theorem uB (pa:PlainAttrs T)(slot:Slot T name id)(hty:typeOf (.builtin id)=pure (.type "method_descriptor"))(hm:MtR X id r)(ho:PE X o to)(ha:PA X (e::es) t)
   (hbase:attributeBase o name X.env (eval o X.env)=eval o X.env:=by rfl)
   (hfew:((backTo cpos (starEach (e::es) X.env)).all (fun x => !x.1)&&(backToKw cpos (keywordEach [] X.env)).all (fun x=>x.1.isSome)
     && decide ((e::es).length+([]:List Keyword).length+(if ([]:List Keyword).isEmpty then 0 else 1) < 30))=true:=by rfl)
   (hline:(apos.endLine==cpos.line)=true:=by rfl) (hs:starEach (e::es) X.env=(false,eval e X.env)::starEach es X.env:=by rfl) (hplain:(backTo cpos (starEach es X.env)).any (·.1)=false:=by rfl) :
   PE X (.Call (.Attribute o name apos) (e::es) [] cpos) (tBM X.K T r to t):=by
 intro pins s σ H Q I h
 refine wpAny_Call_method_late hbase hfew hline rfl (thn (ho pins s σ H _ I h) fun v s1 ⟨x,H1,I1,r1,ty,q1⟩=>?_)
 obtain⟨h1,h2⟩:=zIW I1 r1 ty
 refine⟨T,id,pa,slot,hty,h1,h2,?_⟩
 have hA:=ha cpos pins s1 σ H1 _ I1 q1
 rw[hs] at hA ⊢
 refine Calls.callWith_builtin (by show(false||(backTo cpos (starEach es X.env)).any (·.1))=false;rw[hplain]<;>rfl) (Calls.evalArgs_plain ?_)
 exact thn hA fun us s2 ⟨vs,H2,I2,r2,q2⟩=>hm pins s2 σ H2 x vs v us Q I2 r1 r2 q2
end
def MtM (X:Cx)(id:String)(r:V->List V->Hp->VK->Prop):Prop :=
 ∀(pins:List (Addr×Obj)) (s:Shared) (σ:St) (H:Hp) (x:V) (xs:List V) (v:Value) (us:List Value) (Q:VK),Inv X pins σ H s->RelV x v->Vals xs us->r x xs H Q ->
   wpAny (model X.prog X.w) X.A (call (.builtin id) (v::us)) (EP X pins σ Q) X.xe s
theorem Vals.one:∀ {x:V} {us:List Value},Vals [x] us->∃u,us=[u]/\RelV x u
 | _,_,.cons r .nil=>⟨_,rfl,r⟩
theorem Vals.eraseIdx:∀ {xs:List V} {us:List Value} (i:Nat),Vals xs us->Vals (xs.eraseIdx i) (us.eraseIdx i)
 | _,_,_,.nil=>.nil
 | _,_,0,.cons _ t=>t
 | _,_,i+1,.cons r t=>.cons r (Vals.eraseIdx i t)
theorem Vals.reverse {xs:List V}{us:List Value}(h:Vals xs us):Vals xs.reverse us.reverse:=by
 induction h with
 | nil=>exact .nil
 | cons r t ih=>rw[Yz,Yz];exact Vals.append ih (.cons r .nil)
theorem Vals.rep {xs:List V}{us:List Value}(h:Vals xs us):∀k:Nat,Vals (List.replicate k xs).flatten (List.replicate k us).flatten
 | 0=>.nil
 | k+1=>by
   rw[Wf,Wf,To,To]
   exact Vals.append h (Vals.rep h k)
theorem zWf {α:Type}:∀(l:List α) (i:Nat),(l.eraseIdx i).length<=l.length
 | [],_=>Ql _
 | _::_,0=>Yo _
 | _::r,i+1=>Nat.succ_le_succ (zWf r i)
theorem zW6 (its:List Value):∀(k:Nat) (acc:List Value),
   List.foldl (fun x1 x2=>x1++x2) acc.toArray (List.replicate k its.toArray)=(acc++(List.replicate k its).flatten).toArray
 | 0,acc=>by simp
 | k+1,acc=>by
   have e:acc.toArray++its.toArray=(acc++its).toArray:=by simp
   have e2:(acc++its)++(List.replicate k its).flatten=acc++(List.replicate (k+1) its).flatten:=by
     rw[Wf,To,Ek]
   rw[←e2,←zW6 its k (acc++its),←e,Wf,List.foldl_cons]
section
variable {X:Cx} {pins:List (Addr×Obj)} {σ:St} {H:Hp} {s:Shared} {l:Addr} {xs ys:List V}
theorem Inv.lset {its its':List Value}{n:Nat}{f:Array Value->Array Value}{t':Nat}(I:Inv X pins σ H s)(hH:H l=some (.lst xs))
   (e:s.heap.get? l=some { cls:=.type "list",data:=.seq its.toArray n }) (hf:f its.toArray=its'.toArray) (hv:Vals ys its') (hz:ys.length<=sizeLine) :
   Inv X pins σ (upd H l (.lst ys)) { s with heap:=s.heap.update l (Obj.mapSeq f),toks:=t' }:=by
 have q:=PySem.IsL.update e f
 rw[hf] at q
 refine I.write (x:=l) (e:=l) (by rw[hH];exact trivial) (.inl rfl) (fun b' u hb hu=>(Rf s.heap (Obj.mapSeq f) (Ne.symm hb)).trans hu) ⟨_,q⟩ ?_
 exact⟨hz,its',_,hv,q⟩
theorem Inv.lnew {its:List Value}{t':Nat}(I:Inv X pins σ H s)(hv:Vals ys its)(hz:ys.length<=sizeLine) :
   Inv X pins σ (upd H s.heap.objs.size (.lst ys)) { s with heap:=s.heap.push { cls:=.type "list",data:=.seq its.toArray },toks:=t' } :=
 I.laid (fun _ _ q=>Qr _ q) (Ql _) ⟨hz,its,0,hv,Qk _ rfl⟩
theorem Inv.fresh (I:Inv X pins σ H s):H s.heap.objs.size=none:=I.hok.fresh (Ql _)
theorem Inv.lstM (I:Inv X pins σ H s)(hH:H l=some (.lst xs)):xs.length<=sizeLine/\∃(its:List Value) (n:Nat),Vals xs its/\xs.length=its.length/\s.heap.get? l=some { cls:=.type "list",data:=.seq its.toArray n }:=by
 obtain⟨z,its,n,r,e⟩:=I.hok l _ hH
 exact⟨z,its,n,r,r.length,e⟩
theorem zOw {n:Nat}(h:n<=sizeLine):Builtin.List.listTooLong n=false:=by
 unfold Builtin.List.listTooLong
 exact Qz (by omega)
def zQ0:V->List V->Hp->VK->Prop:=fun x vs H Q=>∃l xs y,x = .ref l/\vs=[y]/\H l=some (.lst xs)/\xs.length < sizeLine/\Q .non (upd H l (.lst (xs++[y])))
theorem vL:MtM X "list.append" zQ0:=by
 intro pins s σ H x vs v us Q I rx rv h
 obtain⟨l,xs,y,rfl,rfl,hH,hz,q⟩:=h
 cases rx
 obtain⟨u,rfl,ru⟩:=rv.one
 obtain⟨z,its,n,r,hl,e⟩:=I.lstM hH
 refine Yu F.slot_list_append ⟨_,e,rfl⟩ F.entry_list_append (F.args_list_append_2 _ _) (PySem.list_append l its.toArray n u (by rw[Qg];omega)) ⟨e,?_⟩
 refine⟨.non,_,I.lset (its':=its++[u]) hH e (by simp) (r.append (.cons ru .nil)) ?_,rfl,q⟩
 rw[Wq,Ei]
 omega
def zNj:V->List V->Hp->VK->Prop:=fun x vs H Q=>∃l xs i k y,x = .ref l/\vs=[.int i]/\H l=some (.lst xs) /\ -(2^63)<=i/\i < 2^63/\seqIndex? i xs.length=some k/\xs[k]?=some y/\Q y (upd H l (.lst (xs.eraseIdx k)))
theorem zOk:MtM X "list.pop" zNj:=by
 intro pins s σ H x vs v us Q I rx rv h
 obtain⟨l,xs,i,k,y,rfl,rfl,hH,h1,h2,hk,hy,q⟩:=h
 cases rx
 obtain⟨u,rfl,ru⟩:=rv.one
 obtain⟨t,rfl⟩:=ru
 obtain⟨z,its,n,r,hl,e⟩:=I.lstM hH
 obtain⟨w,hw,rw'⟩:=r.get hy
 refine Yu F.slot_list_pop ⟨_,e,rfl⟩ F.entry_list_pop (F.args_list_pop_2 _ _)
   (MeetsSeq.list_pop_at l its.toArray n i t k w (fitsIndex_both h1 h2) (by rw[Qg,←hl];exact hk) (by rw[←Array.getElem?_toList];exact hw) (by rw[Qg];omega)) ⟨e,?_⟩
 refine⟨y,_,I.lset (its':=its.eraseIdx k) hH e ?_ (r.eraseIdx k) ?_,rw',q⟩
 · show its.toArray.eraseIdxIfInBounds k=(its.eraseIdx k).toArray
   rw[List.eraseIdxIfInBounds_toArray]
 · have:=zWf xs k
   omega
def zGY:R2:=fun x y H Q=>∃l b xs zs,x = .ref l/\y = .ref b/\H l=some (.lst xs)/\H b=some (.lst zs)/\xs.length+zs.length<=sizeLine/\∀p,H p=none->Q (.ref p) (upd H p (.lst (xs++zs)))
theorem zIM:OpR X (binaryOp .Add) zGY:=by
 intro pins s σ H x y v u Q I rx ry h
 obtain⟨l,b,xs,zs,rfl,rfl,hH,hB,hz,q⟩:=h
 cases rx
 cases ry
 obtain⟨z,its,n,r,hl,e⟩:=I.lstM hH
 obtain⟨z2,its2,n2,r2,hl2,e2⟩:=I.lstM hB
 refine PySem.P.add_list e e2 ?_ (by rw[Qg,Qg];omega)
 have ea:its.toArray++its2.toArray=(its++its2).toArray:=by simp
 rw[ea]
 exact⟨.ref _,_,I.lnew (t':=s.toks) (r.append r2) (by rw[Wq];omega),rfl,q _ I.fresh⟩
def zHw:R2:=fun x y H Q=>∃l k xs,x = .ref l/\y = .int k/\H l=some (.lst xs) /\ -(2^63)<=k/\k < 2^63/\xs.length*k.toNat<=sizeLine /\
 ∀p,H p=none->Q (.ref p) (upd H p (.lst (List.replicate k.toNat xs).flatten))
theorem zMa {α:Type}(xs:List α)(k:Nat):(List.replicate k xs).flatten.length=k*xs.length:=by
 induction k with
 | zero=>simp
 | succ k ih=>rw[Wf,To,Wq,ih,Nat.succ_mul,Nat.add_comm]
theorem zJr:OpR X (binaryOp .Mult) zHw:=by
 intro pins s σ H x y v u Q I rx ry h
 obtain⟨l,k,xs,rfl,rfl,hH,h1,h2,hz,q⟩:=h
 cases rx
 obtain⟨t,rfl⟩:=ry
 obtain⟨z,its,n,r,hl,e⟩:=I.lstM hH
 have hlen:its.toArray.size*k.toNat<=sizeLine:=by rw[Qg,←hl];exact hz
 have hcap:¬its.toArray.size*k.toNat > (2^63 - 1) / 8:=by
   have:(sizeLine:Nat)<=(2^63 - 1) / 8:=by decide
   omega
 have hfit:¬(!Builtin.List.listFitsIndex k)=true:=by
   rw[fitsIndex_both h1 h2]
   exact Qj
 have hlong:¬Builtin.List.listTooLong (its.toArray.size*k.toNat)=true:=by
   rw[zOw hlen]
   exact Qj
 have hnew:List.foldl (fun x1 x2=>x1++x2) #[] (List.replicate (if its.toArray.isEmpty=true then 0 else k.toNat) its.toArray)=(List.replicate k.toNat its).flatten.toArray:=by
   have f0:∀m:Nat,List.foldl (fun x1 x2=>x1++x2) #[] (List.replicate m its.toArray)=(List.replicate m its).flatten.toArray:=fun m=>by
     have:=zW6 its m []
     rw[Wn] at this
     exact this
   rw[f0]
   cases its with
   | nil=>simp
   | cons a r'=>rw[Ws (by simp)]
 refine wpAny_binaryOp_repeat_ref (T:="list") (U:="int") (by decide) ⟨_,e,rfl⟩ (fun s'=>typeIs_int s' k t) noFill_list_mul F.fills_int_mul F.slot_int_rmul repeat_list F.slot_int_index.lookup
   (Yu F.slot_int_rmul (typeIs_int s k t) F.entry_int_rmul (F.args_int_rmul_2 _ _) (int___rmul___int_list k t l its.toArray n)
     ⟨e,rfl,⟨_,e,rfl⟩,Yu F.slot_list_mul ⟨_,e,rfl⟩ F.entry_list_mul (F.args_list_mul_2 _ _) (AutoListH.list___mul___list_int_3 l its.toArray n k t hfit hcap hlong) ⟨e,?_⟩⟩)
 rw[hnew]
 exact⟨.ref _,_,I.lnew (t':=s.toks) (r.rep k.toNat) (by rw[zMa,Nat.mul_comm];exact hz),rfl,q _ I.fresh⟩
end
end L2
namespace Att
open PySem PySem.W PySem.Calls PyProof.Rows
theorem zYS {P:Params}{h:Heap}:∀(ns:List Int) (vs:List Value),WellAll P h vs (ns.map WData.int)->IntsAre vs ns:=by
 intro ns
 induction ns with
 | nil =>
   intro vs w
   rw[Wv] at w
   cases w
   exact .nil
 | cons n ns ih =>
   intro vs w
   rw[Qp] at w
   cases w with
   | cons a b =>
     cases a
     exact .cons _ _ (ih _ b)
theorem zPm {l:OpenLaw}{n:Nat}(hn:l.most=some n){P:Params}{h:Heap}{args:List WData}{vals:List Value}
   (hpre:l.row.toRowW.claim.pre args=true) (hwl:WellAll P h vals args) :
   ∃a vs ns,vals=[Value.ref a]/\args=[WData.list (ns.map WData.int)]/\h.get? a=some { cls:=.type "list",data:=.seq vs.toArray }/\IntsAre vs ns/\ns.length<=n:=by
 have hsh:WShape.hasAll [] args [.list .int]=true:=(pre_splitW hpre).1
 have hc:l.pre.holds [] { args:=args }=true:=(pre_splitW hpre).2
 obtain⟨d,r,rfl,h1,h2⟩:=hasAllW_cons hsh
 obtain rfl:=hasAllW_nil h2
 obtain⟨xs,rfl,h3⟩:=hasW_list h1
 obtain⟨ns,rfl⟩:=items_int h3
 have hlen:ns.length<=n:=by
   unfold OpenLaw.pre at hc
   have h4:(WTm.not (.lt (.lit (.int (n:Int))) (.len (.arg 0)))).holds [] { args:=[.list (ns.map .int)] }=true:=by
     have h4:=(holds_andW hc).1
     rw[hn] at h4
     exact h4
   have h5:=condW_of h4 (w_not (w_lt w_lit (w_len_list (w_arg rfl))))
   rw[Qy] at h5
   refine Nat.le_of_not_lt fun q=>?_
   have q':(n:Int) < ((ns.length:Nat):Int):=by omega
   first
     | (rw[Qi q'] at h5;exact absurd h5 (by decide))
     | (simp at h5;omega)
 cases hwl with
 | cons w1 w2 =>
   cases w2
   cases w1 with
   | list ho hall=>exact⟨_,_,ns,rfl,rfl,ho,zYS ns _ hall,hlen⟩
theorem zQr (l:OpenLaw)(args:List WData):l.row.toRowW.claim.post args (.bool true) args=true :=
 postW_of (r:=l.row.toRowW) (X:=(true==true))
   (show WShape.has [] (.bool true) .bool=true by first | rfl | decide | simp[WShape.has,WShape.arms,WShape.armsAll])
   (show(WTm.eq .res (.lit (.bool true))).value [] { args:=args,res:=some (.bool true),after:=args }=some (.bool (true==true)) from w_eq_bool (w_res rfl) w_lit) rfl
end Att
namespace L2
open PySem PySem.Spec PyProof.Rows
theorem zZz:∀ {vs:List Value} {ns:List Int},IntsAre vs ns->Vals (ns.map V.int) vs
 | _,_,.nil=>.nil
 | _,_,.cons n t h=>.cons ⟨t,rfl⟩ (zZz h)
def zJj (H:Hp):Prop:=∀b,H b=none∨∃o xs,H b=some (.frz o (.lst xs))
theorem zM7 {P:Program}{w:World}{K:PySem.W.Frag}{mg mb:Str->Option Value}{CX:CXT}{k:Nat}{fa a:Addr}{fd:FuncData}{x:Str}{sp:Sp}{s₁:Shared}{vs:List Value}{ns:List Int}
   (KX:K.In s₁.heap) (hns:s₁.heap.Ns mainGlobals mg) (hb:s₁.heap.Ns builtinsNs mb) (hbb:∀x:Str,x≠"__name__"->mb x=bootBuiltins x) (hlim:s₁.heap.NoLimit) (hg:s₁.gens=#[])
   (ha:s₁.heap.get? a=some { cls:=.type "list",data:=.seq vs.toArray }) (hi:IntsAre vs ns) (hl:ns.length<=sizeLine) (hr:Room k callerA)
   (F:∀base:Heap,K.In base->base.Ns mainGlobals mg->FnOk P w K mg base CX k fa fd [x] sp) (hbind:∀(s:Shared) (u:Value),BindsTo s fd ⟨[u],[]⟩ [(x,u)])
   (hsp:∀H:Hp,zJj H->SqL K H a (ns.map V.int)->sp [.ref a] H (fun v _=>v = .bl true) fun _ _ _=>False)
   (hCX:∀H e s',CX [] H s₁ (fun _ _ _=>False) e s'->False) :
   codeAny (model P w) callerA (.call (.ref fa) ⟨[.ref a],[]⟩) (fun r s'=>r = .ok (.ret (.bool true))/\OldK s₁.heap s'.heap/\s'.os=s₁.os/\AllBare s'.gens) s₁:=by
 have rv:=zZz hi
 have lenV:=hi.length
 -- from an abstract heap in which nothing but the script may be tracked
 have core:∀H:Hp,zJj H->SqL K H a (ns.map V.int)->HOk P w H s₁.heap->(∀b,H b≠none->b=a)->(H a≠none->K.lookup a=none) ->
     codeAny (model P w) callerA (.call (.ref fa) ⟨[.ref a],[]⟩) (fun r s'=>r = .ok (.ret (.bool true))/\OldK s₁.heap s'.heap/\s'.os=s₁.os/\AllBare s'.gens) s₁:=by
   intro H hO hS hok hA hK
   have base_of:∀ {b:Addr} {o:Obj},s₁.heap.get? b=some o->H b=none->(zUO s₁.heap H).get? b=some o:=fun e n=>zNI e n
   have noA:∀ {b:Addr} {o:Obj} {es:Array DictEntry} {ep:Nat},s₁.heap.get? b=some o->o.data = .dict es ep->H b=none:=fun {b o es ep} e d=>by
     cases q:H b with
     | none=>rfl
     | some u =>
       have e':b=a:=hA b (by rw[q];simp)
       subst e'
       rw[ha] at e;cases e
       have d':Data.seq vs.toArray _=Data.dict es ep:=d
       cases d'
   have nsK:∀ {b:Addr} {m:Str->Option Value},s₁.heap.Ns b m->(zUO s₁.heap H).Ns b m:=fun {b m} ⟨o,es,ep,e,d,r⟩=>⟨o,es,ep,base_of e (noA e d),d,r⟩
   have hKb:K.In (zUO s₁.heap H):=fun b o e=>base_of (KX b o e) (by
     cases q:H b with
     | none=>rfl
     | some u =>
       have e':b=a:=hA b (by rw[q];simp)
       subst e'
       rw[hK (by rw[q];simp)] at e;cases e)
   have hM:Mod K mg (zUO s₁.heap H):=⟨hKb,nsK hns,⟨mb,nsK hb,hbb⟩,let ⟨mc,h1,h2⟩:=hlim;⟨mc,nsK h1,h2⟩⟩
   have e0:Env0 P w K mg (zUO s₁.heap H) callerA [] s₁ H:=⟨rfl,hM,fun b o e=>zLt e,Ua (zOT _ _),trivial,fun b hb=>absurd (show b∈([]:List Addr) from hb) (by simp),hok,.of_eq hg⟩
   refine Ix ((F _ hKb (nsK hns)).run callerA [] s₁ H ⟨[.ref a],[]⟩ [.ref a] [.ref a] _ _ hr e0 (hbind s₁ (.ref a)) (.cons rfl .nil) (hsp H hO hS)) fun r s' h=>?_
   cases r with
   | error e=>exact(hCX H e s' h).elim
   | ok fl =>
     cases fl with
     | next=>exact False.elim h
     | brk=>exact False.elim h
     | cont=>exact False.elim h
     | ret u =>
       obtain⟨v,H',os,bare,un,hok',r',q⟩:=h
       have q':v = .bl true:=q
       subst q'
       obtain rfl:u=Value.bool true:=r'
       refine⟨rfl,OldK.of_keep fun b o e=>?_,os,bare⟩
       cases q:H b with
       | none=>exact un.keep b o e q (by intro z;exact absurd (show b∈([]:List Addr) from z) (by simp)) (by simp)
       | some u =>
         rcases hO b with z | ⟨ob,xs,z⟩
         · rw[q] at z;cases z
         · have z2:=un.frzs b ob _ z
           obtain⟨e1,_⟩:=hok b _ z
           obtain⟨e2,_⟩:=hok' b _ z2
           rw[e] at e1;cases e1
           exact e2
 cases hk:K.lookup a with
 | some o =>
   -- the script is one of the module's own objects
   have e:=KX a o hk
   rw[ha] at e
   cases e
   refine core (fun _=>none) (fun _=>.inl rfl) (.inr ⟨_,vs.toArray,_,hk,rfl,rfl,rfl,by rw[Qg,lenV];exact hl,by simpa using rv⟩) (fun b u z=>by have z':(none:Option HO)=some u:=z;cases z') (fun b z=>absurd rfl z) fun z=>absurd rfl z
 | none =>
   refine core (fun b=>if b=a then some (.frz { cls:=.type "list",data:=.seq vs.toArray } (.lst (ns.map V.int))) else none) (fun b=>?_) (.inl (.inr ⟨{ cls:=.type "list",data:=.seq vs.toArray },Qb rfl⟩)) (fun b u z=>?_) (fun b z=>?_) fun _=>hk
   · by_cases hb:b=a
     · exact .inr ⟨_,_,Qb hb⟩
     · exact .inl (Ws hb)
   · by_cases hb:b=a
     · have z':=(Qb hb).symm.trans z
       cases z'
       subst hb
       exact⟨ha,by rw[Qy];exact hl,vs,_,rv,ha⟩
     · have z':=(Ws hb).symm.trans z
       cases z'
   · by_cases hb:b=a
     · exact hb
     · exact absurd (Ws hb) z
abbrev CX0:CXT:=fun _ _ _ _ _ _=>False
abbrev E0:XK:=fun _ _ _=>False
theorem zQQ {X:Cx}:zYs CX0 X E0:=fun _ _ _ _ _ _ _ h=>h.elim
structure Fun (K:PySem.W.Frag)(x qual:Str)(st:Stmt)(f:Addr)(fd:FuncData):Prop where
 ex:∃(oc:Value) (od:Option Addr) (kV doc pm:Value) (an:Option Addr) (cdv ct:Value) (osl:Array (Option Value)),
   fd=PySem.W.fnOf x qual (vC st) (wJ st) (zS st) .none kV doc pm an cdv ct/\K.lookup f=some ⟨oc,od,.func fd,osl⟩/\PySem.W.codeIn K cdv qual=true
 kp:PySem.W.keepIn K (.ref f)=true
section
variable {P:Program} {w:World} {K:PySem.W.Frag} {mg:Str->Option Value} {base:Heap}
theorem Fun.ok {x qual:Str}{st:Stmt}{f:Addr}{fd:FuncData}{N ps:List Str}{k:Nat}{sp:Sp}(F:Fun K x qual st f fd)(S:FnScope N ps (zS st))(len:∀vs H Q E,sp vs H Q E->vs.length=ps.length)
   (hbody:∀(cdv:Value) (A:Around) (outer:List Env) (s:Shared) (H:Hp) (vs:List V) (Q:VK) (E:XK),Room k (A.deeper (envOfC qual (zS st) s.heap.objs.size f cdv))->sp vs H Q E ->
     ∃t,PSs (zXs CX0 P w K mg base N qual (zS st) f cdv A outer s H E).nox (wJ st) t/\t { nx:=fun _ H'=>Q .non H',rt:=Q } (iM N vs) H):FnOk P w K mg base CX0 (k+1) f fd ps sp:=by
 obtain⟨oc,od,kV,doc,pm,an,cdv,ct,osl,rfl,lk,hcd⟩:=F.ex
 refine zK3 lk hcd S len fun A outer s H vs Q E hr hsp=>?_
 obtain⟨t,h,q⟩:=hbody cdv A outer s H vs Q E hr hsp
 exact⟨t,h.nox,q⟩
theorem Fun.binds {x qual:Str}{st:Stmt}{f:Addr}{fd:FuncData}{ps:List Str}(F:Fun K x qual st f fd)
   (h:∀(kV doc pm:Value) (an:Option Addr) (cdv ct:Value) (us:List Value),us.length=ps.length->bindArgs (PySem.W.fnOf x qual (vC st) (wJ st) (zS st) .none kV doc pm an cdv ct) ⟨us,[]⟩=pure (ps.zip us)):Binds K fd ps []:=by
 obtain⟨oc,od,kV,doc,pm,an,cdv,ct,osl,rfl,lk,hcd⟩:=F.ex
 exact .all (h kV doc pm an cdv ct)
theorem zXE {x qual:Str}{st:Stmt}{f:Addr}{oc:Value}{od an:Option Addr}{osl:Array (Option Value)}{kV doc pm cdv ct:Value}(l:K.lookup f=some ⟨oc,od,.func (PySem.W.fnOf x qual (vC st) (wJ st) (zS st) .none kV doc pm an cdv ct),osl⟩)
   (c:PySem.W.codeIn K cdv qual=true) (k:PySem.W.keepIn K (.ref f)=true):Fun K x qual st f (PySem.W.fnOf x qual (vC st) (wJ st) (zS st) .none kV doc pm an cdv ct):=⟨⟨oc,od,kV,doc,pm,an,cdv,ct,osl,rfl,l,c⟩,k⟩
variable {X:Cx}
theorem pv (i:Nat){x:Str}{pos:Pos}(hN:X.N[i]?=some x:=by rfl)(hv:Vis X.env.scope x:=by first | exact Or.inl rfl | exact Or.inr (Or.inl rfl) | exact Or.inr (Or.inr rfl))(hd:(x==("__debug__":Str))=false:=by decide)
   (hcd:(x==("__classdict__":Str))=false:=by decide):PE X (.Name x pos) (zLC i):=lL hN hv hd hcd
end
def Same (H H':Hp):Prop:=∀b o,H b=some o->H' b=some o
theorem Same.refl (H:Hp):Same H H:=fun _ _ h=>h
theorem Same.trans {H H1 H2:Hp}(a:Same H H1)(b:Same H1 H2):Same H H2:=fun c o h=>b c o (a c o h)
theorem Same.free {H H':Hp}(e:Same H H'){l:Addr}(h:H' l=Option.none):H l=Option.none:=by
 cases q:H l with
 | none=>rfl
 | some o =>
   rw[e l o q] at h
   cases h
theorem Same.seq {K:PySem.W.Frag}{H H':Hp}{a:Addr}{xs:List V}(e:Same H H')(h:SqL K H a xs):SqL K H' a xs:=by
 rcases h with(h | ⟨o,h⟩) | h
 · exact .inl (.inl (e _ _ h))
 · exact .inl (.inr ⟨o,e _ _ h⟩)
 · exact .inr h
section
variable {prog:Program} {w:World} {A:Around} {R:Result->Shared->Prop} {s:Shared}
abbrev F0:Value->Shared->Prop:=fun _ _=>False
theorem zWb {α:Type}{t:Sem α}{Q Q':α->Shared->Prop}{M:Model}{A:Around}{E:Value->Shared->Prop}{s:Shared}(h:wpAny M A t Q F0 s)(hq:∀a s,Q a s->Q' a s):wpAny M A t Q' E s:=Ih h hq fun _ _ z=>z.elim
theorem zY9 {elt target iter:Expr}{ifs:List Expr}{scope:Scope}{pos:Pos}{it acc:Value}{env:Env}(I:Nat->Shared->Prop)
   (turn:∀n s,I n s->wpAny (model prog w) A (pyNext it) (fun r s₁=>match r with
     | none=>R (.ok .next) s₁
     | some v=>wpAny (model prog w) A (letOwnedTupleGo target it v) (fun _ s₁=>wpAny (model prog w) A (assign target env v) (fun _ s₂ =>
         wpAny (model prog w) A (forIn ifs true fun c r=>if r=true then do let ok ←isTrue c env (eval c env);pure (ForInStep.yield ok) else pure (ForInStep.yield r)) (fun ok s₃ =>
           if ok=true then wpAny (model prog w) A (eval elt env) (fun x s₄ =>
             wpAny (model prog w) A (call (.builtin "list.append") [acc,x]) (fun _ s₅ => ∃m,m < n/\I m s₅) F0 s₄) F0 s₃
           else ∃m,m < n/\I m s₃) F0 s₂) F0 s₁) F0 s₁) F0 s)
   (n:Nat) (h:I n s) :
   codeAny (model prog w) A (.compLoop (.ListComp elt [⟨target,iter,ifs,0⟩] scope pos) 0 it acc env) R s:=by
 refine codeAny_loop rfl I (fun n s hI=>?_) n h
 show wpAny _ A ((compTurn (.ListComp elt [⟨target,iter,ifs,0⟩] scope pos) 0 it acc env).onRaise (fun x=>do noteFrame x env;theTreesLotGoes x)) _ _ s
 refine wpAny_noted ?_
 rw[compTurn_list]
 refine Qe (wpAny_standAt (Qe (zWb (turn n s hI) (fun r s₁ h₁=>?_))))
 cases r with
 | none=>exact Qf h₁
 | some v =>
   refine Qe (zWb h₁ fun _ s₁' h₁'=>?_)
   refine Qe (zWb h₁' fun _ s₂ h₂=>Qe (zWb h₂ fun ok s₃ h₃ => ?_))
   cases ok with
   | false=>exact Qf ⟨rfl,h₃⟩
   | true =>
     exact Qe (Qe (zWb h₃ fun x s₄ h₄ => Qe (zWb h₄ fun _ s₅ h₅ => Qf (Qf ⟨rfl,h₅⟩))))
end
theorem fW {env:Env}(x:Str):∀(names:List (Str×NameKind)),
   (names.map fun(n,k)=>if (k==NameKind.free&&env.scope.kind == .function&&env.kindOf n==some .cell) then(n,NameKind.cell) else(n,k)).lookup x
     = (names.lookup x).map fun k=>if (k==NameKind.free&&env.scope.kind == .function&&env.kindOf x==some .cell)=true then NameKind.cell else k
 | []=>rfl
 | (n,k)::r=>by
   have ih:=fW (env:=env) x r
   rw[Qp]
   cases hx:x==n with
   | true =>
     have e:x=n:=eq_of_beq hx
     subst e
     by_cases hc:(k==NameKind.free&&env.scope.kind == .function&&env.kindOf x==some .cell)=true
     · simp only[hc,Rq,Eo,Rh,Ww]
     · simp only[hc,Ro,Eo,Rh,Ww,Wo]
   | false =>
     by_cases hc:(k==NameKind.free&&env.scope.kind == .function&&env.kindOf n==some .cell)=true
     · simp only[hc,Rq,Eo,hx];exact ih
     · simp only[hc,Ro,Eo,hx,Wo];exact ih
def dW (env:Env):List (Str×NameKind)->List (Str×Addr)->List (Str×Addr)
 | [],acc=>acc
 | (n,k)::r,acc=>dW env r (if k = .free then(match env.cells.lookup n with | some c=>(n,c)::acc | none=>acc) else acc)
theorem zS2 {env:Env}{scope:Scope}(h:∀p∈scope.names,p.2 = .free->∃c,env.cells.lookup p.1=some c):closureFor scope env=pure (dW env scope.names []):=by
 have gen:∀(l:List (Str×NameKind)) (acc:List (Str×Addr)),(∀p∈l,p.2 = .free->∃c,env.cells.lookup p.1=some c) ->
     (forIn l acc fun x r=>if (x.2==NameKind.free)=true then(do let a ←cellOf env x.1;pure (ForInStep.yield ((x.1,a)::r))) else pure (ForInStep.yield r):Sem (List (Str×Addr)))=pure (dW env l acc):=by
   intro l
   induction l with
   | nil=>intro acc _;rfl
   | cons p r ih =>
     intro acc hp
     obtain⟨n,k⟩:=p
     rw[Ys]
     have hr:∀p∈r,p.2 = .free->∃c,env.cells.lookup p.1=some c:=fun p hm=>hp p (Qd _ hm)
     by_cases hk:k = .free
     · subst hk
       obtain⟨c,hc⟩:=hp (n,.free) Qh rfl
       have e:cellOf env n=pure c:=by unfold cellOf;rw[hc]
       simp only[Rh,Rq,e]
       show(forIn r ((n,c)::acc) _:Sem _)=_
       rw[ih _ hr]
       show _=(pure (dW env r (if NameKind.free=NameKind.free then(match env.cells.lookup n with | some c=>(n,c)::acc | none=>acc) else acc)):Sem _)
       rw[Qb rfl,hc]
     · have hb:(k==NameKind.free)=false:=by simpa using hk
       simp only[hb,Wo,Ro]
       show(forIn r acc _:Sem _)=_
       rw[ih _ hr]
       show _=(pure (dW env r (if k=NameKind.free then(match env.cells.lookup n with | some c=>(n,c)::acc | none=>acc) else acc)):Sem _)
       rw[Ws hk]
 have q:=gen scope.names [] h
 simp only[closureFor]
 rw[q]
 rfl
theorem zXY {env:Env}:∀(l:List (Str×NameKind)) (acc:List (Str×Addr)),(∀x c,acc.lookup x=some c->env.cells.lookup x=some c)->∀x c,(dW env l acc).lookup x=some c->env.cells.lookup x=some c
 | [],_,h=>h
 | (n,k)::r,acc,h=>by
   refine zXY r _ ?_
   by_cases hk:k = .free
   · rw[Qb hk]
     cases e:env.cells.lookup n with
     | none=>exact h
     | some c =>
       intro x c' hx
       rw[Eo] at hx
       cases q:x==n with
       | true=>rw[q] at hx;cases hx;rw[eq_of_beq q];exact e
       | false=>rw[q] at hx;exact h x c' hx
   · rw[Ws hk];exact h
theorem zUd {env:Env}:∀(l:List (Str×NameKind)) (acc:List (Str×Addr)) (x:Str),(acc.lookup x).isSome=true->((dW env l acc).lookup x).isSome=true
 | [],_,_,h=>h
 | (n,k)::r,acc,x,h=>by
   refine zUd r _ x ?_
   by_cases hk:k = .free
   · rw[Qb hk]
     cases e:env.cells.lookup n with
     | none=>exact h
     | some c =>
       show(List.lookup x ((n,c)::acc)).isSome=true
       rw[Eo]
       cases q:x==n with
       | true=>rfl
       | false=>exact h
   · rw[Ws hk];exact h
theorem zYl {env:Env}:∀(l:List (Str×NameKind)) (acc:List (Str×Addr)),(∀p∈l,p.2 = .free->∃c,env.cells.lookup p.1=some c)->∀x,(x,NameKind.free)∈l->((dW env l acc).lookup x).isSome=true
 | [],_,_,_,h=>nomatch h
 | (n,k)::r,acc,hp,x,h=>by
   rcases Qa.mp h with e | h
   · cases e
     obtain⟨c,hc⟩:=hp (n,.free) Qh rfl
     show((dW env r (if NameKind.free=NameKind.free then(match env.cells.lookup n with | some c=>(n,c)::acc | none=>acc) else acc)).lookup n).isSome=true
     rw[Qb rfl,hc]
     exact zUd r _ n (by simp[Eo])
   · exact zYl r _ (fun p hm=>hp p (Qd _ hm)) x h
def jF (sc scope:Scope)(N tgs frees:List Str)(js:List Nat):Bool :=
 scope.kind == .function&&scope.names.all (fun p=>p.2 != .cell&&(p.2 != .free||sc.names.lookup p.1==some .cell||sc.names.lookup p.1==some .free)&&(p.2 != .local||scope.names.lookup p.1==some .local))
   && tgs.all (fun x=>scope.names.lookup x==some .local)&&frees.all (fun x=>scope.names.lookup x==some .free)&&(js.map fun j=>N[j]?)==frees.map some
def upC (m:Nat)(js:List Nat)(σ:St):St:=List.replicate m none++js.map fun j=>(σ[j]?).join
def uC (X:Cx)(Nc:List Str)(scope:Scope)(C:Addr)(s₀:Shared)(H₀:Hp)(fp:List Addr):Cx where
 prog:=X.prog
 w:=X.w
 K:=X.K
 mg:=X.mg
 base:=X.base
 A:=X.A
 N:=Nc
 s₀:=s₀
 H₀:=H₀
 env:=compEnvC scope (dW X.env scope.names []) C X.env
 outer:=X.stack
 stack:=X.stack
 ex:=fp
 fn:=fun _=>false
 calm:=X.calm
 pn:=[]
 xe:=F0
def zRG (X:Cx)(ifs:List Expr)(t:TT):Prop :=
 ∀(pins:List (Addr×Obj)) (s:Shared) (σ:St) (H:Hp) (Q:Bool->Hp->Prop),Inv X pins σ H s->t σ H Q ->
   wpAny (model X.prog X.w) X.A (forIn ifs true fun c r=>if r=true then do let ok ←isTrue c X.env (eval c X.env);pure (ForInStep.yield ok) else pure (ForInStep.yield r)) (TP X pins σ Q) X.xe s
def zHl:TT:=fun _ H Q=>Q true H
theorem zNm {X:Cx}:zRG X [] zHl:=fun _ _ _ H _ I h=>wpAny_tests_nil ⟨H,I,h⟩
theorem zNn {X:Cx}{c:Expr}{t:TT}(h:PT X c t):zRG X [c] t:=fun pins s σ H Q I hq=>wpAny_tests_one (h pins s σ H Q I hq)
def zIy (J:It)(m:Nat)(js:List Nat)(g:TG)(tc:TT)(te:TE)(σ:St)(H1:Hp)(Q:VK):Prop:=∀D,H1 D=none ->
 ∃W:Nat->Nat->St->Hp->Prop,(∃k,W 0 k (upC m js σ) (upd H1 D (.lst [])))/\∀i k σ' H',W i k σ' H' ->
   (J.stop i H'/\Q (.ref D) H')∨(J.go i H'/\∀x H2,J.yld i H' x H2->g x σ' H2 fun σ2 H3=>tc σ2 H3 fun b H4=>if b=true then te σ2 H4 fun y H5=>∃ys k',H5 D=some (.lst ys)/\ys.length < sizeLine/\k' < k/\W (i+1) k' σ2 (upd H5 D (.lst (ys++[y])))
     else ∃k',k' < k/\W (i+1) k' σ2 H4)
section
variable {X:Cx} {pins:List (Addr×Obj)} {σ:St} {H2:Hp} {s2:Shared} {tg elt iter:Expr} {ifs:List Expr} {scope sc:Scope} {pos:Pos} {tgs frees:List Str} {js:List Nat} {g:TG} {te:TE} {tc:TT}
theorem rD {N:List Str}(h:jF sc scope N tgs frees js=true):scope.kind = .function/\(∀p∈scope.names,p.2 ≠ .cell)/\(∀p∈scope.names,p.2 = .free->sc.names.lookup p.1=some .cell∨sc.names.lookup p.1=some .free) /\
   (∀p∈scope.names,p.2 = .local->scope.names.lookup p.1=some .local)/\(∀x∈tgs,scope.names.lookup x=some .local)/\(∀x∈frees,scope.names.lookup x=some .free)/\(js.map fun j=>N[j]?)=frees.map some:=by
 unfold jF at h
 simp only[Qx,Qv,bne_iff_ne,ne_eq,Tj,Ul] at h
 obtain⟨⟨⟨⟨h1,h2⟩,h3⟩,h4⟩,h5⟩:=h
 refine⟨h1,fun p hp=>(h2 p hp).1.1,fun p hp e=>?_,fun p hp e=>?_,h3,h4,h5⟩
 · rcases(h2 p hp).1.2 with(q | q) | q
   · exact absurd e q
   · exact .inl q
   · exact .inr q
 · rcases(h2 p hp).2 with q | q
   · exact absurd e q
   · exact q
theorem zRz {C:Addr}{s3:Shared}{H3:Hp}{h4:Heap}{tk:Nat}{fp:List Addr}{m0:Str->Option Value}(I:Inv X pins σ H3 s3)(f3:∀b∈fp,mX X pins H3 b)(ofp:∀b∈fp,b < s3.heap.objs.size)
   (hsc:X.env.scope=sc) (hok:jF sc scope X.N tgs frees js=true) (hC:C=s3.heap.objs.size) (hk:∀b o,s3.heap.get? b=some o->h4.get? b=some o) (hn:h4.Ns C m0) :
   Inv (uC X (tgs++frees) scope C s3 H3 fp) [] (upC tgs.length js σ) H3 { s3 with heap:=h4,toks:=tk }:=by
 obtain⟨k1,k2,k3,k4,k5,k6,k7⟩:=rD hok
 have hcl:∀x c,(dW X.env scope.names []).lookup x=some c->X.env.cells.lookup x=some c:=zXY scope.names [] (fun _ _ z=>nomatch z)
 have hfr:∀p∈scope.names,p.2 = .free->∃c,X.env.cells.lookup p.1=some c:=fun p hp e=>I.ok.has p.1 (by
   show X.env.scope.names.lookup p.1=_∨X.env.scope.names.lookup p.1=_
   rw[hsc];exact k3 p hp e)
 have rl:∀x,(relabel scope X.env).names.lookup x=(scope.names.lookup x).map fun k=>if (k==NameKind.free&&X.env.scope.kind == .function&&X.env.kindOf x==some .cell)=true then NameKind.cell else k:=fun x=>fW x scope.names
 have hasc:∀x,((relabel scope X.env).names.lookup x=some .cell∨(relabel scope X.env).names.lookup x=some .free)->∃c,(dW X.env scope.names []).lookup x=some c:=fun x hx=>by
   rw[rl x] at hx
   cases e:scope.names.lookup x with
   | none=>rw[e] at hx;simp at hx
   | some k =>
     have hm:=Em e
     have hkf:k = .free:=by
       rw[e] at hx
       simp only[Ww,Option.some.injEq] at hx
       by_cases q:k = .free
       · exact q
       · have hb:(k==NameKind.free)=false:=by simpa using q
         rw[hb] at hx
         simp only[Bool.false_and,Wo,Ro] at hx
         rcases hx with z | z
         · exact absurd z (k2 _ hm)
         · exact z
     subst hkf
     exact Ec.mp (zYl scope.names [] hfr x hm)
 have cfr:∀x c,X.env.cells.lookup x=some c->c≠C:=fun x c e z=>by
   obtain⟨v,q⟩:=I.cell x c e
   exact absurd (z ▸ q.lt) (by rw[hC];exact Wr _)
 have base0:∀b o,X.base.get? b=some o->b∉fp:=fun b o e hb=>by
   obtain⟨_,_,_,q,_⟩:=f3 b hb
   rcases q with q | q
   · exact I.ok.noex b o e q
   · exact absurd (We (Qs (I.ok.bs b o e).1) q) (Wr _)
 have stk:∀b∈fp,b∉frs X.stack:=fun b hb z=>by
   obtain⟨_,q1,q2,_⟩:=f3 b hb
   rcases Qa.mp (I.stkSub b z) with e | e
   · exact q1 e
   · exact q2 e
 refine⟨⟨I.ok.mod,k1,I.ok.glob,I.ok.blt,by rw[hC];exact Ql _,fun x y c e1 e2=>I.ok.inj x y c (hcl x c e1) (hcl y c e2),hasc,(fun x c z _=>nomatch z),I.ok.hd,I.ok.frames,.inl rfl,
     fun b hb=>⟨fun z=>absurd (ofp b hb) (by rw[show b=C from z,hC];exact Wr _),fun x c e=>(f3 b hb).2.2.2.2.1 x c (hcl x c e)⟩,
     fun b o e=>I.bs b o e,Ey I.ok.bsz I.sz,base0,stk,I.stack,I.stkFree⟩,
   rfl,I.bare,Un.kept hk,⟨m0,hn,fun i x v e1 e2 e3=>?_⟩,fun x c e=>?_,I.hok.fresh (by rw[show(uC X (tgs++frees) scope C s3 H3 fp).env.locals=C from rfl,hC];exact Ql _),fun x c e=>I.freeC x c (hcl x c e),
   fun p hp=>absurd (show p∈([]:List (Addr×Obj)) from hp) (by simp),I.hok.kept hk,?_⟩
 · -- a name's value
   have hi:tgs.length<=i:=by
     refine Nat.le_of_not_lt fun hlt=>?_
     have e2:(upC tgs.length js σ)[i]?=some (some v):=e2
     unfold upC at e2
     rw[Ej (by simpa using hlt),Ri] at e2
     split at e2<;>cases e2
   have e2:(upC tgs.length js σ)[i]?=some (some v):=e2
   unfold upC at e2
   rw[Wc (by simpa using hi),Ev,Wp] at e2
   have e1:(tgs++frees)[i]?=some x:=e1
   rw[Wc hi] at e1
   obtain⟨j,ej,e2⟩:=Qt.mp e2
   have hj:X.N[j]?=some x:=by
     have q:=Ea (fun l=>l[i - tgs.length]?) k7
     simp only[Wp,ej,e1,Ww] at q
     exact Ep q
   have hσ:σ[j]?=some (some v):=by
     cases q:σ[j]? with
     | none=>rw[q] at e2;cases e2
     | some o=>rw[q] at e2;exact Ea some e2
   have hf:scope.names.lookup x=some .free:=k6 x (Ye e1)
   have hX:X.env.kindOf x=some .cell∨X.env.kindOf x=some .free:=by
     show X.env.scope.names.lookup x=_∨X.env.scope.names.lookup x=_
     rw[hsc];exact k3 _ (Em hf) rfl
   obtain⟨m,_,hl⟩:=I.loc
   obtain⟨u,r,l⟩:=hl j x v hj hσ (by
     rcases hX with q | q
     · exact .inr (.inl q)
     · exact .inr (.inr q))
   refine⟨u,r,.inr ⟨?_,?_⟩⟩
   · show(relabel scope X.env).names.lookup x=_∨(relabel scope X.env).names.lookup x=_
     rw[rl x,hf]
     by_cases q:(NameKind.free==NameKind.free&&X.env.scope.kind == .function&&X.env.kindOf x==some .cell)=true
     · exact .inl (by rw[Ww,Qb q])
     · exact .inr (by rw[Ww,Ws q])
   · rcases l with⟨q,_⟩ | ⟨_,c,ec,hcell⟩
     · rcases hX with z | z<;>(rw[z] at q;cases q)
     · obtain⟨c',ec'⟩:=Ec.mp (zYl scope.names [] hfr x (Em hf))
       have e:c'=c:=Ep ((hcl x c' ec').symm.trans ec)
       subst e
       obtain⟨o,ho,hd⟩:=hcell
       exact⟨c',ec',o,hk _ _ ho,hd⟩
 · obtain⟨v,o,ho,hd⟩:=I.cell x c (hcl x c e)
   exact⟨v,o,hk _ _ ho,hd⟩
 · show(upC tgs.length js σ).length=(tgs++frees).length
   have q:=Ea List.length k7
   rw[Qy,Qy] at q
   unfold upC
   rw[Wq,Ev,Qy,Wq,q]
theorem zX2 {J:It}{fp:List Addr}{it:Addr}{tn:Nat->Heap->Prop}{RR:Value->Addr->Result->Shared->Prop}{E:Value->Shared->Prop}{Q:VK}
   (I2:Inv X pins σ H2 s2) (T:Turn X.prog X.w X.K tg J fp it tn) (st2:tn 0 s2.heap) (f2:∀b∈fp,mX X pins H2 b) (hc:X.calm=true)
   (hsc:X.env.scope=sc) (hok:jF sc scope X.N tgs frees js=true)
   (hg:∀C s₀ H₀ fp,PG (uC X (tgs++frees) scope C s₀ H₀ fp) tg g) (hi:∀C s₀ H₀ fp,zRG (uC X (tgs++frees) scope C s₀ H₀ fp) ifs tc) (he:∀C s₀ H₀ fp,PE (uC X (tgs++frees) scope C s₀ H₀ fp) elt te)
   (hw:zIy J tgs.length js g tc te σ H2 Q)
   (hRR:∀D C s' H' m,Inv X pins σ H' s'->Q (.ref D) H'->mX X pins H' C->s'.heap.Ns C m->RR (.ref D) C (.ok .next) s') :
   wpAny (model X.prog X.w) X.A (newList []) (fun acc s₃ => wpAny (model X.prog X.w) X.A (newFunctionEnv scope X.env.globals (dW X.env scope.names []) [] X.env.qual none .none (some X.env)) (fun cenv s₄ =>
     codeAny (model X.prog X.w) X.A (.compStart (.ListComp elt [⟨tg,iter,ifs,0⟩] scope pos) 0 (.ref it) acc { cenv with scope:=relabel scope X.env }) (RR acc cenv.locals) s₄) E s₃) E s2:=by
 obtain⟨k1,k2,k3,k4,k5,k6,k7⟩:=rD hok
 refine Eb (wpAny_newFunctionEnv k2 (by intro y hy;simp at hy) (fun h4 hn4 hs4=>?_) k1)
 dsimp only at hn4 hs4 ⊢
 generalize hh3:s2.heap.push { cls:=.type "list",dict:=none,data:=.seq ([]:List Value).toArray }=h3 at hn4 hs4 ⊢
 generalize hD:s2.heap.objs.size=D
 have hDn:H2 D=none:=by rw[←hD];exact I2.fresh
 have hsz3:h3.objs.size=D+1:=by rw[←hh3,Rx,hD]
 have keep23:∀b o,s2.heap.get? b=some o->h3.get? b=some o:=fun b o e=>by rw[←hh3];exact Qr _ e
 have keep34:∀b o,h3.get? b=some o->h4.get? b=some o:=fun b o e=>hs4.extBut b o (Wm (Qs e)) (Qr _ e)
 have I3:Inv X pins σ (upd H2 D (.lst [])) { s2 with heap:=h3 }:=by
   have q:=I2.lnew (its:=[]) (ys:=[]) (t':=s2.toks) .nil (Td _)
   rw[hD] at q
   rw[←hh3]
   exact q
 have nfp:∀b∈fp,b≠D:=fun b hb z=>by
   obtain⟨o,e,_⟩:=T.obj 0 _ st2 b hb
   exact absurd (Qs e) (by rw[z,hD];exact Wr _)
 have f3:∀b∈fp,mX X pins (upd H2 D (.lst [])) b:=fun b hb=>by
   obtain⟨q0,q⟩:=f2 b hb
   exact⟨by rw[yI (nfp b hb)];exact q0,q⟩
 have ofp:∀b∈fp,b < h3.objs.size:=fun b hb=>by
   obtain⟨o,e,_⟩:=T.obj 0 _ st2 b hb
   exact Qs (keep23 b o e)
 obtain⟨W,⟨n0,w0⟩,turn⟩:=hw D hDn
 have loop:∀s4:Shared,s4={ s2 with heap:=h4,toks:=s2.toks+([]:List (Str×Value)).length } ->
     codeAny (model X.prog X.w) X.A (.compLoop (.ListComp elt [⟨tg,iter,ifs,0⟩] scope pos) 0 (.ref it) (.ref D) (compEnvC scope (dW X.env scope.names []) h3.objs.size X.env)) (RR (.ref D) h3.objs.size) s4:=by
   rintro s4 rfl
   generalize hX':uC X (tgs++frees) scope h3.objs.size { s2 with heap:=h3 } (upd H2 D (.lst [])) fp=X'
   have I4:Inv X' [] (upC tgs.length js σ) (upd H2 D (.lst [])) { s2 with heap:=h4,toks:=s2.toks+([]:List (Str×Value)).length }:=by
     rw[←hX']
     exact zRz (s3:={ s2 with heap:=h3 }) I3 f3 ofp hsc hok rfl keep34 hn4
   have eP:X'.prog=X.prog:=by rw[←hX'];rfl
   have eW:X'.w=X.w:=by rw[←hX'];rfl
   have eK:X'.K=X.K:=by rw[←hX'];rfl
   have eA:X'.A=X.A:=by rw[←hX'];rfl
   have eC:X'.calm=true:=by rw[←hX'];exact hc
   have T':Turn X'.prog X'.w X'.K tg J fp it tn:=by rw[eP,eW,eK];exact T
   have eE:X'.env=compEnvC scope (dW X.env scope.names []) h3.objs.size X.env:=by rw[←hX'];rfl
   have eX:X'.xe=F0:=by rw[←hX'];rfl
   have stat:∀ {H':Hp},(∀b∈fp,H' b=none)->∀b∈fp,mX X' [] H' b:=fun {H'} hn b hb=>by
     obtain⟨_,q1,q2,q3,q4,q5⟩:=f3 b hb
     rw[←hX']
     refine⟨hn b hb,?_,?_,.inl hb,fun x c e=>?_,fun p hp=>absurd (show p∈([]:List (Addr×Obj)) from hp) (by simp)⟩
     · exact fun z=>absurd (ofp b hb) (by rw[show b=h3.objs.size from z];exact Wr _)
     · intro z
       rcases Qa.mp (I3.stkSub b z) with e | e
       · exact q1 e
       · exact q2 e
     · exact q4 x c (zXY scope.names [] (fun _ _ z=>nomatch z) x c e)
   have hgX:PG X' tg g:=by rw[←hX'];exact hg _ _ _ _
   have hiX:zRG X' ifs tc:=by rw[←hX'];exact hi _ _ _ _
   have heX:PE X' elt te:=by rw[←hX'];exact he _ _ _ _
   refine zY9 (fun n s'=>∃i σ' H',Inv X' [] σ' H' s'/\tn i s'.heap/\(∀b∈fp,H' b=none)/\W i n σ' H') ?_ n0 ⟨0,_,_,I4,T.keep 0 _ _ st2 (fun b _ o e=>keep34 b o (keep23 b o e)),fun b hb=>(f3 b hb).1,w0⟩
   rintro n s5 ⟨i,σ5,H5,I5,st5,fr5,w5⟩
   rw[←eP,←eW,←eE,←eA]
   rcases turn i n σ5 H5 w5 with⟨stop,qn⟩ | ⟨go,step⟩
   · refine thn (T'.done X' rfl rfl rfl eC i [] s5 σ5 H5 F0 I5 (stat fr5) st5 stop) fun r s6 ⟨hr,I6⟩=>?_
     subst hr
     have un:Un (frs X.stack) fp H2 H5 s2.heap s6.heap:=by
       have u1:Un (frs X.stack) fp H2 (upd H2 D (.lst [])) s2.heap h3:=Un.laid keep23 (Ua hD) hDn
       have u2:=I6.base
       rw[←hX'] at u2
       exact u1.trans u2
     have hpx:HOk X.prog X.w H5 s6.heap:=by have q:=I6.hok;rw[eP,eW] at q;exact q
     have hos:s6.os=s2.os:=by have q:=I6.os;rw[←hX'] at q;exact q
     have IX:Inv X pins σ H5 s6:=I2.call' (ch:=fp) hos un hpx I6.bare fun b hb=>⟨(f2 b hb).2.2.2.1,(f2 b hb).2.1,(f2 b hb).2.2.2.2.1,(f2 b hb).2.2.2.2.2⟩
     obtain⟨m,hm,_⟩:=I6.loc
     have hloc:X'.env.locals=h3.objs.size:=by rw[eE];rfl
     rw[hloc] at hm
     have hle:s2.heap.objs.size<=h3.objs.size:=by rw[hD,hsz3];exact Yo _
     refine hRR D h3.objs.size s6 H5 m IX qn (I2.fpOk hle ?_) hm
     have q:=I6.free
     rw[hloc] at q
     exact q
   · refine thn (T'.item X' rfl rfl rfl eC i [] s5 σ5 H5 F0 I5 (stat fr5) st5 go) fun r s6 ⟨u,hr,h6⟩=>?_
     subst hr
     refine thn h6 fun _ s7 ⟨x,H7,I7,r7,y7,st7,fr7⟩=>?_
     have I7':=I7.pinned (stat fr7) (T.obj _ _ st7)
     have xe0:X'.xe=F0:=eX
     have conv:∀ {α:Type} {t:Sem α} {Q:α->Shared->Prop} {s:Shared},wpAny (model X'.prog X'.w) X'.A t Q X'.xe s->wpAny (model X'.prog X'.w) X'.A t Q F0 s:=fun h=>by rw[xe0] at h;exact h
     refine thn (conv (hgX _ s7 σ5 H7 x u _ I7' r7 (step x H7 y7))) fun _ s8 ⟨σ8,H8,I8,q8⟩=>?_
     refine thn (conv (hiX _ s8 σ8 H8 _ I8 q8)) fun ok s9 ⟨H9,I9,q9⟩=>?_
     have again:∀ {σz:St} {Hz:Hp} {sz:Shared} {k':Nat},Inv X' ([]++zYi fp s7.heap) σz Hz sz->k' < n->W (i+1) k' σz Hz->∃m,m < n/\∃i σ' H',Inv X' [] σ' H' sz/\tn i sz.heap/\(∀b∈fp,H' b=none)/\W i m σ' H':=fun {σz Hz sz k'} Iz hk wz=>by
       refine⟨k',hk,i+1,σz,Hz,Iz.unpinned,T.keep _ _ _ st7 fun b hb o e=>(Iz.pin (b,o) (Eu _ (Eu _ (jN hb e)))).1,fun b hb=>?_,wz⟩
       obtain⟨o,e,d⟩:=T.obj _ _ st7 b hb
       exact(Iz.pin (b,o) (Eu _ (Eu _ (jN hb e)))).2.1
     cases ok with
     | false =>
       rw[Ws (by decide)] at q9
       rw[Ws (by decide)]
       obtain⟨k',hk,wz⟩:=q9
       exact again I9 hk wz
     | true =>
       rw[Qb rfl] at q9
       rw[Qb rfl]
       refine thn (conv (heX _ s9 σ8 H9 _ I9 q9)) fun v s10 ⟨y,H10,I10,r10,ys,k',hys,hl,hk,wz⟩=>?_
       refine thn (conv (vL (X:=X') _ s10 σ8 H10 (.ref D) [y] (.ref D) [v] (fun z Hz=>W (i+1) k' σ8 Hz) I10 rfl (.cons r10 .nil) ⟨D,ys,y,rfl,rfl,hys,hl,wz⟩)) fun _ s11 ⟨_,H11,I11,_,q11⟩=>?_
       exact again I11 hk q11
 rw[show s2.heap.objs.size=D from hD] at *
 exact codeAny_compStart_list (loop _ rfl) (T.self _ 0 _ _ _ (T.keep 0 _ _ st2 fun b _ o e=>keep34 b o (keep23 b o e)) (loop _ rfl))
def zMF (wi:TI)(m:Nat)(js:List Nat)(g:TG)(tc:TT)(te:TE):TE:=fun σ H Q=>wi σ H fun J H1=>zIy J m js g tc te σ H1 Q
theorem zY5 (ok:X.Ok)(hsc:X.env.scope=sc)(hok:jF sc scope X.N tgs frees js=true):closureFor scope X.env=pure (dW X.env scope.names []) :=
 zS2 fun p hp e=>ok.has p.1 (by
   show X.env.scope.names.lookup p.1=_∨X.env.scope.names.lookup p.1=_
   rw[hsc];exact(rD hok).2.2.1 p hp e)
theorem zLj (sc:Scope)(tgs frees:List Str)(js:List Nat){wi:TI}(hp:PI X tg iter wi)(hc:X.calm=true)(hsc:X.env.scope=sc)(hok:jF sc scope X.N tgs frees js=true)
   (hg:∀C s₀ H₀ fp,PG (uC X (tgs++frees) scope C s₀ H₀ fp) tg g) (hi:∀C s₀ H₀ fp,zRG (uC X (tgs++frees) scope C s₀ H₀ fp) ifs tc) (he:∀C s₀ H₀ fp,PE (uC X (tgs++frees) scope C s₀ H₀ fp) elt te)
   (hs:∀x,foldedSetIterable iter X.env x=pure x:=by intro _;rfl) :
   PE X (.ListComp elt [⟨tg,iter,ifs,0⟩] scope pos) (zMF wi tgs.length js g tc te):=by
 intro pins s σ H Q I h
 obtain⟨k1,k2,k3,k4,k5,k6,k7⟩:=rD hok
 rw[eval_ListComp]
 refine wpAny_comprehension_free (use:=none) rfl hs (zY5 I.ok hsc hok) k1 k4 (thn (hp pins s σ H _ I h) fun v s1 h1=>thn h1 fun itv s2 h2=>?_)
 obtain⟨it,fp,tn,J,H2,e,I2,T,st2,f2,hw⟩:=h2
 subst e
 refine zX2 (RR:=fun acc C=>compPost (model X.prog X.w) X.A X.xe none (EP X pins σ Q) acc C) I2 T st2 f2 hc hsc hok hg hi he hw ?_
 intro D C s' H' m I' q fC hn
 refine⟨m,hn,fun h' hs'=>⟨.ref D,H',?_,rfl,q⟩⟩
 obtain⟨c0,c1,c2,c3,c4,c5⟩:=fC
 exact I'.turned (t':=s'.toks) (fun b o hb e=>hs'.extBut b o hb e) c0 c1 c3 c4 c5
theorem zRC (sc:Scope)(tgs frees:List Str)(js:List Nat){wi:TI}{i:Nat}{x:Str}{pos' spos:Pos}(hN:X.N.Nodup)(hx:X.N[i]?=some x)(hl:X.env.scope.names.lookup x=some .local)
   (hp:PI X tg iter wi) (hc:X.calm=true) (hsc:X.env.scope=sc) (hok:jF sc scope X.N tgs frees js=true)
   (hg:∀C s₀ H₀ fp,PG (uC X (tgs++frees) scope C s₀ H₀ fp) tg g) (hi:∀C s₀ H₀ fp,zRG (uC X (tgs++frees) scope C s₀ H₀ fp) ifs tc) (he:∀C s₀ H₀ fp,PE (uC X (tgs++frees) scope C s₀ H₀ fp) elt te)
   (hsw:swapsWith (.ListComp elt [⟨tg,iter,ifs,0⟩] scope pos) (some (.Name x pos')) spos.line X.env=pure true:=by with_unfolding_all rfl) (hs:∀x,foldedSetIterable iter X.env x=pure x:=by intro _;rfl) :
   PS X (.Assign [.Name x pos'] (.ListComp elt [⟨tg,iter,ifs,0⟩] scope pos) spos) (zPB (zMF wi tgs.length js g tc te) (zSP i)):=by
 intro pins s σ H D I h
 obtain⟨k1,k2,k3,k4,k5,k6,k7⟩:=rD hok
 rw[exec_Assign_Name_used _ _ _ _ hsw]
 refine Qe (wpAny_standAt (Qe ?_))
 show wpAny _ X.A (do let _ ←comprehension (.ListComp elt [⟨tg,iter,ifs,0⟩] scope pos) scope X.env _ (newList []) false (eval iter X.env) (some (assign (.Name x pos') X.env))) _ _ s
 refine Qe (Ih (wpAny_comprehension_free (use:=some (assign (.Name x pos') X.env)) (Q:=fun _ s'=>SP X pins D .next s') rfl hs (zY5 I.ok hsc hok) k1 k4
   (thn (hp pins s σ H _ I h) fun v s1 h1=>thn h1 fun itv s2 h2=>?_)) (fun _ s' hq=>Qf (Qf hq)) fun _ _ e=>e)
 obtain⟨it,fp,tn,J,H2,e,I2,T,st2,f2,hw⟩:=h2
 subst e
 refine zX2 (RR:=fun acc C=>compPost (model X.prog X.w) X.A X.xe (some (assign (.Name x pos') X.env)) (fun _ s'=>SP X pins D .next s') acc C) I2 T st2 f2 hc hsc hok hg hi he hw ?_
 intro D' C s' H' m I' q fC hn
 obtain⟨c0,c1,c2,c3,c4,c5⟩:=fC
 show wpAny _ X.A (assign (.Name x pos') X.env (.ref D')) _ _ _
 refine wpAny_assign_Name (zW1 (v:=V.ref D') I' hN hx (.inl hl) rfl (fun s3 I3 hb=>?_) (.inr hl))
 obtain⟨a,sb,ha⟩:=hb
 have hCa:C≠a:=by
   rcases ha with z | z
   · rw[z];exact c1
   · exact(c4 x a z).symm
 refine⟨m,hn.sameBut sb hCa,fun h' hs'=>⟨_,H',I3.turned (t':=s3.toks) (fun b o hb e=>hs'.extBut b o hb e) c0 c1 c3 c4 c5,q⟩⟩
end
inductive KT where
 | int (i:Int) | tup (l:List KT)
instance:DecidableEq KT:=fun _ _=>Classical.propDecidable _
def zKB:KT->Int
 | .int i=>hashInt i
 | .tup _=>0
def hK:Nat->KT->Int
 | n+1,.tup ks=>reduceHash (Builtin.Tuple.tupleHashOf (ks.map (hK n)))
 | _,k=>zKB k
def zZx:List KT->List Addr->List Value->List DictEntry
 | k::ks,a::as,u::us=>⟨hK 8 k,.ref a,u⟩::zZx ks as us
 | _,_,_=>[]
def kX (a:Addr)(ks:List KT)(as:List Addr)(vs:List V):Heap->Prop:=fun h =>
 ∃us,Vals vs us/\∃o es ep,h.get? a=some o/\o.ExactDict/\o.data = .dict es ep/\es.toList=zZx ks as us
inductive D where
 | non | bl (b:Bool) | int (i:Int) | str (x:Str) | tup (ds:List D) | lst (ds:List D) | obj (c:Str) (ns:List Str) (ds:List D)
 /-- an exception of an own class -/
 | exc (c:Str) (ns:List Str) (ds:List D)
 deriving Inhabited
theorem Same.tup {K:PySem.W.Frag}{H H':Hp}{a:Addr}{xs:List V}(e:Same H H')(h:SqT K H a xs):SqT K H' a xs:=by
 rcases h with(h | ⟨o,h⟩) | h
 · exact .inl (.inl (e _ _ h))
 · exact .inl (.inr ⟨o,e _ _ h⟩)
 · exact .inr h
def ClsAt (K:PySem.W.Frag)(c:Str)(C:Addr):Prop:=PySem.W.nsIn K mainGlobals c=some (some (.ref C))
theorem ClsAt.one {K:PySem.W.Frag}{c:Str}{C C':Addr}(h:ClsAt K c C)(h':ClsAt K c C'):C'=C:=by
 have:=h.symm.trans h'
 cases this;rfl
def Xe (C a:Addr)(od:Option Addr):Heap->Prop:=fun h=>∃fs,h.get? a=some { cls:=.ref C,dict:=od,data:=.fields fs }
def Xd (dx:Addr)(fs:List (Str×V)):Heap->Prop:=fun h=>∃mA,h.Ns1 dx mA/\∀f,RelO (fs.lookup f) (mA f)
def XD (G:Hp):Option Addr->List (Str×V)->Prop
 | none,fs=>fs=[]
 | some dx,fs=>G dx=some (.ext (Xd dx fs))
theorem XD.mono {G G':Hp}(e:Same G G'):∀ {od:Option Addr} {fs:List (Str×V)},XD G od fs->XD G' od fs
 | none,_,h=>h
 | some _,_,h=>e _ _ h
mutual
def Rep (K:PySem.W.Frag)(G:Hp):D->V->Prop
 | .non,v=>v = .non
 | .bl b,v=>v = .bl b
 | .int i,v=>v = .int i
 | .str x,v=>v = .str x
 | .tup ds,v=>∃a vs,v = .ref a/\SqT K G a vs/\Reps K G ds vs
 | .lst ds,v=>∃a vs,v = .ref a/\SqL K G a vs/\Reps K G ds vs
 | .obj c ns ds,v=>∃C a dx vs,ClsAt K c C/\v = .ref a/\G a=some (.ins C dx (ns.zip vs))/\ns.length=ds.length/\Reps K G ds vs
 | .exc c ns ds,v=>∃C a od vs,ClsAt K c C/\v = .ref a/\G a=some (.ext (Xe C a od))/\XD G od (ns.zip vs)/\ns.length=ds.length/\Reps K G ds vs
def Reps (K:PySem.W.Frag)(G:Hp):List D->List V->Prop
 | [],vs=>vs=[]
 | d::r,vs=>∃v vr,vs=v::vr/\Rep K G d v/\Reps K G r vr
end
section
variable {K:PySem.W.Frag} {G G':Hp}
mutual
theorem Rep.mono (e:Same G G'):∀(d:D) (v:V),Rep K G d v->Rep K G' d v
 | .non,_,h=>by unfold Rep at h ⊢;exact h
 | .bl _,_,h=>by unfold Rep at h ⊢;exact h
 | .int _,_,h=>by unfold Rep at h ⊢;exact h
 | .str _,_,h=>by unfold Rep at h ⊢;exact h
 | .tup ds,_,h=>by
   unfold Rep at h ⊢
   obtain⟨a,vs,h1,h2,h3⟩:=h
   exact⟨a,vs,h1,e.tup h2,Reps.mono e ds vs h3⟩
 | .lst ds,_,h=>by
   unfold Rep at h ⊢
   obtain⟨a,vs,h1,h2,h3⟩:=h
   exact⟨a,vs,h1,e.seq h2,Reps.mono e ds vs h3⟩
 | .obj C ns ds,_,h=>by
   unfold Rep at h ⊢
   obtain⟨C,a,dx,vs,h0,h1,h2,h4,h3⟩:=h
   exact⟨C,a,dx,vs,h0,h1,e _ _ h2,h4,Reps.mono e ds vs h3⟩
 | .exc C ns ds,_,h=>by
   unfold Rep at h ⊢
   obtain⟨C,a,od,vs,h0,h1,h2,h5,h4,h3⟩:=h
   exact⟨C,a,od,vs,h0,h1,e _ _ h2,h5.mono e,h4,Reps.mono e ds vs h3⟩
theorem Reps.mono (e:Same G G'):∀(ds:List D) (vs:List V),Reps K G ds vs->Reps K G' ds vs
 | [],_,h=>by unfold Reps at h ⊢;exact h
 | d::r,_,h=>by
   unfold Reps at h ⊢
   obtain⟨v,vr,h1,h2,h3⟩:=h
   exact⟨v,vr,h1,Rep.mono e d v h2,Reps.mono e r vr h3⟩
end
theorem uO {v:V}:Rep K G .non v↔v = .non:=by unfold Rep;exact Op
theorem w6 {b:Bool}{v:V}:Rep K G (.bl b) v↔v = .bl b:=by unfold Rep;exact Op
theorem zG {i:Int}{v:V}:Rep K G (.int i) v↔v = .int i:=by unfold Rep;exact Op
theorem yM {x:Str}{v:V}:Rep K G (.str x) v↔v = .str x:=by unfold Rep;exact Op
theorem yF {ds:List D}{v:V}:Rep K G (.tup ds) v↔∃a vs,v = .ref a/\SqT K G a vs/\Reps K G ds vs:=by
 constructor<;>(intro h;unfold Rep at *;exact h)
theorem xH {ds:List D}{v:V}:Rep K G (.lst ds) v↔∃a vs,v = .ref a/\SqL K G a vs/\Reps K G ds vs:=by
 constructor<;>(intro h;unfold Rep at *;exact h)
theorem zYM {c:Str}{ns:List Str}{ds:List D}{v:V}:Rep K G (.obj c ns ds) v↔∃C a dx vs,ClsAt K c C/\v = .ref a/\G a=some (.ins C dx (ns.zip vs))/\ns.length=ds.length/\Reps K G ds vs:=by
 constructor<;>(intro h;unfold Rep at *;exact h)
theorem zQA {c:Str}{ns:List Str}{ds:List D}{v:V}:Rep K G (.exc c ns ds) v↔∃C a od vs,ClsAt K c C/\v = .ref a/\G a=some (.ext (Xe C a od))/\XD G od (ns.zip vs)/\ns.length=ds.length/\Reps K G ds vs:=by
 constructor<;>(intro h;unfold Rep at *;exact h)
theorem yV {vs:List V}:Reps K G [] vs↔vs=[]:=by unfold Reps;exact Op
theorem zE {d:D}{r:List D}{vs:List V}:Reps K G (d::r) vs↔∃v vr,vs=v::vr/\Rep K G d v/\Reps K G r vr:=by
 rw[Reps]
theorem Reps.length:∀ {ds:List D} {vs:List V},Reps K G ds vs->ds.length=vs.length
 | [],_,h=>by rw[yV] at h;rw[h];rfl
 | d::r,_,h=>by
   rw[zE] at h
   obtain⟨v,vr,rfl,_,h3⟩:=h
   rw[Qo,Qo,Reps.length h3]
theorem Reps.get:∀ {ds:List D} {vs:List V} {i:Nat} {d:D},Reps K G ds vs->ds[i]?=some d->∃v,vs[i]?=some v/\Rep K G d v
 | [],_,_,_,_,e=>by simp at e
 | d::r,_,0,_,h,e=>by
   rw[zE] at h
   obtain⟨v,vr,rfl,h2,h3⟩:=h
   simp at e;subst e
   exact⟨v,rfl,h2⟩
 | d::r,_,i+1,_,h,e=>by
   rw[zE] at h
   obtain⟨v,vr,rfl,h2,h3⟩:=h
   obtain⟨u,e1,e2⟩:=Reps.get h3 (by simpa using e)
   exact⟨u,by simpa using e1,e2⟩
theorem Reps.snoc:∀ {ds:List D} {vs:List V} {d:D} {v:V},Reps K G ds vs->Rep K G d v->Reps K G (ds++[d]) (vs++[v])
 | [],_,d,v,h,r=>by
   rw[yV] at h;subst h
   exact zE.mpr ⟨v,[],rfl,r,yV.mpr rfl⟩
 | e::t,_,d,v,h,r=>by
   rw[zE] at h
   obtain⟨u,vr,rfl,h2,h3⟩:=h
   exact zE.mpr ⟨u,vr++[v],rfl,h2,h3.snoc r⟩
theorem Reps.append:∀ {ds es:List D} {vs us:List V},Reps K G ds vs->Reps K G es us->Reps K G (ds++es) (vs++us)
 | [],_,_,_,h,r=>by rw[yV] at h;subst h;exact r
 | e::t,_,_,us,h,r=>by
   rw[zE] at h
   obtain⟨u,vr,rfl,h2,h3⟩:=h
   exact zE.mpr ⟨u,vr++us,rfl,h2,h3.append r⟩
theorem Reps.take:∀ {ds:List D} {vs:List V} (n:Nat),Reps K G ds vs->Reps K G (ds.take n) (vs.take n)
 | _,_,0,_=>by rw[List.take_zero,List.take_zero];exact yV.mpr rfl
 | [],_,_+1,h=>by rw[yV] at h;subst h;exact yV.mpr rfl
 | e::t,_,n+1,h=>by
   rw[zE] at h
   obtain⟨u,vr,rfl,h2,h3⟩:=h
   exact zE.mpr ⟨u,vr.take n,rfl,h2,h3.take n⟩
theorem Reps.drop:∀ {ds:List D} {vs:List V} (n:Nat),Reps K G ds vs->Reps K G (ds.drop n) (vs.drop n)
 | _,_,0,h=>h
 | [],_,_+1,h=>by rw[yV] at h;subst h;exact yV.mpr rfl
 | e::t,_,n+1,h=>by
   rw[zE] at h
   obtain⟨u,vr,rfl,h2,h3⟩:=h
   exact h3.drop n
theorem Reps.set:∀ {ds:List D} {vs:List V} {d:D} {v:V} (i:Nat),Reps K G ds vs->Rep K G d v->Reps K G (ds.set i d) (vs.set i v)
 | [],_,_,_,_,h,_=>by rw[yV] at h;subst h;exact yV.mpr rfl
 | e::t,_,d,v,0,h,r=>by
   rw[zE] at h
   obtain⟨u,vr,rfl,h2,h3⟩:=h
   exact zE.mpr ⟨v,vr,rfl,r,h3⟩
 | e::t,_,d,v,i+1,h,r=>by
   rw[zE] at h
   obtain⟨u,vr,rfl,h2,h3⟩:=h
   exact zE.mpr ⟨u,vr.set i v,rfl,h2,h3.set i r⟩
theorem Reps.erase:∀ {ds:List D} {vs:List V} (i:Nat),Reps K G ds vs->Reps K G (ds.eraseIdx i) (vs.eraseIdx i)
 | [],_,_,h=>by rw[yV] at h;subst h;exact yV.mpr rfl
 | e::t,_,0,h=>by
   rw[zE] at h
   obtain⟨u,vr,rfl,h2,h3⟩:=h
   exact h3
 | e::t,_,i+1,h=>by
   rw[zE] at h
   obtain⟨u,vr,rfl,h2,h3⟩:=h
   exact zE.mpr ⟨u,vr.eraseIdx i,rfl,h2,h3.erase i⟩
end
structure Step (G H G' H':Hp):Prop where
 hh:Same H H'
 gg:Same G G'
 sub:Same G' H'
 new:∀a,H a≠none->G' a=G a
theorem Step.refl {G H:Hp}(h:Same G H):Step G H G H:=⟨Same.refl _,Same.refl _,h,fun _ _=>rfl⟩
theorem Step.trans {G H G1 H1 G2 H2:Hp}(a:Step G H G1 H1)(b:Step G1 H1 G2 H2):Step G H G2 H2 :=
 ⟨a.hh.trans b.hh,a.gg.trans b.gg,b.sub,fun c hc=>(b.new c (fun z=>hc (a.hh.free z))).trans (a.new c hc)⟩
theorem Same.new {H:Hp}{p:Addr}{o:HO}(hp:H p=none):Same H (upd H p o):=fun b u e=>by rw[yI (xR e hp)];exact e
theorem Step.laid {G H:Hp}{p:Addr}{o:HO}(s:Same G H)(hp:H p=none):Step G H (upd G p o) (upd H p o):=by
 refine⟨Same.new hp,Same.new (s.free hp),fun b u e=>?_,fun a ha=>?_⟩
 · by_cases hb:b=p
   · subst hb;rw[yX] at e ⊢;exact e
   · rw[yI hb] at e ⊢;exact s b u e
 · exact yI (fun z:a=p=>ha (by rw[z];exact hp))
theorem Step.own {G H:Hp}{p:Addr}{o:HO}(s:Same G H)(hp:H p=none):Step G H G (upd H p o) :=
 ⟨Same.new hp,Same.refl _,s.trans (Same.new hp),fun _ _=>rfl⟩
theorem Step.frz {G H G' H':Hp}{p:Addr}{o:HO}(s:Step G H G' H')(hp:H p=none)(h':H' p=some o)(g':G' p=none):Step G H (upd G' p o) H':=by
 refine⟨s.hh,s.gg.trans (Same.new g'),fun b u e=>?_,fun a ha=>?_⟩
 · by_cases hb:b=p
   · subst hb;rw[yX] at e;rw[h'];exact e
   · rw[yI hb] at e;exact s.sub b u e
 · rw[yI (fun z:a=p=>ha (by rw[z];exact hp))];exact s.new a ha
inductive B where
 | no | fz (d:D) | ow (ds:List D)
 /-- a dict of its own: keys and values -/
 | od (kvs:List (D×D))
 deriving Inhabited
def zZL (f:D->Option KT):List D->Option (List KT)
 | []=>some []
 | d::r=>(f d).bind fun k=>(zZL f r).map fun ks=>k::ks
def ktD:Nat->D->Option KT
 | _,.int i=>some (.int i)
 | _,.bl b=>some (.int (if b then 1 else 0))
 | n+1,.tup ds=>(zZL (ktD n) ds).map .tup
 | _,_=>none
inductive ODs (K:PySem.W.Frag)(G:Hp):List (D×D)->List KT->List Addr->List V->Prop
 | nil:ODs K G [] [] [] []
 | cons {d e:D} {k:KT} {a:Addr} {v:V} {kvs:List (D×D)} {ks:List KT} {as:List Addr} {vs:List V}:ktD 8 d=some k->Rep K G d (.ref a)->Rep K G e v->ODs K G kvs ks as vs->ODs K G ((d,e)::kvs) (k::ks) (a::as) (v::vs)
theorem ODs.mono {K:PySem.W.Frag}{G G':Hp}(h:Same G G'):∀ {kvs ks as vs},ODs K G kvs ks as vs->ODs K G' kvs ks as vs
 | _,_,_,_,.nil=>.nil
 | _,_,_,_,.cons h1 h2 h3 h4=>.cons h1 (h2.mono h) (h3.mono h) (ODs.mono h h4)
inductive RB (K:PySem.W.Frag)(H0 G H:Hp):Option V->B->Prop where
 | no {o:Option V}:RB K H0 G H o .no
 | fz {v:V} {d:D}:Rep K G d v->RB K H0 G H (some v) (.fz d)
 | ow {a:Addr} {vs:List V} {ds:List D}:H a=some (.lst vs)->G a=none->H0 a=none->Reps K G ds vs->RB K H0 G H (some (.ref a)) (.ow ds)
 | od {a:Addr} {kvs:List (D×D)} {ks:List KT} {as:List Addr} {vs:List V}:H a=some (.ext (kX a ks as vs))->G a=none->H0 a=none->ODs K G kvs ks as vs->ks.Nodup->(a==sysModules)=false->RB K H0 G H (some (.ref a)) (.od kvs)
structure Good (K:PySem.W.Frag)(G0 H0 G H:Hp)(σ:St)(ρ:List B):Prop where
 st:Step G0 H0 G H
 vals:Paired (RB K H0 G H) σ ρ
 apart:∀(i j:Nat) (a:Addr) (ds es:List D),ρ[i]?=some (.ow ds)->ρ[j]?=some (.ow es)->σ[i]?=some (some (.ref a))->σ[j]?=some (some (.ref a))->i=j
theorem Paired.get {α β:Type}{F:α->β->Prop}:∀ {l:List α} {r:List β} {i:Nat} {b:β},Paired F l r->r[i]?=some b->∃a,l[i]?=some a/\F a b
 | _,_,_,_,.nil,e=>by simp at e
 | _,_,0,_,.cons h _,e=>by simp at e;subst e;exact⟨_,rfl,h⟩
 | _,_,i+1,b,.cons _ t,e=>by
   obtain⟨a,h1,h2⟩:=Paired.get (i:=i) (b:=b) t (by simpa using e)
   exact⟨a,by simpa using h1,h2⟩
theorem Paired.set {α β:Type}{F:α->β->Prop}{a:α}{b:β}(h:F a b):∀ {l:List α} {r:List β} (i:Nat),Paired F l r->Paired F (l.set i a) (r.set i b)
 | _,_,_,.nil=>.nil
 | _,_,0,.cons _ t=>.cons h t
 | _,_,i+1,.cons q t=>.cons q (Paired.set h i t)
theorem RB.step {K:PySem.W.Frag}{H0 G H G' H':Hp}{o:Option V}{b:B}(r:RB K H0 G H o b)(s:Step G H G' H'):RB K H0 G' H' o b:=by
 cases r with
 | no=>exact .no
 | fz q=>exact .fz (q.mono s.gg)
 | ow h1 h2 h3 h4=>exact .ow (s.hh _ _ h1) ((s.new _ (by rw[h1];exact fun z=>nomatch z)).trans h2) h3 (h4.mono s.gg)
 | od h1 h2 h3 h4 h5 h6=>exact .od (s.hh _ _ h1) ((s.new _ (by rw[h1];exact fun z=>nomatch z)).trans h2) h3 (h4.mono s.gg) h5 h6
theorem Good.step {K:PySem.W.Frag}{G0 H0 G H G' H':Hp}{σ:St}{ρ:List B}(g:Good K G0 H0 G H σ ρ)(s:Step G H G' H'):Good K G0 H0 G' H' σ ρ :=
 ⟨g.st.trans s,Paired.mapP g.vals fun _ _ r=>r.step s,g.apart⟩
theorem Good.sub {K:PySem.W.Frag}{G0 H0 G H:Hp}{σ:St}{ρ:List B}(g:Good K G0 H0 G H σ ρ):Same G H:=g.st.sub
abbrev Ef:=List B->Option D
def tF (K:PySem.W.Frag)(f:Ef):TE:=fun σ H Q=>∃G0 H0 G ρ d,Good K G0 H0 G H σ ρ/\f ρ=some d/\∀v H' G',Step G H G' H'->Rep K G' d v->Q v H'
def PF (X:Cx)(e:Expr)(f:Ef):Prop:=PE X e (tF X.K f)
theorem PE.to {X:Cx}{e:Expr}{t:TE}{f:Ef}(h:PE X e t)(imp:∀σ H Q,tF X.K f σ H Q->t σ H Q):PF X e f:=fun pins s σ H Q I q=>h pins s σ H Q I (imp σ H Q q)
abbrev Lf:=List B->Option (List D)
def tFr (K:PySem.W.Frag)(f:Lf):TE:=fun σ H Q=>∃G0 H0 G ρ ds,Good K G0 H0 G H σ ρ/\f ρ=some ds/\∀a vs H' G',Step G H G' H'->H a=none->H' a=some (.lst vs)->G' a=none->Reps K G' ds vs->Q (.ref a) H'
def PFr (X:Cx)(e:Expr)(f:Lf):Prop:=PE X e (tFr X.K f)
theorem PE.toR {X:Cx}{e:Expr}{t:TE}{f:Lf}(h:PE X e t)(imp:∀σ H Q,tFr X.K f σ H Q->t σ H Q):PFr X e f:=fun pins s σ H Q I q=>h pins s σ H Q I (imp σ H Q q)
def eL (f:Lf):Ef:=fun ρ=>(f ρ).map .lst
theorem wB {X:Cx}{e:Expr}{f:Lf}(h:PFr X e f):PF X e (eL f):=by
 refine PE.to h ?_
 rintro σ H Q ⟨G0,H0,G,ρ,d,good,hf,k⟩
 unfold eL at hf
 obtain⟨ds,h1,rfl⟩:=Qt.mp hf
 refine⟨G0,H0,G,ρ,ds,good,h1,fun a vs H' G' s hn ha ga rs=>?_⟩
 exact k _ _ (upd G' a (.lst vs)) (s.frz hn ha ga) (xH.mpr ⟨a,vs,rfl,.of yX,rs.mono (Same.new ga)⟩)
abbrev Tf:=List B->Option Bool
def tFT (K:PySem.W.Frag)(f:Tf):TT:=fun σ H Q=>∃G0 H0 G ρ b,Good K G0 H0 G H σ ρ/\f ρ=some b/\∀H' G',Step G H G' H'->Q b H'
def PFT (X:Cx)(e:Expr)(f:Tf):Prop:=PT X e (tFT X.K f)
theorem PT.to {X:Cx}{e:Expr}{t:TT}{f:Tf}(h:PT X e t)(imp:∀σ H Q,tFT X.K f σ H Q->t σ H Q):PFT X e f:=fun pins s σ H Q I q=>h pins s σ H Q I (imp σ H Q q)
def PFW (X:Cx)(e:Expr)(f:Tf):Prop:=PW X e (tFT X.K f)
def tFA (K:PySem.W.Frag)(f:Lf):TA:=fun σ H Q=>∃G0 H0 G ρ ds,Good K G0 H0 G H σ ρ/\f ρ=some ds/\∀vs H' G',Step G H G' H'->Reps K G' ds vs->Q vs H'
def PFA (X:Cx)(es:List Expr)(f:Lf):Prop:=PA X es (tFA X.K f)
theorem PA.to {X:Cx}{es:List Expr}{t:TA}{f:Lf}(h:PA X es t)(imp:∀σ H Q,tFA X.K f σ H Q->t σ H Q):PFA X es f:=fun pos pins s σ H Q I q=>h pos pins s σ H Q I (imp σ H Q q)
section
variable {X:Cx} {a b c e:Expr} {es:List Expr} {fa fb:Ef} {ga:Lf} {ta tb:Tf} {pos:Pos}
def sA (ρ:List B)(i:Nat):Option D:=match ρ[i]? with | some (.fz d)=>some d | _=>none
def eV (i:Nat):Ef:=fun ρ=>sA ρ i
theorem zP4 {K:PySem.W.Frag}{G0 H0 G H:Hp}{σ:St}{ρ:List B}{i:Nat}{d:D}(g:Good K G0 H0 G H σ ρ)(h:sA ρ i=some d):∃v,σ[i]?=some (some v)/\Rep K G d v:=by
 unfold sA at h
 split at h
 · rename_i d' e
   cases h
   obtain⟨o,h1,r⟩:=Paired.get g.vals e
   cases r with
   | fz r=>exact⟨_,h1,r⟩
 · cases h
theorem zU (i:Nat){x:Str}(hN:X.N[i]?=some x:=by rfl)(hv:Vis X.env.scope x:=by first | exact Or.inl rfl | exact Or.inr (Or.inl rfl) | exact Or.inr (Or.inr rfl))(hd:(x==("__debug__":Str))=false:=by decide)(hcd:(x==("__classdict__":Str))=false:=by decide):PF X (.Name x pos) (eV i):=by
 refine PE.to (lL hN hv hd hcd) ?_
 rintro σ H Q ⟨G0,H0,G,ρ,d,good,hf,k⟩
 obtain⟨v,h1,r⟩:=zP4 good hf
 exact⟨v,h1,k v H G (.refl good.sub) r⟩
def eC (d:D):Ef:=fun _=>some d
theorem zZR {v:V}{d:D}(h:PE X e (tC v))(r:∀G,Rep X.K G d v):PF X e (eC d):=by
 refine PE.to h ?_
 rintro σ H Q ⟨G0,H0,G,ρ,d',good,hf,k⟩
 cases hf
 exact k v H G (.refl good.sub) (r G)
theorem zX {i:Int}{j:Nat}:PF X (.Constant (.int i) j pos) (eC (.int i)):=zZR zJU fun _=>zG.mpr rfl
theorem iH {i:Bool}{j:Nat}:PF X (.Constant (.bool i) j pos) (eC (.bl i)):=zZR zIg fun _=>w6.mpr rfl
theorem wF {j:Nat}:PF X (.Constant .none j pos) (eC .non):=zZR zOC fun _=>uO.mpr rfl
theorem yQ {x:Str}{j:Nat}:PF X (.Constant (.str x) j pos) (eC (.str x)):=zZR zJ3 fun _=>yM.mpr rfl
theorem aS {x y:Str}{t:Tok}(hg:Gl X x)(hm:X.mg x=some (.str y t))(hd:(x==("__debug__":Str))=false:=by decide):PF X (.Name x pos) (eC (.str y)):=zZR (kF (v:=.str y) hg hm ⟨t,rfl⟩ hd) fun _=>yM.mpr rfl
theorem jE {x:Str}{i:Int}{t:Tok}(hg:Gl X x)(hm:X.mg x=some (.int i t))(hd:(x==("__debug__":Str))=false:=by decide):PF X (.Name x pos) (eC (.int i)):=zZR (kF (v:=.int i) hg hm ⟨t,rfl⟩ hd) fun _=>zG.mpr rfl
def eI (C:Int->Int->Bool)(g:Int->Int->Int)(fa fb:Ef):Ef:=fun ρ=>(fa ρ).bind fun x=>(fb ρ).bind fun y=>match x,y with | .int i,.int j=>if C i j then some (.int (g i j)) else none | _,_=>none
theorem zNW {C:Int->Int->Bool}{g:Int->Int->Int}{ρ:List B}{d:D}(h:eI C g fa fb ρ=some d):∃i j,fa ρ=some (.int i)/\fb ρ=some (.int j)/\C i j=true/\d = .int (g i j):=by
 unfold eI at h
 obtain⟨x,h1,h⟩:=Qq.mp h
 obtain⟨y,h2,h⟩:=Qq.mp h
 cases x with
 | int i =>
   cases y with
   | int j =>
     dsimp only at h
     split at h
     · rename_i hc;cases h;exact⟨i,j,h1,h2,hc,rfl⟩
     · cases h
   | _=>cases h
 | _=>cases h
theorem zOZ {op:Operator}{C:Int->Int->Bool}{P:Int->Int->Prop}{g:Int->Int->Int}(ho:OpR X (binaryOp op) (rI P fun i j=>.int (g i j)))(hP:∀i j,C i j=true->P i j)(ha:PF X a fa)(hb:PF X b fb):PF X (.BinOp a op b pos) (eI C g fa fb):=by
 refine PE.to (zXT ho ha hb) ?_
 rintro σ H Q ⟨G0,H0,G,ρ,d,good,hf,k⟩
 obtain⟨i,j,h1,h2,hc,rfl⟩:=zNW hf
 refine⟨G0,H0,G,ρ,_,good,h1,fun x H1 G1 s1 r1=>⟨G0,H0,G1,ρ,_,good.step s1,h2,fun y H2 G2 s2 r2=>?_⟩⟩
 exact⟨i,j,zG.mp r1,zG.mp r2,hP i j hc,k _ _ G2 (s1.trans s2) (zG.mpr rfl)⟩
theorem zNw {op:Operator}{g:Int->Int->Int}(ho:OpR X (binaryOp op) (rI0 fun i j=>.int (g i j)))(ha:PF X a fa)(hb:PF X b fb):PF X (.BinOp a op b pos) (eI (fun _ _=>true) g fa fb):=by
 refine PE.to (zXT ho ha hb) ?_
 rintro σ H Q ⟨G0,H0,G,ρ,d,good,hf,k⟩
 obtain⟨i,j,h1,h2,hc,rfl⟩:=zNW hf
 refine⟨G0,H0,G,ρ,_,good,h1,fun x H1 G1 s1 r1=>⟨G0,H0,G1,ρ,_,good.step s1,h2,fun y H2 G2 s2 r2=>?_⟩⟩
 exact⟨i,j,zG.mp r1,zG.mp r2,k _ _ G2 (s1.trans s2) (zG.mpr rfl)⟩
abbrev vV:=eI (fun _ _=>true) (fun i j=>i+j)
abbrev rO:=eI (fun _ _=>true) (fun i j=>i - j)
def zZM (i j:Int):Bool:=(decide (-(2^64) < i)&&decide (i < 2^64))||(decide (-(2^64) < j)&&decide (j < 2^64))
abbrev sJ:=eI zZM (fun i j=>i*j)
def zVG (_ j:Int):Bool:=decide (0 < j)&&decide (j < 1073741824)
abbrev wW:=eI zVG (fun i j=>i / j)
abbrev xW:=eI (fun _ j=>decide (0 < j)) (fun i j=>i % j)
def zUQ (i j:Int):Bool:=decide (0<=j)&&decide (j<=1000000)&&decide (i.natAbs < 2^64)
abbrev zXo:=eI zUQ (fun i j=>i^j.toNat)
abbrev zY2:=eI zUQ (fun i j=>i*2^j.toNat)
abbrev zVl:=eI (fun _ _=>true) (fun i j=>Builtin.bitXor i j)
theorem vS (ha:PF X a fa)(hb:PF X b fb):PF X (.BinOp a .Add b pos) (vV fa fb):=zNw zOz ha hb
theorem qG (ha:PF X a fa)(hb:PF X b fb):PF X (.BinOp a .Sub b pos) (rO fa fb):=zNw zJi ha hb
theorem vE (ha:PF X a fa)(hb:PF X b fb):PF X (.BinOp a .Mult b pos) (sJ fa fb):=zOZ zJZ (fun i j h=>by
 unfold zZM at h
 simp only[Tj,Qx,Wh] at h
 exact h) ha hb
theorem xN (ha:PF X a fa)(hb:PF X b fb):PF X (.BinOp a .FloorDiv b pos) (wW fa fb):=zOZ zKV (fun i j h=>by
 unfold zVG at h
 simp only[Qx,Wh] at h
 exact h) ha hb
theorem yC (ha:PF X a fa)(hb:PF X b fb):PF X (.BinOp a .Mod b pos) (xW fa fb):=zOZ zJ6 (fun i j h=>Ew h) ha hb
theorem zRr {i j:Int}(h:zUQ i j=true):zKs i j:=by
 unfold zUQ at h
 simp only[Qx,Wh] at h
 exact⟨h.1.1,h.1.2,h.2⟩
theorem zV2 (ha:PF X a fa)(hb:PF X b fb):PF X (.BinOp a .Pow b pos) (zXo fa fb):=zOZ zIR (fun i j h=>zRr h) ha hb
theorem zVh (ha:PF X a fa)(hb:PF X b fb):PF X (.BinOp a .LShift b pos) (zY2 fa fb):=zOZ zJs (fun i j h=>zRr h) ha hb
theorem zV8 (ha:PF X a fa)(hb:PF X b fb):PF X (.BinOp a .BitXor b pos) (zVl fa fb):=zNw zJg ha hb
def zKW (fa:Ef):Ef:=fun ρ=>(fa ρ).bind fun x=>match x with | .int i=>some (.int (-i)) | _=>none
theorem zMy (ha:PF X a fa):PF X (.UnaryOp .USub a pos) (zKW fa):=by
 refine PE.to (zIr zKj ha) ?_
 rintro σ H Q ⟨G0,H0,G,ρ,d,good,hf,k⟩
 unfold zKW at hf
 obtain⟨x,h1,hf⟩:=Qq.mp hf
 split at hf
 · rename_i i
   cases hf
   exact⟨G0,H0,G,ρ,_,good,h1,fun x H1 G1 s1 r1=>⟨i,zG.mp r1,k _ _ G1 s1 (zG.mpr rfl)⟩⟩
 · cases hf
def eB2 (g:D->D->Option Bool)(fa fb:Ef):Tf:=fun ρ=>(fa ρ).bind fun x=>(fb ρ).bind fun y=>g x y
def vI (t:Tf):Ef:=fun ρ=>(t ρ).map .bl
def gLt:D->D->Option Bool | .int i,.int j=>some (decide (i < j)) | _,_=>none
def gLe:D->D->Option Bool | .int i,.int j=>some (decide (i<=j)) | _,_=>none
def gGt:D->D->Option Bool | .int i,.int j=>some (decide (j < i)) | _,_=>none
def gEq:D->D->Option Bool
 | .int i,.int j=>some (decide (i=j))
 | .bl i,.bl j=>some (decide (i=j))
 | .str i,.str j=>some (decide (i=j))
 | _,_=>none
def gNe (x y:D):Option Bool:=(gEq x y).map (!·)
def CmR (X:Cx)(op:CmpOp)(g:D->D->Option Bool):Prop:=∃r:R2,OpR X (compareOp op) r/\∀(d d':D) (k:Bool) (G H:Hp) (x y:V) (Q:VK),g d d'=some k->Same G H->Rep X.K G d x->Rep X.K G d' y->(∀H' G',Step G H G' H'->Q (.bl k) H')->r x y H Q
theorem zSF {op:CmpOp}{p:Int->Int->Bool}{g:D->D->Option Bool}(ho:OpR X (compareOp op) (rI0 fun i j=>.bl (p i j)))(hg:∀d d' k,g d d'=some k->∃i j,d = .int i/\d' = .int j/\k=p i j):CmR X op g:=by
 refine⟨_,ho,fun d d' k G H x y Q h s rx ry q=>?_⟩
 obtain⟨i,j,rfl,rfl,rfl⟩:=hg d d' k h
 exact⟨i,j,zG.mp rx,zG.mp ry,q H G (.refl s)⟩
theorem zTL:CmR X .Lt gLt:=zSF zHP fun d d' k h=>by unfold gLt at h;split at h<;>cases h;exact⟨_,_,rfl,rfl,rfl⟩
theorem zKz:CmR X .LtE gLe:=zSF zHW fun d d' k h=>by unfold gLe at h;split at h<;>cases h;exact⟨_,_,rfl,rfl,rfl⟩
theorem zK7:CmR X .Gt gGt:=zSF zH9 fun d d' k h=>by unfold gGt at h;split at h<;>cases h;exact⟨_,_,rfl,rfl,rfl⟩
theorem zMX {d d':D}{k:Bool}{K:PySem.W.Frag}{G:Hp}{x y:V}(h:gEq d d'=some k)(rx:Rep K G d x)(ry:Rep K G d' y):zJ2 x y=true/\decide (x=y)=k:=by
 unfold gEq at h
 split at h
 · cases h;rw[zG] at rx ry;subst rx;subst ry;exact⟨rfl,by simp⟩
 · cases h;rw[w6] at rx ry;subst rx;subst ry;exact⟨rfl,by simp⟩
 · cases h;rw[yM] at rx ry;subst rx;subst ry;exact⟨rfl,by simp⟩
 · cases h
theorem wC:CmR X .Eq gEq:=⟨_,zIv,fun d d' k G H x y Q h s rx ry q=>by
 obtain⟨h1,h2⟩:=zMX h rx ry
 exact⟨h1,by rw[h2];exact q H G (.refl s)⟩⟩
theorem dR:CmR X .NotEq gNe:=⟨_,zHG,fun d d' k G H x y Q h s rx ry q=>by
 unfold gNe at h
 obtain⟨k',h',rfl⟩:=Qt.mp h
 obtain⟨h1,h2⟩:=zMX h' rx ry
 exact⟨h1,by rw[h2];exact q H G (.refl s)⟩⟩
theorem zRk {g:D->D->Option Bool}{ρ:List B}{k:Bool}(h:eB2 g fa fb ρ=some k):∃x y,fa ρ=some x/\fb ρ=some y/\g x y=some k:=by
 unfold eB2 at h
 obtain⟨x,h1,h⟩:=Qq.mp h
 obtain⟨y,h2,h⟩:=Qq.mp h
 exact⟨x,y,h1,h2,h⟩
theorem zXK {t:Tf}{ρ:List B}{d:D}(h:vI t ρ=some d):∃k,t ρ=some k/\d = .bl k:=by
 unfold vI at h
 obtain⟨k,h1,rfl⟩:=Qt.mp h
 exact⟨k,h1,rfl⟩
theorem rF {op:CmpOp}{g:D->D->Option Bool}(hc:CmR X op g)(ha:PF X a fa)(hb:PF X b fb)(hm:behindInMarks op b=false:=by first | exact zZ3 _ | (with_unfolding_all rfl)):PF X (.Compare a [op] [b] pos) (vI (eB2 g fa fb)):=by
 obtain⟨r,ho,hr⟩:=hc
 refine PE.to (zKY ho ha hb hm) ?_
 rintro σ H Q ⟨G0,H0,G,ρ,d,good,hf,k⟩
 obtain⟨c,hf2,rfl⟩:=zXK hf
 obtain⟨x,y,h1,h2,h3⟩:=zRk hf2
 refine⟨G0,H0,G,ρ,_,good,h1,fun u H1 G1 s1 r1=>⟨G0,H0,G1,ρ,_,good.step s1,h2,fun v H2 G2 s2 r2=>?_⟩⟩
 exact hr x y c G2 H2 u v Q h3 s2.sub (r1.mono s2.gg) r2 fun H' G' s3=>k _ _ G' ((s1.trans s2).trans s3) (w6.mpr rfl)
theorem zF {op:CmpOp}{g:D->D->Option Bool}(hc:CmR X op g)(ha:PF X a fa)(hb:PF X b fb)(hm:behindInMarks op b=false:=by first | exact zZ3 _ | (with_unfolding_all rfl)):PFT X (.Compare a [op] [b] pos) (eB2 g fa fb):=by
 obtain⟨r,ho,hr⟩:=hc
 refine PT.to (bA ho ha hb hm) ?_
 rintro σ H Q ⟨G0,H0,G,ρ,c,good,hf,k⟩
 obtain⟨x,y,h1,h2,h3⟩:=zRk hf
 refine⟨G0,H0,G,ρ,_,good,h1,fun u H1 G1 s1 r1=>⟨G0,H0,G1,ρ,_,good.step s1,h2,fun v H2 G2 s2 r2=>?_⟩⟩
 exact hr x y c G2 H2 u v _ h3 s2.sub (r1.mono s2.gg) r2 fun H' G' s3=>⟨c,rfl,k _ G' ((s1.trans s2).trans s3)⟩
def pJ:D->Bool | .non=>true | _=>false
theorem zW7 {K:PySem.W.Frag}{G:Hp}{d:D}{v:V}(r:Rep K G d v):decide (v = .non)=pJ d:=by
 cases d with
 | non=>rw[uO] at r;subst r;rfl
 | bl b=>rw[w6] at r;subst r;simp[pJ]
 | int b=>rw[zG] at r;subst r;simp[pJ]
 | str b=>rw[yM] at r;subst r;simp[pJ]
 | tup ds=>obtain⟨p,_,rfl,_⟩:=yF.mp r;simp[pJ]
 | lst ds=>obtain⟨p,_,rfl,_⟩:=xH.mp r;simp[pJ]
 | obj C ns ds=>obtain⟨_,p,_,_,_,rfl,_⟩:=zYM.mp r;simp[pJ]
 | exc C ns ds=>obtain⟨_,p,_,_,_,rfl,_⟩:=zQA.mp r;simp[pJ]
def nC:D->D->Option Bool | d,.non=>some (!pJ d) | _,_=>none
theorem zXB:CmR X .IsNot nC:=⟨_,zLd,fun d d' k G H x y Q h s rx ry q=>by
 unfold nC at h
 split at h
 · cases h
   refine⟨uO.mp ry,?_⟩
   rw[zW7 rx];exact q H G (.refl s)
 · cases h⟩
def tB1 (f:Ef):Tf:=fun ρ=>(f ρ).bind fun x=>match x with | .bl k=>some k | _=>none
theorem zUI {f:Ef}{ρ:List B}{k:Bool}(h:tB1 f ρ=some k):f ρ=some (.bl k):=by
 unfold tB1 at h
 obtain⟨x,h1,h⟩:=Qq.mp h
 split at h
 · cases h;exact h1
 · cases h
theorem vR (ha:PF X a fa)(he:∀whole,isTrue a X.env whole=(do let v ←whole;standAt a.pos;holding [v] (truthy v)):=by intro _;rfl):PFT X a (tB1 fa):=by
 refine PT.to (zIT ha he) ?_
 rintro σ H Q ⟨G0,H0,G,ρ,c,good,hf,k⟩
 exact⟨G0,H0,G,ρ,_,good,zUI hf,fun u H1 G1 s1 r1=>⟨c,w6.mp r1,k _ G1 s1⟩⟩
def sO (t:Tf):Tf:=fun ρ=>(t ρ).map (!·)
def rP (t u:Tf):Tf:=fun ρ=>(t ρ).bind fun c=>if c=true then u ρ else some false
def nE (t u:Tf):Tf:=fun ρ=>(t ρ).bind fun c=>if c=true then some true else u ρ
theorem aQ (ha:PFT X a ta):PFT X (.UnaryOp .Not a pos) (sO ta):=by
 refine PT.to (zJy ha) ?_
 rintro σ H Q ⟨G0,H0,G,ρ,c,good,hf,k⟩
 unfold sO at hf
 obtain⟨c',h1,rfl⟩:=Qt.mp hf
 exact⟨G0,H0,G,ρ,_,good,h1,fun H1 G1 s1=>k _ G1 s1⟩
theorem PW.to {t:TT}{f:Tf}(h:PW X e t)(imp:∀σ H Q,tFT X.K f σ H Q->t σ H Q):PFW X e f:=fun whole pins s σ H Q I q=>h whole pins s σ H Q I (imp σ H Q q)
theorem kO (ha:PFT X a ta):PFW X (.BoolOp .And [a] pos) ta:=zMo ha
theorem tX (ha:PFT X a ta):PFW X (.BoolOp .Or [a] pos) ta:=zKi ha
theorem eF {rest:List Expr}(ha:PFT X a ta)(hb:PFW X (.BoolOp .And (b::rest) pos) tb):PFW X (.BoolOp .And (a::b::rest) pos) (rP ta tb):=by
 refine PW.to (zJp ha hb) ?_
 rintro σ H Q ⟨G0,H0,G,ρ,c,good,hf,k⟩
 unfold rP at hf
 obtain⟨c',h1,hf⟩:=Qq.mp hf
 refine⟨G0,H0,G,ρ,_,good,h1,fun H1 G1 s1=>?_⟩
 split at hf
 · rename_i h;rw[Qb h];exact⟨G0,H0,G1,ρ,c,good.step s1,hf,fun H2 G2 s2=>k _ G2 (s1.trans s2)⟩
 · rename_i h;rw[Ws h];cases hf;exact k _ G1 s1
theorem sC {rest:List Expr}(ha:PFT X a ta)(hb:PFW X (.BoolOp .Or (b::rest) pos) tb):PFW X (.BoolOp .Or (a::b::rest) pos) (nE ta tb):=by
 refine PW.to (zIm ha hb) ?_
 rintro σ H Q ⟨G0,H0,G,ρ,c,good,hf,k⟩
 unfold nE at hf
 obtain⟨c',h1,hf⟩:=Qq.mp hf
 refine⟨G0,H0,G,ρ,_,good,h1,fun H1 G1 s1=>?_⟩
 split at hf
 · rename_i h;rw[Qb h];cases hf;exact k _ G1 s1
 · rename_i h;rw[Ws h];exact⟨G0,H0,G1,ρ,c,good.step s1,hf,fun H2 G2 s2=>k _ G2 (s1.trans s2)⟩
theorem kY (h:PFW X e ta):PFT X e ta:=h.pt
theorem zVo {op:BoolOp}(h:PF X a fa):PF X (.BoolOp op [a] pos) fa:=zJN h
def iF (fa fb:Ef):Ef:=fun ρ=>(tB1 fa ρ).bind fun c=>if c=true then fb ρ else some (.bl false)
theorem zXF {rest:List Expr}(ha:PF X a fa)(hb:PF X (.BoolOp .And (b::rest) pos) fb):PF X (.BoolOp .And (a::b::rest) pos) (iF fa fb):=by
 refine PE.to (zJ5 ha hb) ?_
 rintro σ H Q ⟨G0,H0,G,ρ,d,good,hf,k⟩
 obtain⟨c,h1,hf⟩:=Qq.mp hf
 refine⟨G0,H0,G,ρ,_,good,zUI h1,fun u H1 G1 s1 r1=>⟨c,w6.mp r1,?_⟩⟩
 split at hf
 · rename_i h;rw[Qb h];exact⟨G0,H0,G1,ρ,d,good.step s1,hf,fun v H2 G2 s2 r2=>k _ _ G2 (s1.trans s2) r2⟩
 · rename_i h;rw[Ws h];cases hf;exact k _ _ G1 s1 (w6.mpr rfl)
theorem zJW (ha:PF X a fa):PF X (.UnaryOp .Not a pos) (vI (sO (tB1 fa))):=by
 refine PE.to (zJ0 ha) ?_
 rintro σ H Q ⟨G0,H0,G,ρ,d,good,hf,k⟩
 obtain⟨c,hf2,rfl⟩:=zXK hf
 unfold sO at hf2
 obtain⟨c',h1,rfl⟩:=Qt.mp hf2
 exact⟨G0,H0,G,ρ,_,good,zUI h1,fun u H1 G1 s1 r1=>⟨c',w6.mp r1,k _ _ G1 s1 (w6.mpr rfl)⟩⟩
def eIf (t:Tf)(fa fb:Ef):Ef:=fun ρ=>(t ρ).bind fun c=>if c=true then fa ρ else fb ρ
theorem zVZ (ht:PFT X c ta)(ha:PF X a fa)(hb:PF X b fb):PF X (.IfExp c a b pos) (eIf ta fa fb):=by
 refine PE.to (zO2 ht ha hb) ?_
 rintro σ H Q ⟨G0,H0,G,ρ,d,good,hf,k⟩
 unfold eIf at hf
 obtain⟨c',h1,hf⟩:=Qq.mp hf
 refine⟨G0,H0,G,ρ,_,good,h1,fun H1 G1 s1=>?_⟩
 split at hf
 · rename_i h;rw[Qb h];exact⟨G0,H0,G1,ρ,d,good.step s1,hf,fun v H2 G2 s2 r2=>k _ _ G2 (s1.trans s2) r2⟩
 · rename_i h;rw[Ws h];exact⟨G0,H0,G1,ρ,d,good.step s1,hf,fun v H2 G2 s2 r2=>k _ _ G2 (s1.trans s2) r2⟩
def zR:Lf:=fun _=>some []
def zY (f:Ef)(r:Lf):Lf:=fun ρ=>(f ρ).bind fun d=>(r ρ).map fun ds=>d::ds
theorem zW:PFA X [] zR:=by
 refine PA.to yK ?_
 rintro σ H Q ⟨G0,H0,G,ρ,d,good,hf,k⟩
 cases hf
 exact k [] H G (.refl good.sub) (yV.mpr rfl)
theorem zWz {f:Ef}{r:Lf}{ρ:List B}{ds:List D}(h:zY f r ρ=some ds):∃d dr,f ρ=some d/\r ρ=some dr/\ds=d::dr:=by
 unfold zY at h
 obtain⟨d,h1,h⟩:=Qq.mp h
 obtain⟨dr,h2,rfl⟩:=Qt.mp h
 exact⟨d,dr,h1,h2,rfl⟩
theorem zZ (ha:PF X e fa)(hr:PFA X es ga)(hs:starEach (e::es) X.env=(false,eval e X.env)::starEach es X.env:=by rfl):PFA X (e::es) (zY fa ga):=by
 refine PA.to (yY ha hr hs) ?_
 rintro σ H Q ⟨G0,H0,G,ρ,ds,good,hf,k⟩
 obtain⟨d,dr,h1,h2,rfl⟩:=zWz hf
 refine⟨G0,H0,G,ρ,_,good,h1,fun u H1 G1 s1 r1=>⟨G0,H0,G1,ρ,_,good.step s1,h2,fun v H2 G2 s2 r2=>?_⟩⟩
 exact k _ _ G2 (s1.trans s2) (zE.mpr ⟨u,v,rfl,r1.mono s2.gg,r2⟩)
abbrev lim:Nat:=100000
theorem vO {n:Nat}(h:n<=lim):n < sizeLine:=Nat.lt_of_le_of_lt h (by decide)
def okL (ds:List D):Option (List D):=if ds.length<=lim then some ds else none
theorem aO {ds es:List D}(h:okL ds=some es):es=ds/\ds.length<=lim:=by
 unfold okL at h
 split at h
 · rename_i q;cases h;exact⟨rfl,q⟩
 · cases h
def yW (g:Lf):Ef:=fun ρ=>((g ρ).bind okL).map .tup
theorem zN {k:Nat}(h:PFA X es ga):PF X (.Tuple es k pos) (yW ga):=by
 refine PE.to (zKk h) ?_
 rintro σ H Q ⟨G0,H0,G,ρ,d,good,hf,k⟩
 unfold yW at hf
 obtain⟨ds,h1,rfl⟩:=Qt.mp hf
 obtain⟨es,h1,h2⟩:=Qq.mp h1
 obtain⟨rfl,h3⟩:=aO h2
 refine⟨G0,H0,G,ρ,_,good,h1,fun vs H1 G1 s1 r1=>⟨by rw[←r1.length];exact Wx (vO h3),fun p hp=>?_⟩⟩
 have s2:=Step.laid (o:=.tup vs) s1.sub hp
 exact k _ _ _ (s1.trans s2) (yF.mpr ⟨p,vs,rfl,.of yX,r1.mono s2.gg⟩)
def yA (g:Lf):Lf:=fun ρ=>(g ρ).bind okL
theorem yG (h:PFA X es ga):PFr X (.List es pos) (yA ga):=by
 refine PE.toR (zMN h) ?_
 rintro σ H Q ⟨G0,H0,G,ρ,d,good,hf,k⟩
 unfold yA at hf
 obtain⟨es,h1,h2⟩:=Qq.mp hf
 obtain⟨rfl,h3⟩:=aO h2
 refine⟨G0,H0,G,ρ,_,good,h1,fun vs H1 G1 s1 r1=>⟨by rw[←r1.length];exact Wx (vO h3),fun p hp=>?_⟩⟩
 exact k p vs _ G1 (s1.trans (Step.own s1.sub hp)) (s1.hh.free hp) yX (s1.sub.free hp) r1
def atD (x y:D):Option D:=match x,y with
 | .tup ds,.int i=>atI ds i
 | .lst ds,.int i=>atI ds i
 | .str z,.int i=>if z.length<=lim then(atI z.cps.toList i).map fun c=>.str ⟨#[c]⟩ else none
 | _,_=>none
def eIx (fa fb:Ef):Ef:=fun ρ=>(fa ρ).bind fun x=>(fb ρ).bind fun y=>atD x y
theorem zYy {K:PySem.W.Frag}{G:Hp}{ds:List D}{vs:List V}{i:Int}{d:D}(r:Reps K G ds vs)(h:atI ds i=some d):∃v,atI vs i=some v/\Rep K G d v:=by
 unfold atI at h ⊢
 rw[r.length] at h
 obtain⟨j,h1,h2⟩:=Qq.mp h
 obtain⟨v,h3,h4⟩:=r.get h2
 exact⟨v,by rw[h1];exact h3,h4⟩
theorem yE (ha:PF X a fa)(hb:PF X b fb)(hs:dZ b:=by exact fun _ _=>rfl):PF X (.Subscript a b pos) (eIx fa fb):=by
 refine PE.to (zUl zJx ha hb hs) ?_
 rintro σ H Q ⟨G0,H0,G,ρ,d,good,hf,k⟩
 unfold eIx at hf
 obtain⟨x,h1,hf⟩:=Qq.mp hf
 obtain⟨y,h2,hf⟩:=Qq.mp hf
 refine⟨G0,H0,G,ρ,_,good,h1,fun u H1 G1 s1 r1=>⟨G0,H0,G1,ρ,_,good.step s1,h2,fun v H2 G2 s2 r2=>?_⟩⟩
 have r1:=r1.mono s2.gg
 have s3:=s1.trans s2
 unfold atD at hf
 split at hf
 · obtain⟨p,vs,rfl,q,rs⟩:=yF.mp r1
   obtain⟨w,e,rw'⟩:=zYy rs hf
   exact .inr (.inl ⟨p,vs,_,w,rfl,zG.mp r2,s2.sub.tup q,e,k _ _ G2 s3 rw'⟩)
 · obtain⟨p,vs,rfl,q,rs⟩:=xH.mp r1
   obtain⟨w,e,rw'⟩:=zYy rs hf
   exact .inl ⟨p,vs,_,w,rfl,zG.mp r2,s2.sub.seq q,e,k _ _ G2 s3 rw'⟩
 · split at hf
   · rename_i hz
     obtain⟨c,e,rfl⟩:=Qt.mp hf
     exact .inr (.inr ⟨_,_,c,yM.mp r1,zG.mp r2,Wx (vO hz),e,k _ _ G2 s3 (yM.mpr rfl)⟩)
   · cases hf
 · cases hf
end
inductive Out where
 | nx (ρ:List B) | rt (d:D) | rl (ds:List D) | bk (ρ:List B) | ct (ρ:List B)
 deriving Inhabited
abbrev Sf:=List B->Option Out
def Wants (K:PySem.W.Frag)(G0 H0 G:Hp)(D:Ends):Out->Prop
 | .nx ρ'=>∀σ' H' G',Same G G'->Good K G0 H0 G' H' σ' ρ'->D.nx σ' H'
 | .bk ρ'=>∀σ' H' G',Same G G'->Good K G0 H0 G' H' σ' ρ'->D.bk σ' H'
 | .ct ρ'=>∀σ' H' G',Same G G'->Good K G0 H0 G' H' σ' ρ'->D.ct σ' H'
 | .rt d=>∀v H' G',Step G0 H0 G' H'->Rep K G' d v->D.rt v H'
 | .rl ds=>∀a vs H' G',Step G0 H0 G' H'->H0 a=none->H' a=some (.lst vs)->G' a=none->Reps K G' ds vs->D.rt (.ref a) H'
def tFS (K:PySem.W.Frag)(f:Sf):TS:=fun D σ H=>∃G0 H0 G ρ o,Good K G0 H0 G H σ ρ/\f ρ=some o/\Wants K G0 H0 G D o
def PFS (X:Cx)(st:Stmt)(f:Sf):Prop:=PS X st (tFS X.K f)
def dX (X:Cx)(sts:List Stmt)(f:Sf):Prop:=PSs X sts (tFS X.K f)
theorem PS.to {X:Cx}{st:Stmt}{t:TS}{f:Sf}(h:PS X st t)(imp:∀D σ H,tFS X.K f D σ H->t D σ H):PFS X st f:=fun pins s σ H D I q=>h pins s σ H D I (imp D σ H q)
theorem PSs.to {X:Cx}{st:List Stmt}{t:TS}{f:Sf}(h:PSs X st t)(imp:∀D σ H,tFS X.K f D σ H->t D σ H):dX X st f:=fun pins s σ H D I q=>h pins s σ H D I (imp D σ H q)
theorem Wants.mono {K:PySem.W.Frag}{G0 H0 G G':Hp}{D:Ends}{o:Out}(h:Wants K G0 H0 G D o)(s:Same G G'):Wants K G0 H0 G' D o:=by
 cases o with
 | nx ρ=>exact fun σ' H' G2 s2 g=>h σ' H' G2 (s.trans s2) g
 | bk ρ=>exact fun σ' H' G2 s2 g=>h σ' H' G2 (s.trans s2) g
 | ct ρ=>exact fun σ' H' G2 s2 g=>h σ' H' G2 (s.trans s2) g
 | rt d=>exact h
 | rl ds=>exact h
theorem uK {ρ:List B}{i j:Nat}{d:D}{ds:List D}(h:(ρ.set i (.fz d))[j]?=some (.ow ds)):j≠i/\ρ[j]?=some (.ow ds):=by
 by_cases e:j=i
 · subst e
   rw[Ik] at h
   split at h
   · split at h<;>cases h
   · rename_i z;exact absurd rfl z
 · rw[Wb (Ne.symm e)] at h
   exact⟨e,h⟩
theorem zZJ {ρ:List B}{i j:Nat}{d:D}{ds:List (D×D)}(h:(ρ.set i (.fz d))[j]?=some (.od ds)):j≠i/\ρ[j]?=some (.od ds):=by
 by_cases e:j=i
 · subst e
   rw[Ik] at h
   split at h
   · split at h<;>cases h
   · rename_i z;exact absurd rfl z
 · rw[Wb (Ne.symm e)] at h
   exact⟨e,h⟩
theorem Good.setF {K:PySem.W.Frag}{G0 H0 G H:Hp}{σ:St}{ρ:List B}{v:V}{d:D}(g:Good K G0 H0 G H σ ρ)(i:Nat)(r:Rep K G d v):Good K G0 H0 G H (σ.set i (some v)) (ρ.set i (.fz d)):=by
 refine⟨g.st,Paired.set (.fz r) i g.vals,fun j k a ds es h1 h2 h3 h4=>?_⟩
 obtain⟨n1,e1⟩:=uK h1
 obtain⟨n2,e2⟩:=uK h2
 rw[Wb (Ne.symm n1)] at h3
 rw[Wb (Ne.symm n2)] at h4
 exact g.apart j k a ds es e1 e2 h3 h4
theorem Good.addr {K:PySem.W.Frag}{G0 H0 G H:Hp}{σ:St}{ρ:List B}{i:Nat}{ds:List D}(g:Good K G0 H0 G H σ ρ)(h:ρ[i]?=some (.ow ds)):∃a vs,σ[i]?=some (some (.ref a))/\H a=some (.lst vs)/\G a=none/\H0 a=none/\Reps K G ds vs:=by
 obtain⟨o,e,r⟩:=Paired.get g.vals h
 cases r with
 | ow h1 h2 h3 h4=>exact⟨_,_,e,h1,h2,h3,h4⟩
theorem Good.setO {K:PySem.W.Frag}{G0 H0 G H:Hp}{σ:St}{ρ:List B}{a:Addr}{vs:List V}{ds:List D}(g:Good K G0 H0 G H σ ρ)(i:Nat)(ha:H a=some (.lst vs))(ga:G a=none)(h0:H0 a=none)(rs:Reps K G ds vs)
   (fr:∀(j:Nat) (es:List D),ρ[j]?=some (B.ow es)->σ[j]?≠some (some (V.ref a))):Good K G0 H0 G H (σ.set i (some (.ref a))) (ρ.set i (.ow ds)):=by
 have hl:σ.length=ρ.length:=Paired.length g.vals
 refine⟨g.st,Paired.set (.ow ha ga h0 rs) i g.vals,fun j k b d1 d2 h1 h2 h3 h4=>?_⟩
 by_cases hj:j=i
 · by_cases hk:k=i
   · rw[hj,hk]
   · subst hj
     rw[Wb (Ne.symm hk)] at h2 h4
     have hlt:j < σ.length:=by
       have:=(Qm.mp h3).1
       rwa[Th] at this
     rw[Tc hlt] at h3
     cases h3
     exact absurd h4 (fr k d2 h2)
 · rw[Wb (Ne.symm hj)] at h1 h3
   by_cases hk:k=i
   · subst hk
     have hlt:k < σ.length:=by
       have:=(Qm.mp h4).1
       rwa[Th] at this
     rw[Tc hlt] at h4
     cases h4
     exact absurd h3 (fr j d1 h1)
   · rw[Wb (Ne.symm hk)] at h2 h4
     exact g.apart j k b d1 d2 h1 h2 h3 h4
theorem Good.wr {K:PySem.W.Frag}{G0 H0 G H:Hp}{σ:St}{ρ:List B}{a:Addr}{us:List V}{ds es:List D}{i:Nat}(g:Good K G0 H0 G H σ ρ)(hi:ρ[i]?=some (.ow ds))(hs:σ[i]?=some (some (.ref a)))(rs:Reps K G es us) :
   Good K G0 H0 G (upd H a (.lst us)) σ (ρ.set i (.ow es)):=by
 obtain⟨a',vs,h1,h2,h3,h4,_⟩:=g.addr hi
 rw[hs] at h1;cases h1
 have st:Step G0 H0 G (upd H a (.lst us)):=by
   refine⟨fun b o e=>?_,g.st.gg,fun b o e=>?_,g.st.new⟩
   · rw[yI (xR e h4)];exact g.st.hh b o e
   · rw[yI (xR e h3)];exact g.st.sub b o e
 have hl:σ.length=ρ.length:=Paired.length g.vals
 have hil:i < ρ.length:=(Qm.mp hi).1
 have key:∀(l:List (Option V)) (r:List B) (n:Nat),Paired (RB K H0 G H) l r->(∀j es,n+j≠i->r[j]?=some (.ow es)->l[j]?≠some (some (.ref a)))->(∀j,n+j=i->l[j]?=some (some (.ref a))) ->
     Paired (RB K H0 G (upd H a (.lst us))) l (if i < n then r else r.set (i - n) (.ow es)):=by
   intro l r n p
   induction p generalizing n with
   | nil=>intro _ _;split<;>exact .nil
   | @cons o b l' r' q t ih =>
     intro hne hat
     have tl:=ih (n+1) (fun j es z e=>by have:=hne (j+1) es (by omega) (by simpa using e);simpa using this) (fun j z=>by have:=hat (j+1) (by omega);simpa using this)
     have keepq:(∀es,b = .ow es->o≠some (.ref a))->RB K H0 G (upd H a (.lst us)) o b:=fun hb=>by
       cases q with
       | no=>exact .no
       | fz r=>exact .fz r
       | @ow c vs ds' c1 c2 c3 c4 =>
         have:c≠a:=fun z=>hb _ rfl (by rw[z])
         exact .ow (by rw[yI this];exact c1) c2 c3 c4
       | @od c _ _ _ _ c1 c2 c3 c4 c5 c6 =>
         have:c≠a:=fun z=>by rw[z,h2] at c1;cases c1
         exact .od (by rw[yI this];exact c1) c2 c3 c4 c5 c6
     by_cases h1:i < n
     · rw[Qb h1]
       rw[Qb (by omega)] at tl
       refine .cons (keepq fun es e z=>?_) tl
       exact hne 0 es (by omega) (by simp[e]) (by simp[z])
     · rw[Ws h1]
       by_cases h2:i=n
       · subst h2
         rw[Qb (by omega)] at tl
         have:=hat 0 (by omega)
         simp at this
         subst this
         rw[Iv]
         exact .cons (.ow yX h3 h4 rs) tl
       · rw[Ws (by omega)] at tl
         have e:i - n=(i - (n+1))+1:=by omega
         rw[e]
         refine .cons (keepq fun es e z=>?_) tl
         exact hne 0 es (by omega) (by simp[e]) (by simp[z])
 have vals:=key σ ρ 0 g.vals (fun j es' z e w=>by
   have:=g.apart j i a es' ds e hi w hs
   omega) (fun j z=>by rw[show j=i by omega];exact hs)
 rw[Ws (Nat.not_lt_zero _),Nat.sub_zero] at vals
 refine⟨st,vals,fun j k b d1 d2 e1 e2 e3 e4=>?_⟩
 have un:∀(j:Nat) (d1:List D),(ρ.set i (B.ow es))[j]?=some (B.ow d1)->∃d,ρ[j]?=some (B.ow d):=fun j d1 e=>by
   by_cases hj:j=i
   · subst hj;exact⟨ds,hi⟩
   · rw[Wb (Ne.symm hj)] at e;exact⟨d1,e⟩
 obtain⟨c1,f1⟩:=un j d1 e1
 obtain⟨c2,f2⟩:=un k d2 e2
 exact g.apart j k b c1 c2 f1 f2 e3 e4
section
variable {X:Cx} {b c e tg:Expr} {es:List Expr} {fa:Ef} {ga:Lf} {ta:Tf} {pos:Pos} {st:Stmt} {rest:List Stmt} {f g:Sf}
def zP (f g:Sf):Sf:=fun ρ=>(f ρ).bind fun o=>match o with | .nx ρ'=>g ρ' | o=>some o
def xT:Sf:=fun ρ=>some (.nx ρ)
theorem zJ:dX X [] xT:=by
 refine PSs.to zRl ?_
 rintro D σ H ⟨G0,H0,G,ρ,o,good,hf,k⟩
 cases hf
 exact k σ H G (Same.refl _) good
theorem zT (h:PFS X st f):dX X [st] f:=zMl h
theorem wV (h1:PFS X st f)(h2:dX X rest g):dX X (st::rest) (zP f g):=by
 refine PSs.to (zTl h1 h2) ?_
 rintro D σ H ⟨G0,H0,G,ρ,o,good,hf,k⟩
 unfold zP at hf
 obtain⟨o1,h1,hf⟩:=Qq.mp hf
 refine⟨G0,H0,G,ρ,o1,good,h1,?_⟩
 cases o1 with
 | nx ρ'=>exact fun σ' H' G' s g'=>⟨G0,H0,G',ρ',o,g',hf,k.mono s⟩
 | rt d=>cases hf;exact k
 | rl d=>cases hf;exact k
 | bk d=>cases hf;exact k
 | ct d=>cases hf;exact k
def yO (f:Ef):Sf:=fun ρ=>(f ρ).map .rt
theorem zM (h:PF X e fa):PFS X (.Return (some e) pos) (yO fa):=by
 refine PS.to (zRF h) ?_
 rintro D σ H ⟨G0,H0,G,ρ,o,good,hf,k⟩
 unfold yO at hf
 obtain⟨d,h1,rfl⟩:=Qt.mp hf
 exact⟨G0,H0,G,ρ,d,good,h1,fun v H' G' s r=>k v H' G' (good.st.trans s) r⟩
def zT8 (f:Lf):Sf:=fun ρ=>(f ρ).map .rl
theorem zRh (h:PFr X e ga):PFS X (.Return (some e) pos) (zT8 ga):=by
 refine PS.to (zRF h) ?_
 rintro D σ H ⟨G0,H0,G,ρ,o,good,hf,k⟩
 unfold zT8 at hf
 obtain⟨d,h1,rfl⟩:=Qt.mp hf
 exact⟨G0,H0,G,ρ,d,good,h1,fun p vs H' G' s hn hp gp rs=>k p vs H' G' (good.st.trans s) (good.st.hh.free hn) hp gp rs⟩
def zXW (i:Nat):Sf:=fun ρ=>match ρ[i]? with | some (.ow ds)=>some (.rl ds) | _=>none
theorem zZZ (i:Nat){x:Str}{pos':Pos}(hN:X.N[i]?=some x:=by rfl)(hv:Vis X.env.scope x:=by first | exact Or.inl rfl | exact Or.inr (Or.inl rfl) | exact Or.inr (Or.inr rfl))(hd:(x==("__debug__":Str))=false:=by decide)(hcd:(x==("__classdict__":Str))=false:=by decide) :
   PFS X (.Return (some (.Name x pos')) pos) (zXW i):=by
 refine PS.to (zRF (lL hN hv hd hcd)) ?_
 rintro D σ H ⟨G0,H0,G,ρ,o,good,hf,k⟩
 unfold zXW at hf
 split at hf
 · rename_i ds e
   cases hf
   obtain⟨p,vs,h1,h2,h3,h4,h5⟩:=good.addr e
   exact⟨.ref p,h1,k p vs H G good.st h4 h2 h3 h5⟩
 · cases hf
def sIf (t:Tf)(f g:Sf):Sf:=fun ρ=>(t ρ).bind fun c=>if c=true then f ρ else g ρ
theorem yR {sa sb:List Stmt}(ht:PFT X c ta)(ha:dX X sa f)(hb:dX X sb g):PFS X (.If c sa sb pos) (sIf ta f g):=by
 refine PS.to (zIe ht ha hb) ?_
 rintro D σ H ⟨G0,H0,G,ρ,o,good,hf,k⟩
 unfold sIf at hf
 obtain⟨c',h1,hf⟩:=Qq.mp hf
 refine⟨G0,H0,G,ρ,_,good,h1,fun H1 G1 s1=>?_⟩
 split at hf
 · rename_i h;rw[Qb h];exact⟨G0,H0,G1,ρ,o,good.step s1,hf,k.mono s1.gg⟩
 · rename_i h;rw[Ws h];exact⟨G0,H0,G1,ρ,o,good.step s1,hf,k.mono s1.gg⟩
abbrev Gf:=D->List B->Option (List B)
def tFG (K:PySem.W.Frag)(g:Gf):TG:=fun v σ H Q=>∃G0 H0 G ρ d ρ',Good K G0 H0 G H σ ρ/\Rep K G d v/\g d ρ=some ρ'/\∀σ' H' G',Step G H G' H'->Good K G0 H0 G' H' σ' ρ'->Q σ' H'
def PFG (X:Cx)(tg:Expr)(g:Gf):Prop:=PG X tg (tFG X.K g)
abbrev Gfs:=List D->List B->Option (List B)
def zHx (K:PySem.W.Frag)(g:Gfs):TGs:=fun vs σ H Q=>∃G0 H0 G ρ ds ρ',Good K G0 H0 G H σ ρ/\Reps K G ds vs/\g ds ρ=some ρ'/\∀σ' H' G',Step G H G' H'->Good K G0 H0 G' H' σ' ρ'->Q σ' H'
def zKF (X:Cx)(tgs:List Expr)(g:Gfs):Prop:=PGs X tgs (zHx X.K g)
def gN (i:Nat):Gf:=fun d ρ=>some (ρ.set i (.fz d))
theorem xQ (i:Nat){x:Str}(hN:X.N.Nodup)(hi:X.N[i]?=some x:=by rfl)(hx:Loc X.env.scope x:=by first | exact .inl rfl | exact .inr rfl)(hf:X.fn x=true∨X.env.scope.names.lookup x=some .local:=by first | exact .inl rfl | exact .inr rfl):PFG X (.Name x pos) (gN i):=by
 have h:=zMp (pos:=pos) hN hi hx hf
 intro pins s σ H v u Q I r q
 refine h pins s σ H v u Q I r ?_
 obtain⟨G0,H0,G,ρ,d,ρ',good,rd,hf,k⟩:=q
 cases hf
 exact k _ H G (.refl good.sub) (good.setF i rd)
def xP:Gfs:=fun ds ρ=>match ds with | []=>some ρ | _=>none
def zL (g:Gf)(r:Gfs):Gfs:=fun ds ρ=>match ds with | d::dr=>(g d ρ).bind fun ρ'=>r dr ρ' | _=>none
theorem xL:zKF X [] xP:=by
 intro pins s σ H vs us Q I r q
 refine zKQ pins s σ H vs us Q I r ?_
 obtain⟨G0,H0,G,ρ,ds,ρ',good,rd,hf,k⟩:=q
 unfold xP at hf
 split at hf
 · cases hf
   rw[yV] at rd
   exact⟨rd,k _ H G (.refl good.sub) good⟩
 · cases hf
theorem zI {g:Gf}{r:Gfs}(h1:PFG X e g)(h2:zKF X es r)(hs:(assignEach (e::es) X.env).map (·.2)=assign e X.env::(assignEach es X.env).map (·.2):=by rfl):zKF X (e::es) (zL g r):=by
 intro pins s σ H vs us Q I rv q
 refine zMS h1 h2 hs pins s σ H vs us Q I rv ?_
 obtain⟨G0,H0,G,ρ,ds,ρ',good,rd,hf,k⟩:=q
 unfold zL at hf
 split at hf
 · rename_i d dr
   obtain⟨ρ1,e1,e2⟩:=Qq.mp hf
   obtain⟨v,vr,rfl,r1,r2⟩:=zE.mp rd
   exact⟨v,vr,rfl,G0,H0,G,ρ,d,ρ1,good,r1,e1,fun σ' H' G' s' g'=>⟨G0,H0,G',ρ1,dr,ρ',g',r2.mono s'.gg,e2,fun σ2 H2 G2 s2 g2=>k σ2 H2 G2 (s'.trans s2) g2⟩⟩
 · cases hf
def gT (r:Gfs):Gf:=fun d ρ=>match d with | .tup ds=>r ds ρ | _=>none
theorem nK {r:Gfs}{k:Nat}(n:Nat)(hc:X.calm=true)(h:zKF X es r)(hr:∀ds ρ ρ',r ds ρ=some ρ'->ds.length=n)(hn:(assignEach es X.env).length=n:=by rfl)(hst:(assignEach es X.env).findIdx? (·.1)=none:=by rfl):PFG X (.Tuple es k pos) (gT r):=by
 have h:=zIX (pos:=pos) (k:=k) hc h hn hst
 intro pins s σ H v u Q I rv q
 refine h pins s σ H v u Q I rv ?_
 obtain⟨G0,H0,G,ρ,d,ρ',good,rd,hf,k⟩:=q
 unfold gT at hf
 split at hf
 · obtain⟨p,vs,rfl,h1,h2⟩:=yF.mp rd
   exact⟨p,vs,rfl,good.sub.tup h1,by rw[←h2.length];exact hr _ _ _ hf,G0,H0,G,ρ,_,ρ',good,h2,hf,k⟩
 · cases hf
theorem yS {g:Gf}{r:Gfs}{n:Nat}(h:∀ds ρ ρ',r ds ρ=some ρ'->ds.length=n):∀ds ρ ρ',zL g r ds ρ=some ρ'->ds.length=n+1:=by
 intro ds ρ ρ' q
 unfold zL at q
 split at q
 · obtain⟨ρ1,e1,e2⟩:=Qq.mp q
   rw[Qo,h _ _ _ e2]
 · cases q
theorem wZ:∀ds ρ ρ',xP ds ρ=some ρ'->ds.length=0:=by
 intro ds ρ ρ' q
 unfold xP at q
 split at q
 · rfl
 · cases q
def zXt (ρ:List B):Prop:=(∀(j:Nat) (es:List D),ρ[j]?≠some (B.ow es))/\∀(j:Nat) (ks:List (D×D)),ρ[j]?≠some (B.od ks)
def zP9 (g:Gf):Prop:=∀d ρ ρ',g d ρ=some ρ'->zXt ρ->zXt ρ'
def zQ4 (g:Gfs):Prop:=∀d ρ ρ',g d ρ=some ρ'->zXt ρ->zXt ρ'
theorem uI (i:Nat):zP9 (gN i):=fun d ρ ρ' h n=>by
 cases h
 exact⟨fun j es e=>n.1 j es (uK e).2,fun j ks e=>n.2 j ks (zZJ e).2⟩
theorem pS:zQ4 xP:=fun d ρ ρ' h n=>by
 unfold xP at h
 split at h
 · cases h;exact n
 · cases h
theorem xD {g:Gf}{r:Gfs}(h1:zP9 g)(h2:zQ4 r):zQ4 (zL g r):=fun d ρ ρ' h n=>by
 unfold zL at h
 split at h
 · obtain⟨ρ1,e1,e2⟩:=Qq.mp h
   exact h2 _ _ _ e2 (h1 _ _ _ e1 n)
 · cases h
theorem zXh {r:Gfs}(h:zQ4 r):zP9 (gT r):=fun d ρ ρ' q n=>by
 unfold gT at q
 split at q
 · exact h _ _ _ q n
 · cases q
def mO (f:Ef)(g:Gf):Sf:=fun ρ=>(f ρ).bind fun d=>(g d ρ).map .nx
theorem zOg {K:PySem.W.Frag}{t:TE}{f:Ef}{g:Gf}(imp:∀σ H Q,tF K f σ H Q->t σ H Q){D:Ends}{σ:St}{H:Hp}(h:tFS K (mO f g) D σ H):zPB t (tFG K g) D σ H:=by
 obtain⟨G0,H0,G,ρ,o,good,hf,k⟩:=h
 unfold mO at hf
 obtain⟨d,h1,hf⟩:=Qq.mp hf
 obtain⟨ρ',h2,rfl⟩:=Qt.mp hf
 exact imp _ _ _ ⟨G0,H0,G,ρ,d,good,h1,fun v H' G' s r=>⟨G0,H0,G',ρ,d,ρ',good.step s,r,h2,fun σ2 H2 G2 s2 g2=>k σ2 H2 G2 (s.gg.trans s2.gg) g2⟩⟩
theorem oM {g:Gf}(he:PF X e fa)(hg:PFG X tg g)(hs:swapsWithSole [tg] e pos.line X.env=pure false:=by rfl)(hw:swappedStores [tg] e X.env=pure none:=by rfl)(h1:(assignEach [tg] X.env).map (·.2)=[assign tg X.env]:=by rfl) :
   PFS X (.Assign [tg] e pos) (mO fa g):=PS.to (zSd he hg hs hw h1) fun D σ H h=>zOg (fun _ _ _ q=>q) h
def yP (i:Nat)(f:Ef):Sf:=fun ρ=>(f ρ).map fun d=>.nx (ρ.set i (.fz d))
theorem zN8 {K:PySem.W.Frag}{t:TE}{f:Ef}{i:Nat}(imp:∀σ H Q,tF K f σ H Q->t σ H Q){D:Ends}{σ:St}{H:Hp}(h:tFS K (yP i f) D σ H):zPB t (zSP i) D σ H:=by
 obtain⟨G0,H0,G,ρ,o,good,hf,k⟩:=h
 unfold yP at hf
 obtain⟨d,h1,rfl⟩:=Qt.mp hf
 exact imp _ _ _ ⟨G0,H0,G,ρ,d,good,h1,fun v H' G' s r=>k _ H' G' s.gg ((good.step s).setF i r)⟩
theorem zK (i:Nat){x:Str}{pos':Pos}(hN:X.N.Nodup)(he:PF X e fa)(hi:X.N[i]?=some x:=by rfl)(hx:Loc X.env.scope x:=by first | exact .inl rfl | exact .inr rfl)(hs:swapsWith e (some (.Name x pos')) pos.line X.env=pure false:=by rfl)
   (hf:X.fn x=true∨X.env.scope.names.lookup x=some .local:=by first | exact .inl rfl | exact .inr rfl):PFS X (.Assign [.Name x pos'] e pos) (yP i fa) :=
 PS.to (zU7 hN hi hx he hs hf) fun D σ H h=>zN8 (fun _ _ _ q=>q) h
def uT (i:Nat)(f:Lf):Sf:=fun ρ=>(f ρ).map fun ds=>.nx (ρ.set i (.ow ds))
theorem zUz {K:PySem.W.Frag}{t:TE}{f:Lf}{i:Nat}(imp:∀σ H Q,tFr K f σ H Q->t σ H Q){D:Ends}{σ:St}{H:Hp}(h:tFS K (uT i f) D σ H):zPB t (zSP i) D σ H:=by
 obtain⟨G0,H0,G,ρ,o,good,hf,k⟩:=h
 unfold uT at hf
 obtain⟨ds,h1,rfl⟩:=Qt.mp hf
 refine imp _ _ _ ⟨G0,H0,G,ρ,ds,good,h1,fun p vs H' G' s hn hp gp rs=>?_⟩
 refine k _ H' G' s.gg ((good.step s).setO i hp gp (good.st.hh.free hn) rs fun j es e z=>?_)
 obtain⟨q,us,e1,e2,_⟩:=good.addr e
 rw[e1] at z;cases z
 rw[hn] at e2;cases e2
theorem tM (i:Nat){x:Str}{pos':Pos}(hN:X.N.Nodup)(he:PFr X e ga)(hi:X.N[i]?=some x:=by rfl)(hx:Loc X.env.scope x:=by first | exact .inl rfl | exact .inr rfl)(hs:swapsWith e (some (.Name x pos')) pos.line X.env=pure false:=by rfl)
   (hf:X.fn x=true∨X.env.scope.names.lookup x=some .local:=by first | exact .inl rfl | exact .inr rfl):PFS X (.Assign [.Name x pos'] e pos) (uT i ga) :=
 PS.to (zU7 hN hi hx he hs hf) fun D σ H h=>zUz (fun _ _ _ q=>q) h
def zJG (i:Nat)(ρ:List B):List B:=match ρ[i]? with | some (.ow ds)=>ρ.set i (.fz (.lst ds)) | _=>ρ
def kQ (i:Nat)(f:Sf):Sf:=fun ρ=>f (zJG i ρ)
theorem Good.frz {K:PySem.W.Frag}{G0 H0 G H:Hp}{σ:St}{ρ:List B}(g:Good K G0 H0 G H σ ρ)(i:Nat):∃G',Same G G'/\Good K G0 H0 G' H σ (zJG i ρ):=by
 unfold zJG
 split
 · rename_i ds e
   obtain⟨p,vs,h1,h2,h3,h4,h5⟩:=g.addr e
   have sG:Same G (upd G p (.lst vs)):=Same.new h3
   have st:Step G0 H0 (upd G p (.lst vs)) H:=by
     refine⟨g.st.hh,g.st.gg.trans sG,fun b o q=>?_,fun b hb=>?_⟩
     · by_cases z:b=p
       · subst z;rw[yX] at q;rw[h2];exact q
       · rw[yI z] at q;exact g.st.sub b o q
     · rw[yI (fun z:b=p=>hb (by rw[z];exact h4))];exact g.st.new b hb
   have vals:Paired (RB K H0 (upd G p (.lst vs)) H) σ (ρ.set i (.fz (.lst ds))):=by
     have key:∀(l:List (Option V)) (r:List B) (n:Nat),Paired (RB K H0 G H) l r->(∀j es,n+j≠i->r[j]?=some (.ow es)->l[j]?≠some (some (.ref p)))->(∀j,n+j=i->l[j]?=some (some (.ref p))) ->
         Paired (RB K H0 (upd G p (.lst vs)) H) l (if i < n then r else r.set (i - n) (.fz (.lst ds))):=by
       intro l r n q
       induction q generalizing n with
       | nil=>intro _ _;split<;>exact .nil
       | @cons o b l' r' q t ih =>
         intro hne hat
         have tl:=ih (n+1) (fun j es z e=>by have:=hne (j+1) es (by omega) (by simpa using e);simpa using this) (fun j z=>by have:=hat (j+1) (by omega);simpa using this)
         have keepq:(∀es,b = .ow es->o≠some (.ref p))->RB K H0 (upd G p (.lst vs)) H o b:=fun hb=>by
           cases q with
           | no=>exact .no
           | fz r=>exact .fz (r.mono sG)
           | @ow c vs' ds' c1 c2 c3 c4 =>
             have:c≠p:=fun z=>hb _ rfl (by rw[z])
             exact .ow c1 (by rw[yI this];exact c2) c3 (c4.mono sG)
           | @od c _ _ _ _ c1 c2 c3 c4 c5 c6 =>
             have:c≠p:=fun z=>by rw[z,h2] at c1;cases c1
             exact .od c1 (by rw[yI this];exact c2) c3 (c4.mono sG) c5 c6
         by_cases h1:i < n
         · rw[Qb h1]
           rw[Qb (by omega)] at tl
           exact .cons (keepq fun es e z=>hne 0 es (by omega) (by simp[e]) (by simp[z])) tl
         · rw[Ws h1]
           by_cases h2:i=n
           · subst h2
             rw[Qb (by omega)] at tl
             have:=hat 0 (by omega)
             simp at this
             subst this
             rw[Iv]
             exact .cons (.fz (xH.mpr ⟨p,vs,rfl,.of yX,h5.mono sG⟩)) tl
           · rw[Ws (by omega)] at tl
             have e:i - n=(i - (n+1))+1:=by omega
             rw[e]
             exact .cons (keepq fun es e z=>hne 0 es (by omega) (by simp[e]) (by simp[z])) tl
     have v:=key σ ρ 0 g.vals (fun j es' z e' w=>by have:=g.apart j i p es' ds e' e w h1;omega) (fun j z=>by rw[show j=i by omega];exact h1)
     rw[Ws (Nat.not_lt_zero _),Nat.sub_zero] at v
     exact v
   refine⟨_,sG,st,vals,fun j k b d1 d2 e1 e2 e3 e4=>?_⟩
   obtain⟨_,f1⟩:=uK e1
   obtain⟨_,f2⟩:=uK e2
   exact g.apart j k b d1 d2 f1 f2 e3 e4
 · exact⟨G,Same.refl _,g⟩
theorem uS (i:Nat)(h:PFS X st f):PFS X st (kQ i f):=by
 refine PS.to h ?_
 rintro D σ H ⟨G0,H0,G,ρ,o,good,hf,k⟩
 obtain⟨G',s,g'⟩:=good.frz i
 exact⟨G0,H0,G',_,o,g',hf,k.mono s⟩
end
def hV (K:PySem.W.Frag)(J:It)(G:Hp)(ds:List D):Prop:=∀(i:Nat) (G2 H2:Hp),Same G G2->Same G2 H2 ->
 (∀d,ds[i]?=some d->J.go i H2/\∀x H3,J.yld i H2 x H3->∃G3,Step G2 H2 G3 H3/\Rep K G3 d x)/\(ds.length<=i->J.stop i H2)
def tFI (K:PySem.W.Frag)(f:Lf):TI:=fun σ H R=>∃G0 H0 G ρ ds,Good K G0 H0 G H σ ρ/\f ρ=some ds/\∀J H' G',Step G H G' H'->hV K J G' ds->R J H'
def PFI (X:Cx)(tg iter:Expr)(f:Lf):Prop:=PI X tg iter (tFI X.K f)
theorem PI.to {X:Cx}{tg e:Expr}{t:TI}{f:Lf}(h:PI X tg e t)(imp:∀σ H R,tFI X.K f σ H R->t σ H R):PFI X tg e f:=fun pins s σ H R I q=>h pins s σ H R I (imp σ H R q)
theorem aH {K:PySem.W.Frag}{G:Hp}{a:Addr}{vs:List V}{ds:List D}(h:SqL K G a vs)(r:Reps K G ds vs):hV K (Itl K a) G ds:=by
 intro i G2 H2 s1 s2
 have q:SqL K H2 a vs:=(s1.trans s2).seq h
 refine⟨fun d hd=>?_,fun hi=>⟨vs,q,by rw[←r.length];exact hi⟩⟩
 obtain⟨v,e,rv⟩:=r.get hd
 refine⟨⟨vs,v,q,e⟩,fun x H3 y=>?_⟩
 obtain⟨rfl,y⟩:=y
 have:=y vs q
 rw[e] at this;cases this
 exact⟨G2,.refl s2,rv.mono s1⟩
theorem zS0 {K:PySem.W.Frag}{G:Hp}{a:Addr}{vs:List V}{ds:List D}(h:SqT K G a vs)(r:Reps K G ds vs):hV K (Itt K a) G ds:=by
 intro i G2 H2 s1 s2
 have q:SqT K H2 a vs:=(s1.trans s2).tup h
 refine⟨fun d hd=>?_,fun hi=>⟨vs,q,by rw[←r.length];exact hi⟩⟩
 obtain⟨v,e,rv⟩:=r.get hd
 refine⟨⟨vs,v,q,e⟩,fun x H3 y=>?_⟩
 obtain⟨rfl,y⟩:=y
 have:=y vs q
 rw[e] at this;cases this
 exact⟨G2,.refl s2,rv.mono s1⟩
def tV (lo:Int)(n:Nat):List D:=(List.range n).map fun i=>D.int (lo+(i:Nat))
theorem bU {K:PySem.W.Frag}{G:Hp}{lo:Int}{n:Nat}:hV K (Itr lo n) G (tV lo n):=by
 intro i G2 H2 s1 s2
 have hl:(tV lo n).length=n:=by simp[tV]
 refine⟨fun d hd=>?_,fun hi=>by rw[hl] at hi;exact hi⟩
 have hi:i < n:=by rw[←hl];exact(Qm.mp hd).1
 refine⟨hi,fun x H3 y=>?_⟩
 obtain⟨rfl,rfl⟩:=y
 have e:d = .int (lo+i):=by
   unfold tV at hd
   rw[Wp,List.getElem?_range hi] at hd
   exact(Ep hd).symm
 subst e
 exact⟨G2,.refl s2,zG.mpr rfl⟩
section
variable {X:Cx} {a b c e tg elt iter:Expr} {es ifs:List Expr} {fa fb:Ef} {ga gi:Lf} {tc:Tf} {pos:Pos} {st:Stmt} {f g:Sf}
def iL (f:Ef):Lf:=fun ρ=>(f ρ).bind fun d=>match d with | .lst ds=>some ds | _=>none
def iT (f:Ef):Lf:=fun ρ=>(f ρ).bind fun d=>match d with | .tup ds=>some ds | _=>none
theorem zNx (h:PF X e fa):PFI X tg e (iL fa):=by
 refine PI.to (zRb h) ?_
 rintro σ H R ⟨G0,H0,G,ρ,ds,good,hf,k⟩
 unfold iL at hf
 obtain⟨d,h1,hf⟩:=Qq.mp hf
 cases d with
 | lst es =>
   cases hf
   refine⟨G0,H0,G,ρ,_,good,h1,fun x H1 G1 s1 r1=>?_⟩
   obtain⟨p,vs,rfl,q,rs⟩:=xH.mp r1
   exact⟨p,rfl,⟨vs,s1.sub.seq q⟩,k _ H1 G1 s1 (aH q rs)⟩
 | _=>cases hf
theorem zI3 (h:PFr X e ga):PFI X tg e ga:=by
 refine PI.to (zRb h) ?_
 rintro σ H R ⟨G0,H0,G,ρ,ds,good,hf,k⟩
 refine⟨G0,H0,G,ρ,_,good,hf,fun p vs H1 G1 s1 hn hp gp rs=>?_⟩
 exact⟨p,rfl,⟨vs,.of hp⟩,k _ H1 (upd G1 p (.lst vs)) (s1.frz hn hp gp) (aH (.of yX) (rs.mono (Same.new gp)))⟩
theorem zXe (h:PF X e fa):PFI X tg e (iT fa):=by
 refine PI.to (zKt h) ?_
 rintro σ H R ⟨G0,H0,G,ρ,ds,good,hf,k⟩
 unfold iT at hf
 obtain⟨d,h1,hf⟩:=Qq.mp hf
 cases d with
 | tup es =>
   cases hf
   refine⟨G0,H0,G,ρ,_,good,h1,fun x H1 G1 s1 r1=>?_⟩
   obtain⟨p,vs,rfl,q,rs⟩:=yF.mp r1
   exact⟨p,rfl,⟨vs,s1.sub.tup q⟩,k _ H1 G1 s1 (zS0 q rs)⟩
 | _=>cases hf
def iR (f:Ef):Lf:=fun ρ=>(f ρ).bind fun d=>match d with | .int n=>if decide (-1000000<=n)&&decide (n<=1000000) then some (tV 0 n.toNat) else none | _=>none
theorem zZU {p:Pos}(hg:Gl X "range")(hm:X.mg "range"=none)(h:PF X a fa)(hs:starEach [a] X.env=[(false,eval a X.env)]:=by rfl):PFI X tg (.Call (.Name "range" p) [a] [] pos) (iR fa):=by
 refine PI.to (zPg hg hm (yY h yK (by rw[hs];rfl)) hs) ?_
 rintro σ H R ⟨G0,H0,G,ρ,ds,good,hf,k⟩
 unfold iR at hf
 obtain⟨d,h1,hf⟩:=Qq.mp hf
 cases d with
 | int n =>
   dsimp only at hf
   split at hf
   · rename_i hc
     cases hf
     simp only[Qx,Wh] at hc
     refine⟨G0,H0,G,ρ,_,good,h1,fun x H1 G1 s1 r1=>⟨n,by rw[zG.mp r1],by omega,by omega,k _ H1 G1 s1 bU⟩⟩
   · cases hf
 | _=>cases hf
def iR2 (f g:Ef):Lf:=fun ρ=>(f ρ).bind fun x=>(g ρ).bind fun y=>match x,y with | .int m,.int n=>if decide (-1000000<=m)&&decide (m<=1000000)&&decide (-1000000<=n)&&decide (n<=1000000) then some (tV m (n - m).toNat) else none | _,_=>none
theorem zK9 {p:Pos}(hg:Gl X "range")(hm:X.mg "range"=none)(h:PF X a fa)(h':PF X b fb)(hs:starEach [a,b] X.env=[(false,eval a X.env),(false,eval b X.env)]:=by rfl)(hs2:starEach [b] X.env=[(false,eval b X.env)]:=by rfl):PFI X tg (.Call (.Name "range" p) [a,b] [] pos) (iR2 fa fb):=by
 refine PI.to (zQi hg hm (yY h (yY h' yK (by rw[hs2];rfl)) (by rw[hs,hs2])) hs hs2) ?_
 rintro σ H R ⟨G0,H0,G,ρ,ds,good,hf,k⟩
 unfold iR2 at hf
 obtain⟨d,h1,hf⟩:=Qq.mp hf
 obtain⟨d',h2,hf⟩:=Qq.mp hf
 cases d with
 | int m =>
   cases d' with
   | int n =>
     dsimp only at hf
     split at hf
     · rename_i hc
       cases hf
       simp only[Qx,Wh] at hc
       refine⟨G0,H0,G,ρ,_,good,h1,fun x H1 G1 s1 r1=>⟨G0,H0,G1,ρ,_,good.step s1,h2,fun y H2 G2 s2 r2=>⟨m,n,by rw[zG.mp r1,zG.mp r2],⟨by omega,by omega,by omega,by omega⟩,k _ H2 G2 (s1.trans s2) bU⟩⟩⟩
     · cases hf
   | _=>cases hf
 | _=>cases hf
def nH (g:Gf)(body:Sf):List D->Sf
 | [],ρ=>some (.nx ρ)
 | d::r,ρ=>(g d ρ).bind fun ρ1=>(body ρ1).bind fun o=>match o with
   | .nx ρ2=>nH g body r ρ2
   | .ct ρ2=>nH g body r ρ2
   | .bk ρ2=>some (.nx ρ2)
   | o=>some o
def qO (src:Lf)(g:Gf)(body:Sf):Sf:=fun ρ=>(src ρ).bind fun ds=>nH g body ds ρ
theorem sH {gt:Gf}{body:List Stmt}{fb:Sf}(hp:PassesOwn (model X.prog X.w) X.A X.env X.xe)(hc:X.calm=true)(hi:PFI X tg iter gi)(hg:PFG X tg gt)(hb:dX X body fb)(hs:∀x,foldedSetIterable iter X.env x=pure x:=by intro _;rfl) :
   PFS X (.For tg iter body [] pos) (qO gi gt fb):=by
 refine PS.to (zJM hp hc hi hg hb hs) ?_
 rintro D σ H ⟨G0,H0,G,ρ,o,good,hf,k⟩
 unfold qO at hf
 obtain⟨ds,h1,hf⟩:=Qq.mp hf
 refine⟨G0,H0,G,ρ,ds,good,h1,fun J H1 G1 s1 y=>?_⟩
 refine⟨fun i m σ H=>m=ds.length - i/\i<=ds.length/\∃G2 ρ2,Same G1 G2/\Good X.K G0 H0 G2 H σ ρ2/\nH gt fb (ds.drop i) ρ2=some o,⟨ds.length,by simp,Td _,G1,ρ,Same.refl _,good.step s1,by simpa using hf⟩,?_⟩
 rintro i m σ2 H2 ⟨rfl,hi',G2,ρ2,sg,good2,hf2⟩
 obtain⟨y1,y2⟩:=y i G2 H2 sg good2.sub
 by_cases hlt:i < ds.length
 · obtain⟨go,yl⟩:=y1 ds[i] (Qu hlt)
   rw[Oj hlt] at hf2
   unfold nH at hf2
   obtain⟨ρ3,e1,hf2⟩:=Qq.mp hf2
   obtain⟨o1,e2,hf2⟩:=Qq.mp hf2
   refine .inr ⟨go,fun σ' H'=>∃G' ρ',Same G1 G'/\Good X.K G0 H0 G' H' σ' ρ'/\nH gt fb (ds.drop (i+1)) ρ'=some o,fun σ' H' ⟨G',ρ',a1,a2,a3⟩=>⟨ds.length - (i+1),by omega,rfl,hlt,G',ρ',a1,a2,a3⟩,fun x H3 yx=>?_⟩
   obtain⟨G3,s3,r3⟩:=yl x H3 yx
   refine⟨G0,H0,G3,ρ2,_,ρ3,good2.step s3,r3,e1,fun σ4 H4 G4 s4 good4=>?_⟩
   have sg4:Same G1 G4:=(sg.trans s3.gg).trans s4.gg
   refine⟨G0,H0,G4,ρ3,o1,good4,e2,?_⟩
   cases o1 with
   | nx ρ5=>exact fun σ5 H5 G5 s5 good5=>⟨G5,ρ5,sg4.trans s5,good5,hf2⟩
   | ct ρ5=>exact fun σ5 H5 G5 s5 good5=>⟨G5,ρ5,sg4.trans s5,good5,hf2⟩
   | bk ρ5=>cases hf2;exact fun σ5 H5 G5 s5 good5=>k σ5 H5 G5 ((s1.gg.trans sg4).trans s5) good5
   | rt d=>cases hf2;exact k
   | rl d=>cases hf2;exact k
 · have e:i=ds.length:=by omega
   subst e
   rw[List.drop_length] at hf2
   cases hf2
   exact .inl ⟨y2 (Ql _),k σ2 H2 G2 (s1.gg.trans sg) good2⟩
def uF (g:Gf)(t:Tf)(elt:Ef):List D->List B->List D->Option (List D)
 | [],_,acc=>some acc
 | d::r,ρ,acc=>(g d ρ).bind fun ρ1=>(t ρ1).bind fun c=>if c=true then(elt ρ1).bind fun y=>uF g t elt r ρ1 (acc++[y]) else uF g t elt r ρ1 acc
def upB (m:Nat)(js:List Nat)(ρ:List B):List B:=List.replicate m .no++js.map fun j=>match ρ[j]? with | some (.fz d)=>.fz d | _=>.no
def yJ (src:Lf)(m:Nat)(js:List Nat)(g:Gf)(t:Tf)(elt:Ef):Lf:=fun ρ=>((src ρ).bind okL).bind fun ds=>uF g t elt ds (upB m js ρ) []
theorem Good.up {K:PySem.W.Frag}{G0 H0 G H:Hp}{σ:St}{ρ:List B}(g:Good K G0 H0 G H σ ρ)(m:Nat)(js:List Nat):Good K G H G H (upC m js σ) (upB m js ρ):=by
 refine⟨.refl g.sub,?_,fun i j a ds es h1=>?_⟩
 · unfold upC upB
   have rep:∀m:Nat,Paired (RB K H G H) (List.replicate m (none:Option V)) (List.replicate m B.no):=fun m=>by
     induction m with
     | zero=>exact .nil
     | succ n ih=>rw[Wf,Wf];exact .cons .no ih
   have app:∀ {l1 l2:List (Option V)} {r1 r2:List B},Paired (RB K H G H) l1 r1->Paired (RB K H G H) l2 r2->Paired (RB K H G H) (l1++l2) (r1++r2):=fun h1 h2=>by
     induction h1 with
     | nil=>exact h2
     | cons q t ih=>exact .cons q ih
   refine app (rep m) ?_
   induction js with
   | nil=>exact .nil
   | cons j r ih =>
     rw[Qp,Qp]
     refine .cons ?_ ih
     cases e:ρ[j]? with
     | none=>exact .no
     | some b =>
       obtain⟨o,e1,r1⟩:=Paired.get g.vals e
       cases r1 with
       | no=>exact .no
       | fz q=>rw[e1];exact .fz q
       | ow q1 q2 q3 q4=>exact .no
       | od q1 q2 q3 q4 q5 q6=>exact .no
 · unfold upB at h1
   by_cases hi:i < m
   · rw[Ej (by simpa using hi),Ri] at h1
     split at h1<;>cases h1
   · rw[Wc (by simpa using hi),Wp] at h1
     obtain⟨k,_,h1⟩:=Qt.mp h1
     split at h1<;>cases h1
theorem zNq (m:Nat)(js:List Nat)(ρ:List B):zXt (upB m js ρ):=by
 constructor
 all_goals
   intro i es h1
   unfold upB at h1
   by_cases hi:i < m
   · rw[Ej (by simpa using hi),Ri] at h1
     split at h1<;>cases h1
   · rw[Wc (by simpa using hi),Wp] at h1
     obtain⟨k,_,h1⟩:=Qt.mp h1
     split at h1<;>cases h1
theorem Good.wrX {K:PySem.W.Frag}{G0 H0 G H:Hp}{σ:St}{ρ:List B}{p:Addr}{o:HO}(g:Good K G0 H0 G H σ ρ)(n:zXt ρ)(gp:G p=none)(h0:H0 p=none):Good K G0 H0 G (upd H p o) σ ρ:=by
 refine⟨⟨fun b u e=>?_,g.st.gg,fun b u e=>?_,g.st.new⟩,?_,g.apart⟩
 · rw[yI (xR e h0)];exact g.st.hh b u e
 · rw[yI (xR e gp)];exact g.st.sub b u e
 · have key:∀(l:List (Option V)) (r:List B),Paired (RB K H0 G H) l r->zXt r->Paired (RB K H0 G (upd H p o)) l r:=by
     intro l r q
     induction q with
     | nil=>intro _;exact .nil
     | @cons x b l' r' q t ih =>
       intro n
       refine .cons ?_ (ih ⟨fun j es e=>n.1 (j+1) es (by simpa using e),fun j es e=>n.2 (j+1) es (by simpa using e)⟩)
       cases q with
       | no=>exact .no
       | fz r=>exact .fz r
       | ow _ _ _ _=>exact absurd rfl (n.1 0 _)
       | od _ _ _ _ _ _=>exact absurd rfl (n.2 0 _)
   exact key σ ρ g.vals n
theorem zTw {K:PySem.W.Frag}{m:Nat}{js:List Nat}{gt:Gf}{t:Tf}{el:Ef}(hgo:zP9 gt){σ:St}{H:Hp}{Q:VK}(h:tFr K (yJ gi m js gt t el) σ H Q):zMF (tFI K gi) m js (tFG K gt) (tFT K t) (tF K el) σ H Q:=by
 obtain⟨G0,H0,G,ρ,out,good,hf,k⟩:=h
 unfold yJ at hf
 obtain⟨ds,h1,hf⟩:=Qq.mp hf
 obtain⟨ds',h1,h1'⟩:=Qq.mp h1
 obtain⟨rfl,hlen⟩:=aO h1'
 refine⟨G0,H0,G,ρ,_,good,h1,fun J H1 G1 s1 y D hD=>?_⟩
 have good1:=(good.step s1).up m js
 have hGD:G1 D=none:=s1.sub.free hD
 refine⟨fun i n σ2 H2=>n=ds.length - i/\i<=ds.length/\∃G2 ρ2 acc us,Same G1 G2/\G2 D=none/\H2 D=some (.lst us)/\Reps K G2 acc us/\acc.length<=i/\zXt ρ2/\Good K G1 H1 G2 H2 σ2 ρ2/\uF gt t el (ds.drop i) ρ2 acc=some out,
   ⟨ds.length,by simp,Td _,G1,upB m js ρ,[],[],Same.refl _,hGD,yX,yV.mpr rfl,Ql _,zNq _ _ _,good1.step (Step.own s1.sub hD),by simpa using hf⟩,?_⟩
 rintro i n σ2 H2 ⟨rfl,hi,G2,ρ2,acc,us,sg,gD,hD2,rs,hal,now,good2,hf2⟩
 obtain⟨y1,y2⟩:=y i G2 H2 sg good2.sub
 by_cases hlt:i < ds.length
 · obtain⟨go,yl⟩:=y1 ds[i] (Qu hlt)
   rw[Oj hlt] at hf2
   unfold uF at hf2
   obtain⟨ρ3,e1,hf2⟩:=Qq.mp hf2
   obtain⟨c,e2,hf2⟩:=Qq.mp hf2
   have now3:=hgo _ _ _ e1 now
   refine .inr ⟨go,fun x H3 yx=>?_⟩
   obtain⟨G3,s3,r3⟩:=yl x H3 yx
   refine⟨G1,H1,G3,ρ2,_,ρ3,good2.step s3,r3,e1,fun σ4 H4 G4 s4 good4=>?_⟩
   refine⟨G1,H1,G4,ρ3,c,good4,e2,fun H5 G5 s5=>?_⟩
   have s35:=(s3.trans s4).trans s5
   have hne:H2 D≠none:=by rw[hD2];exact fun z=>nomatch z
   split at hf2
   · rename_i hc
     show if c=true then _ else _
     rw[Qb hc]
     obtain⟨yd,e3,hf2⟩:=Qq.mp hf2
     refine⟨G1,H1,G5,ρ3,yd,good4.step s5,e3,fun v H6 G6 s6 r6=>?_⟩
     have s36:=s35.trans s6
     have hD6:H6 D=some (.lst us):=s36.hh _ _ hD2
     have gD6:G6 D=none:=(s36.new D hne).trans gD
     refine⟨us,ds.length - (i+1),hD6,?_,by omega,rfl,hlt,G6,ρ3,acc++[yd],us++[v],sg.trans s36.gg,gD6,yX,(rs.mono s36.gg).snoc r6,by rw[Wq,Ei];omega,now3,((good4.step s5).step s6).wrX now3 gD6 hD,hf2⟩
     rw[←rs.length]
     exact vO (Ey hal (Ey hi hlen))
   · rename_i hc
     show if c=true then _ else _
     rw[Ws hc]
     exact⟨ds.length - (i+1),by omega,rfl,hlt,G5,ρ3,acc,us,sg.trans s35.gg,(s35.new D hne).trans gD,s35.hh _ _ hD2,rs.mono s35.gg,by omega,now3,good4.step s5,hf2⟩
 · have e:i=ds.length:=by omega
   subst e
   rw[List.drop_length] at hf2
   cases hf2
   exact .inl ⟨y2 (Ql _),k D us H2 G2 (s1.trans good2.st) (s1.hh.free hD) hD2 gD rs⟩
def tOK:Tf:=fun _=>some true
def zRm (X:Cx)(ifs:List Expr)(t:Tf):Prop:=zRG X ifs (tFT X.K t)
theorem yH {X:Cx}:zRm X [] tOK:=fun pins s σ H Q I h=>zNm pins s σ H Q I (by
 obtain⟨G0,H0,G,ρ,b,good,hf,k⟩:=h
 cases hf
 exact k H G (.refl good.sub))
theorem zPY {X:Cx}{c:Expr}{t:Tf}(h:PFT X c t):zRm X [c] t:=zNn h
theorem wE (sc:Scope)(N tgs frees:List Str)(js:List Nat){scope:Scope}{gt:Gf}{t:Tf}{el:Ef}(hgo:zP9 gt)(hp:PFI X tg iter gi)(hc:X.calm=true)(hsc:X.env.scope=sc)(hNN:X.N=N)(hok:jF sc scope N tgs frees js=true)
   (hg:∀C s₀ H₀ fp,PFG (uC X (tgs++frees) scope C s₀ H₀ fp) tg gt) (hi:∀C s₀ H₀ fp,zRm (uC X (tgs++frees) scope C s₀ H₀ fp) ifs t) (he:∀C s₀ H₀ fp,PF (uC X (tgs++frees) scope C s₀ H₀ fp) elt el)
   (hs:∀x,foldedSetIterable iter X.env x=pure x:=by intro _;rfl) :
   PFr X (.ListComp elt [⟨tg,iter,ifs,0⟩] scope pos) (yJ gi tgs.length js gt t el) :=
 PE.toR (zLj (g:=tFG X.K gt) (tc:=tFT X.K t) (te:=tF X.K el) sc tgs frees js hp hc hsc (by rw[hNN];exact hok) hg hi he hs) fun σ H Q h=>zTw hgo h
theorem tR (sc:Scope)(N tgs frees:List Str)(js:List Nat){scope:Scope}{gt:Gf}{t:Tf}{el:Ef}(hgo:zP9 gt)(i:Nat){x:Str}{pos' spos:Pos}(hN:X.N.Nodup)(hx:X.N[i]?=some x)(hl:X.env.scope.names.lookup x=some .local)(hp:PFI X tg iter gi)(hc:X.calm=true)(hsc:X.env.scope=sc)(hNN:X.N=N)(hok:jF sc scope N tgs frees js=true)
   (hg:∀C s₀ H₀ fp,PFG (uC X (tgs++frees) scope C s₀ H₀ fp) tg gt) (hi:∀C s₀ H₀ fp,zRm (uC X (tgs++frees) scope C s₀ H₀ fp) ifs t) (he:∀C s₀ H₀ fp,PF (uC X (tgs++frees) scope C s₀ H₀ fp) elt el)
   (hsw:swapsWith (.ListComp elt [⟨tg,iter,ifs,0⟩] scope pos) (some (.Name x pos')) spos.line X.env=pure true:=by with_unfolding_all rfl) (hs:∀x,foldedSetIterable iter X.env x=pure x:=by intro _;rfl) :
   PFS X (.Assign [.Name x pos'] (.ListComp elt [⟨tg,iter,ifs,0⟩] scope pos) spos) (uT i (yJ gi tgs.length js gt t el)) :=
 PS.to (zRC (g:=tFG X.K gt) (tc:=tFT X.K t) (te:=tF X.K el) sc tgs frees js hN hx hl hp hc hsc (by rw[hNN];exact hok) hg hi he hsw hs) fun D σ H h=>zUz (fun _ _ _ q=>zTw hgo q) h
end
section
variable {X:Cx} {a b c e:Expr} {fa fb:Ef} {pos:Pos} {f:Sf}
def iC (i:Nat)(f:Ef):Sf:=fun ρ=>(f ρ).bind fun d=>match ρ[i]? with | some (.ow ds)=>if ds.length < lim then some (.nx (ρ.set i (.ow (ds++[d])))) else none | _=>none
theorem mS (i:Nat)(ht:PE X c (tBM X.K "list" zQ0 (zLC i) (zY7 (tF X.K fa) zSb)))(hs:swapsWith c none pos.line X.env=pure false:=by rfl):PFS X (.Expr c pos) (iC i fa):=by
 refine PS.to (zMj ht hs) ?_
 rintro D σ H ⟨G0,H0,G,ρ,o,good,hf,k⟩
 unfold iC at hf
 obtain⟨d,h1,hf⟩:=Qq.mp hf
 split at hf
 · rename_i ds hi
   split at hf
   · rename_i hl
     cases hf
     obtain⟨p,vs,e1,e2,e3,e4,e5⟩:=good.addr hi
     refine⟨.ref p,e1,.inl ⟨rfl,vs,.of e2⟩,G0,H0,G,ρ,d,good,h1,fun v H1 G1 s1 r1=>?_⟩
     have good1:=good.step s1
     obtain⟨p',vs',f1,f2,f3,f4,f5⟩:=good1.addr hi
     rw[e1] at f1;cases f1
     exact⟨p,vs',v,rfl,rfl,f2,by rw[←f5.length];exact vO (Wx hl),k σ _ G1 s1.gg (good1.wr hi e1 (f5.snoc r1))⟩
   · cases hf
 · cases hf
def zOH (j i:Nat)(f:Ef):Sf:=fun ρ=>(f ρ).bind fun d=>match d,ρ[i]? with
 | .int n,some (.ow ds)=>if ds.length<=lim then(ixN ds.length n).bind fun q=>(ds[q]?).map fun x=>.nx ((ρ.set i (.ow (ds.eraseIdx q))).set j (.fz x)) else none
 | _,_=>none
theorem zKM (j i:Nat){y:Str}{p4:Pos}(hNd:X.N.Nodup)(ht:PE X c (tBM X.K "list" zNj (zLC i) (zY7 (tF X.K fa) zSb)))(hj:X.N[j]?=some y:=by rfl)(hjx:Loc X.env.scope y:=by first | exact .inl rfl | exact .inr rfl)
   (hs:swapsWith c (some (.Name y p4)) pos.line X.env=pure false:=by rfl) (hfn:X.fn y=true∨X.env.scope.names.lookup y=some .local:=by first | exact .inl rfl | exact .inr rfl) :
   PFS X (.Assign [.Name y p4] c pos) (zOH j i fa):=by
 refine PS.to (zU7 hNd hj hjx ht hs hfn) ?_
 rintro D σ H ⟨G0,H0,G,ρ,o,good,hf,k⟩
 unfold zOH at hf
 obtain⟨d,h1,hf⟩:=Qq.mp hf
 split at hf
 · rename_i n ds hi
   split at hf
   · rename_i hl
     obtain⟨q,hq,hf⟩:=Qq.mp hf
     obtain⟨x',hx,rfl⟩:=Qt.mp hf
     obtain⟨p,vs,e1,e2,e3,e4,e5⟩:=good.addr hi
     refine⟨.ref p,e1,.inl ⟨rfl,vs,.of e2⟩,G0,H0,G,ρ,_,good,h1,fun v H1 G1 s1 r1=>?_⟩
     have good1:=good.step s1
     obtain⟨p',vs',f1,f2,f3,f4,f5⟩:=good1.addr hi
     rw[e1] at f1;cases f1
     obtain⟨w,hw,rw'⟩:=f5.get hx
     have hlen:=f5.length
     rw[hlen] at hq
     obtain⟨q1,q2,q3,q4⟩:=zVk hq
     have hb:vs'.length < 2^40:=by rw[←hlen];exact Nat.lt_of_le_of_lt hl (by decide)
     refine⟨p,vs',n,q,w,rfl,by rw[zG.mp r1],f2,by omega,by omega,q1,hw,?_⟩
     exact k _ _ G1 s1.gg ((good1.wr hi e1 (f5.erase q)).setF j rw')
   · cases hf
 · cases hf
def eZ (i:Nat)(fi fv:Ef):Sf:=fun ρ=>(fv ρ).bind fun d=>(fi ρ).bind fun n=>match n,ρ[i]? with
 | .int n,some (.ow ds)=>if ds.length<=lim then(ixN ds.length n).map fun q=>.nx (ρ.set i (.ow (ds.set q d))) else none
 | _,_=>none
theorem zYE (i:Nat){x:Str}{p1 p2:Pos}(he:PF X e fa)(hb:PF X b fb)(hN:X.N[i]?=some x:=by rfl)(hv:Vis X.env.scope x:=by first | exact Or.inl rfl | exact Or.inr (Or.inl rfl) | exact Or.inr (Or.inr rfl))(hd:(x==("__debug__":Str))=false:=by decide)(hcd:(x==("__classdict__":Str))=false:=by decide)
   (ha:∀v,assign (.Subscript (.Name x p1) b p2) X.env v=(do
     let ov ←holding [v] (eval (.Name x p1) X.env)
     let iv ←holding [v,ov] (eval b X.env)
     standAt p2
     holding [v,ov,iv] (setItem ov iv v)
     release [v,ov,iv] []):=by intro _;rfl)
   (hs:swapsWithSole [.Subscript (.Name x p1) b p2] e pos.line X.env=pure false:=by rfl) (hw:swappedStores [.Subscript (.Name x p1) b p2] e X.env=pure none:=by rfl)
   (h1:(assignEach [.Subscript (.Name x p1) b p2] X.env).map (·.2)=[assign (.Subscript (.Name x p1) b p2) X.env]:=by rfl):PFS X (.Assign [.Subscript (.Name x p1) b p2] e pos) (eZ i fb fa):=by
 refine PS.to (zSd he (zNi (lL hN hv hd hcd) hb zOu ha) hs hw h1) ?_
 rintro D σ H ⟨G0,H0,G,ρ,o,good,hf,k⟩
 unfold eZ at hf
 obtain⟨d,h1,hf⟩:=Qq.mp hf
 obtain⟨n,h2,hf⟩:=Qq.mp hf
 split at hf
 · rename_i n ds hi
   split at hf
   · rename_i hl
     obtain⟨q,hq,rfl⟩:=Qt.mp hf
     refine⟨G0,H0,G,ρ,d,good,h1,fun v H1 G1 s1 r1=>?_⟩
     have good1:=good.step s1
     obtain⟨p,vs,e1,e2,e3,e4,e5⟩:=good1.addr hi
     refine⟨.ref p,e1,G0,H0,G1,ρ,_,good1,h2,fun u H2 G2 s2 r2=>?_⟩
     have good2:=good1.step s2
     obtain⟨p',vs',f1,f2,f3,f4,f5⟩:=good2.addr hi
     rw[e1] at f1;cases f1
     refine⟨p,vs',n,q,rfl,zG.mp r2,f2,by rw[←f5.length];exact hq,?_⟩
     exact k _ _ G2 (s1.gg.trans s2.gg) (good2.wr hi e1 (f5.set q (r1.mono s2.gg)))
   · cases hf
 · cases hf
def zSk:D->Option D
 | .tup ds=>some (.int ds.length)
 | .lst ds=>some (.int ds.length)
 | .str z=>if z.length<=lim then some (.int z.length) else none
 | _=>none
def xB (f:Ef):Ef:=fun ρ=>(f ρ).bind zSk
theorem vU {p:Pos}(hg:Gl X "len")(hm:X.mg "len"=none)(h:PF X a fa)(hs:starEach [a] X.env=[(false,eval a X.env)]:=by rfl):PF X (.Call (.Name "len" p) [a] [] pos) (xB fa):=by
 refine PE.to (qV (bQ.or zVJ) hg hm PySem.boot_len (yY h yK (by rw[hs];rfl)) (by decide) (by decide) (by rw[hs];rfl) (by rfl)) ?_
 rintro σ H Q ⟨G0,H0,G,ρ,d,good,hf,k⟩
 unfold xB at hf
 obtain⟨x,h1,hf⟩:=Qq.mp hf
 refine⟨G0,H0,G,ρ,_,good,h1,fun v H1 G1 s1 r1=>?_⟩
 unfold zSk at hf
 split at hf
 · cases hf
   obtain⟨p,vs,rfl,q,rs⟩:=yF.mp r1
   exact .inl ⟨p,vs,rfl,.inr (s1.sub.tup q),k _ _ G1 s1 (zG.mpr (by rw[rs.length]))⟩
 · cases hf
   obtain⟨p,vs,rfl,q,rs⟩:=xH.mp r1
   exact .inl ⟨p,vs,rfl,.inl (s1.sub.seq q),k _ _ G1 s1 (zG.mpr (by rw[rs.length]))⟩
 · split at hf
   · rename_i hz
     cases hf
     exact .inr ⟨_,by rw[yM.mp r1],Wx (vO hz),k _ _ G1 s1 (zG.mpr rfl)⟩
   · cases hf
 · cases hf
def gP (i:Nat):Ef:=fun ρ=>match ρ[i]? with | some (.ow ds)=>some (.int ds.length) | _=>none
theorem zUN (i:Nat){x:Str}{p p1:Pos}(hg:Gl X "len")(hm:X.mg "len"=none)(hN:X.N[i]?=some x:=by rfl)(hv:Vis X.env.scope x:=by first | exact Or.inl rfl | exact Or.inr (Or.inl rfl) | exact Or.inr (Or.inr rfl))(hd:(x==("__debug__":Str))=false:=by decide)(hcd:(x==("__classdict__":Str))=false:=by decide):PF X (.Call (.Name "len" p) [.Name x p1] [] pos) (gP i):=by
 refine PE.to (qV bQ hg hm PySem.boot_len (yY (lL hN hv hd hcd) yK)) ?_
 rintro σ H Q ⟨G0,H0,G,ρ,d,good,hf,k⟩
 unfold gP at hf
 split at hf
 · rename_i ds hi
   cases hf
   obtain⟨q,vs,e1,e2,e3,e4,e5⟩:=good.addr hi
   exact⟨.ref q,e1,q,vs,rfl,.inl (.of e2),k _ _ G (.refl good.sub) (zG.mpr (by rw[e5.length]))⟩
 · cases hf
def zSJ:D->Option D | .lst ds=>some (.tup ds) | .tup ds=>some (.tup ds) | _=>none
def wX (f:Ef):Ef:=fun ρ=>(f ρ).bind zSJ
theorem wH {p:Pos}(hg:Gl X "tuple")(hm:X.mg "tuple"=none)(h:PF X a fa)(hs:starEach [a] X.env=[(false,eval a X.env)]:=by rfl):PF X (.Call (.Name "tuple" p) [a] [] pos) (wX fa):=by
 refine PE.to (qC zWU hg hm (by rfl) (yY h yK (by rw[hs];rfl)) (by decide) (by decide) (by rw[hs];rfl) (by rfl)) ?_
 rintro σ H Q ⟨G0,H0,G,ρ,d,good,hf,k⟩
 unfold wX at hf
 obtain⟨x,h1,hf⟩:=Qq.mp hf
 refine⟨G0,H0,G,ρ,_,good,h1,fun v H1 G1 s1 r1=>?_⟩
 unfold zSJ at hf
 split at hf
 · cases hf
   obtain⟨p,vs,rfl,q,rs⟩:=xH.mp r1
   refine⟨p,vs,rfl,.inl ⟨s1.sub.seq q,fun l hl=>?_⟩⟩
   have s2:=Step.laid (o:=.tup vs) s1.sub hl
   exact k _ _ _ (s1.trans s2) (yF.mpr ⟨l,vs,rfl,.of yX,rs.mono s2.gg⟩)
 · cases hf
   obtain⟨p,vs,rfl,q,rs⟩:=yF.mp r1
   exact⟨p,vs,rfl,.inr ⟨s1.sub.tup q,k _ _ G1 s1 r1⟩⟩
 · cases hf
def zOx:D->Option (List D) | .lst ds=>some ds | .tup ds=>some ds | _=>none
def zYP (f:Ef):Lf:=fun ρ=>(f ρ).bind zOx
theorem zW0 {p:Pos}(hg:Gl X "list")(hm:X.mg "list"=none)(h:PF X a fa)(hs:starEach [a] X.env=[(false,eval a X.env)]:=by rfl):PFr X (.Call (.Name "list" p) [a] [] pos) (zYP fa):=by
 refine PE.toR (qC zUP hg hm (by rfl) (yY h yK (by rw[hs];rfl)) (by decide) (by decide) (by rw[hs];rfl) (by rfl)) ?_
 rintro σ H Q ⟨G0,H0,G,ρ,d,good,hf,k⟩
 unfold zYP at hf
 obtain⟨x,h1,hf⟩:=Qq.mp hf
 refine⟨G0,H0,G,ρ,_,good,h1,fun v H1 G1 s1 r1=>?_⟩
 unfold zOx at hf
 split at hf
 · cases hf
   obtain⟨p,vs,rfl,q,rs⟩:=xH.mp r1
   exact⟨p,vs,rfl,.inl (s1.sub.seq q),fun l hl=>k l vs _ G1 (s1.trans (Step.own s1.sub hl)) (s1.hh.free hl) yX (s1.sub.free hl) rs⟩
 · cases hf
   obtain⟨p,vs,rfl,q,rs⟩:=yF.mp r1
   exact⟨p,vs,rfl,.inr (s1.sub.tup q),fun l hl=>k l vs _ G1 (s1.trans (Step.own s1.sub hl)) (s1.hh.free hl) yX (s1.sub.free hl) rs⟩
 · cases hf
theorem zT0:CallR X (.type "range") (fun xs H Q=>∃j,xs=[.int j]/\∀p,H p=none->Q (.ref p) (upd H p (.rng 0 j))):=by
 intro pins s σ H xs us Q I r h
 obtain⟨j,rfl,q⟩:=h
 obtain⟨u,rfl,ru⟩:=qJ r
 obtain⟨t,rfl⟩:=ru
 refine call_range_1 ⟨.ref s.heap.objs.size,_,I.laid (o:=.rng 0 j) (fun b o e=>Qr _ e) (Ql _) ?_,rfl,q _ I.fresh⟩
 exact⟨_,_,_,Qk _ rfl⟩
theorem zX3 (hc:X.calm=true):CallR X (.type "list") (fun xs H Q=>∃p j,xs=[.ref p]/\H p=some (.rng 0 j) /\ -1000000<=j/\j<=100000/\∀l,H l=none->Q (.ref l) (upd H l (.lst ((List.range j.toNat).map fun(i:Nat)=>V.int (0+(i:Nat)))))):=by
 intro pins s σ H xs us Q I r h
 obtain⟨p,j,rfl,hp,h1,h2,q⟩:=h
 obtain⟨u,rfl,ru⟩:=qJ r
 cases ru
 obtain⟨t,u',v,e⟩:=(show ObjOk X.prog X.w H s.heap p (.rng 0 j) from I.hok p _ hp)
 have hsz:Builtin.Range.rangeSize 0 j 1=(j.toNat:Nat):=by rw[rangeSize_one];split<;>omega
 refine call_list_range (n:=j.toNat) (I.ok.hd hc) (show IsRange s.heap p 0 j 1 t u' v from e) (small_one (by omega) (by omega) (by omega) (by omega)) hsz (by omega) fun h' tk acc' c' hk hS hit=>?_
 have hvals:Vals ((List.range j.toNat).map fun(i:Nat)=>V.int (0+(i:Nat))) acc'.toList:=by
   have hl:acc'.toList.length=j.toNat:=by simpa using hit.1
   have gen:∀(l:List Value) (k:Nat),(∀i v,l[i]?=some v->∃t,v=Value.int (0+((k+i:Nat):Int)) t)->Vals ((List.range' k l.length).map fun(i:Nat)=>V.int (0+(i:Nat))) l:=by
     intro l
     induction l with
     | nil=>intro k _;exact .nil
     | cons y r ih =>
       intro k hh
       rw[Qo,List.range'_succ,Qp]
       refine .cons ?_ (ih (k+1) fun i v e=>?_)
       · obtain⟨t,e⟩:=hh 0 y rfl
         exact⟨t,by simpa using e⟩
       · obtain⟨t,e'⟩:=hh (i+1) v (by simpa using e)
         exact⟨t,by rw[e',show k+(i+1)=k+1+i by omega]⟩
   have:=gen acc'.toList 0 fun i v e=>by
     obtain⟨t,e'⟩:=hit.2 i v (by simpa using e)
     exact⟨t,by rw[e'];simp⟩
   rw[hl,←List.range_eq_range'] at this
   exact this
 refine⟨.ref s.heap.objs.size,_,I.laid (t':=tk) (o:=.lst _) hk (Ql _) ?_,rfl,q _ I.fresh⟩
 exact⟨by rw[Qy,List.length_range];exact Wx (vO (by show j.toNat<=100000;omega)),acc'.toList,c',hvals,by simpa using hS⟩
def zS9 (f:Ef):Lf:=fun ρ=>(f ρ).bind fun d=>match d with | .int n=>if decide (-1000000<=n)&&decide (n<=100000) then some (tV 0 n.toNat) else none | _=>none
theorem zPD {K:PySem.W.Frag}{G:Hp}(n:Nat):Reps K G (tV 0 n) ((List.range n).map fun(i:Nat)=>V.int (0+(i:Nat))):=by
 unfold tV
 induction (List.range n) with
 | nil=>exact yV.mpr rfl
 | cons x r ih=>exact zE.mpr ⟨_,_,rfl,zG.mpr rfl,ih⟩
theorem zN6 {p p1 p2:Pos}(hc:X.calm=true)(hg:Gl X "list")(hm:X.mg "list"=none)(hg':Gl X "range")(hm':X.mg "range"=none)(h:PF X a fa)(hs:starEach [a] X.env=[(false,eval a X.env)]:=by rfl)
   (hs2:starEach [.Call (.Name "range" p1) [a] [] p2] X.env=[(false,eval (.Call (.Name "range" p1) [a] [] p2) X.env)]:=by rfl) :
   PFr X (.Call (.Name "list" p) [.Call (.Name "range" p1) [a] [] p2] [] pos) (zS9 fa):=by
 refine PE.toR (qC (zX3 hc) hg hm (by rfl) (yY (qC zT0 hg' hm' (by rfl) (yY h yK (by rw[hs];rfl)) (by decide) (by decide) (by rw[hs];rfl) (by rfl)) yK (by rw[hs2];rfl)) (by decide) (by decide) (by rw[hs2];rfl) (by rfl)) ?_
 rintro σ H Q ⟨G0,H0,G,ρ,ds,good,hf,k⟩
 unfold zS9 at hf
 obtain⟨d,h1,hf⟩:=Qq.mp hf
 cases d with
 | int n =>
   dsimp only at hf
   split at hf
   · rename_i hc
     cases hf
     simp only[Qx,Wh] at hc
     refine⟨G0,H0,G,ρ,_,good,h1,fun x H1 G1 s1 r1=>⟨n,by rw[zG.mp r1],fun p hp=>⟨p,n,rfl,yX,hc.1,hc.2,fun l hl=>?_⟩⟩⟩
     have s2:Step G1 H1 G1 (upd H1 p (.rng 0 n)):=Step.own s1.sub hp
     have s3:=Step.own (o:=.lst ((List.range n.toNat).map fun(i:Nat)=>V.int (0+(i:Nat)))) s2.sub hl
     exact k l _ _ G1 ((s1.trans s2).trans s3) ((s1.trans s2).hh.free hl) yX (s2.sub.free hl) (zPD _)
   · cases hf
 | _=>cases hf
end
def spF (K:PySem.W.Frag)(n:Nat)(f:List D->Option D):Sp:=fun vs H Q _=>∃G ds d,Same G H/\Reps K G ds vs/\ds.length=n/\f ds=some d/\∀v H' G',Step G H G' H'->Rep K G' d v->Q v H'
def spL (K:PySem.W.Frag)(n:Nat)(f:List D->Option (List D)):Sp:=fun vs H Q _=>∃G ds es,Same G H/\Reps K G ds vs/\ds.length=n/\f ds=some es/\∀a us H' G',Step G H G' H'->H a=none->H' a=some (.lst us)->G' a=none->Reps K G' es us->Q (.ref a) H'
def nD (N:Nat)(ds:List D):List B:=ds.map .fz++List.replicate (N - ds.length) .no
def xV:Out->Option D
 | .nx _=>some .non
 | .rt d=>some d
 | .rl ds=>some (.lst ds)
 | _=>none
def zR4:Out->Option (List D)
 | .rl ds=>some ds
 | _=>none
def fnF (N:Nat)(body:Sf)(ds:List D):Option D:=(body (nD N ds)).bind xV
def fnL (N:Nat)(body:Sf)(ds:List D):Option (List D):=(body (nD N ds)).bind zR4
theorem cG {K:PySem.W.Frag}{G H:Hp}{N:List Str}{ds:List D}{vs:List V}(s:Same G H)(r:Reps K G ds vs):Good K G H G H (iM N vs) (nD N.length ds):=by
 refine⟨.refl s,?_,fun i j a es es' h1=>?_⟩
 · unfold iM nD
   rw[r.length]
   have rep:∀m:Nat,Paired (RB K H G H) (List.replicate m (none:Option V)) (List.replicate m B.no):=fun m=>by
     induction m with
     | zero=>exact .nil
     | succ n ih=>rw[Wf,Wf];exact .cons .no ih
   have key:∀(ds:List D) (vs:List V) (l:List (Option V)) (q:List B),Reps K G ds vs->Paired (RB K H G H) l q->Paired (RB K H G H) (vs.map some++l) (ds.map .fz++q):=by
     intro ds
     induction ds with
     | nil=>intro vs l q h p;rw[yV] at h;subst h;exact p
     | cons d r ih =>
       intro vs l q h p
       obtain⟨v,vr,rfl,h1,h2⟩:=zE.mp h
       exact .cons (.fz h1) (ih vr l q h2 p)
   exact key ds vs _ _ r (rep _)
 · unfold nD at h1
   by_cases hi:i < ds.length
   · rw[Ej (by simpa using hi),Wp] at h1
     obtain⟨k,_,h1⟩:=Qt.mp h1
     cases h1
   · rw[Wc (by simpa using hi),Ri] at h1
     split at h1<;>cases h1
section
variable {P:Program} {w:World} {K:PySem.W.Frag} {mg:Str->Option Value} {base:Heap} {x qual:Str} {st:Stmt} {f:Addr} {fd:FuncData} {N ps:List Str} {k:Nat}
theorem xG {body:Sf}(F:Fun K x qual st f fd)(S:FnScope N ps (zS st))
   (hb:∀(cdv:Value) (A:Around) (outer:List Env) (s:Shared) (H:Hp) (E:XK),Room k (A.deeper (envOfC qual (zS st) s.heap.objs.size f cdv))->dX (zXs CX0 P w K mg base N qual (zS st) f cdv A outer s H E).nox (wJ st) body) :
   FnOk P w K mg base CX0 (k+1) f fd ps (spF K ps.length (fnF N.length body)):=by
 refine F.ok S (fun vs H Q E h=>?_) (fun cdv A outer s H vs Q E hr h=>⟨_,hb cdv A outer s H E hr,?_⟩)
 · obtain⟨G,ds,d,sub,rs,hl,_⟩:=h
   rw[←rs.length];exact hl
 · obtain⟨G,ds,d,sub,rs,hl,hf,k⟩:=h
   unfold fnF at hf
   obtain⟨o,h1,h2⟩:=Qq.mp hf
   refine⟨G,H,G,_,o,cG sub rs,h1,?_⟩
   cases o with
   | nx ρ=>cases h2;exact fun σ' H' G' s' g'=>k .non H' G' g'.st (uO.mpr rfl)
   | rt e=>cases h2;exact fun v H' G' s' r=>k v H' G' s' r
   | rl es=>cases h2;exact fun p us H' G' s' hn hp gp r=>k _ H' (upd G' p (.lst us)) (s'.frz hn hp gp) (xH.mpr ⟨p,us,rfl,.of yX,r.mono (Same.new gp)⟩)
   | bk ρ=>cases h2
   | ct ρ=>cases h2
theorem zZO {body:Sf}(F:Fun K x qual st f fd)(S:FnScope N ps (zS st))
   (hb:∀(cdv:Value) (A:Around) (outer:List Env) (s:Shared) (H:Hp) (E:XK),Room k (A.deeper (envOfC qual (zS st) s.heap.objs.size f cdv))->dX (zXs CX0 P w K mg base N qual (zS st) f cdv A outer s H E).nox (wJ st) body) :
   FnOk P w K mg base CX0 (k+1) f fd ps (spL K ps.length (fnL N.length body)):=by
 refine F.ok S (fun vs H Q E h=>?_) (fun cdv A outer s H vs Q E hr h=>⟨_,hb cdv A outer s H E hr,?_⟩)
 · obtain⟨G,ds,d,sub,rs,hl,_⟩:=h
   rw[←rs.length];exact hl
 · obtain⟨G,ds,d,sub,rs,hl,hf,k⟩:=h
   unfold fnL at hf
   obtain⟨o,h1,h2⟩:=Qq.mp hf
   refine⟨G,H,G,_,o,cG sub rs,h1,?_⟩
   cases o with
   | rl es=>cases h2;exact fun p us H' G' s' hn hp gp r=>k p us H' G' s' hn hp gp r
   | _=>cases h2
theorem zNJ {CX:CXT}{n:Nat}:FnOk P w K mg base CX k f fd ps (spF K n fun _=>none) :=
 ⟨fun vs H Q E h=>(by obtain⟨_,_,_,_,_,_,z,_⟩:=h;exact nomatch z),fun A outer s H args us vs Q E _ _ _ _ h=>(by obtain⟨_,_,_,_,_,_,z,_⟩:=h;exact nomatch z)⟩
end
section
variable {X:Cx} {a b c e:Expr} {es:List Expr} {fa fb:Ef} {ga:Lf} {tc:Tf} {pos p:Pos} {f g:Sf}
def zO (n:Nat)(f:List D->Option D)(g:Lf):Ef:=fun ρ=>(g ρ).bind fun ds=>if ds.length=n then f ds else none
theorem zVH {k n:Nat}{fad:Addr}{fd:FuncData}{ps:List Str}{x:Str}{fD:List D->Option D}(F:FnOk X.prog X.w X.K X.mg X.base CX0 k fad fd ps (spF X.K n fD))(hr:Room k X.A)(hm:X.mg x=some (.ref fad))(hk:PySem.W.keepIn X.K (.ref fad)=true)(hb:Binds X.K fd ps [])(hg:Gl X x)
   (ha:PFA X (e::es) ga) (hdb:(x==("__debug__":Str))=false:=by decide) (he:starEach (e::es) X.env=(false,eval e X.env)::starEach es X.env:=by rfl) (hpl:(backTo pos (starEach es X.env)).any (·.1)=false:=by rfl) :
   PF X (.Call (.Name x p) (e::es) [] pos) (zO n fD ga):=by
 refine PE.to (zUS (E:=E0) F hr hg hm hk hb .nil zQQ ha hdb he hpl) ?_
 rintro σ H Q ⟨G0,H0,G,ρ,d,good,hf,k⟩
 unfold zO at hf
 obtain⟨ds,h1,hf⟩:=Qq.mp hf
 split at hf
 · rename_i hl
   refine⟨G0,H0,G,ρ,_,good,h1,fun vs H1 G1 s1 r1=>?_⟩
   show spF X.K n fD (vs++[]) H1 Q E0
   rw[Er]
   exact⟨G1,ds,d,s1.sub,r1,hl,hf,fun v H' G' s r=>k v H' G' (s1.trans s) r⟩
 · cases hf
def sV (n:Nat)(f:List D->Option (List D))(g:Lf):Lf:=fun ρ=>(g ρ).bind fun ds=>if ds.length=n then f ds else none
theorem zKE {k n:Nat}{fad:Addr}{fd:FuncData}{ps:List Str}{x:Str}{fD:List D->Option (List D)}(F:FnOk X.prog X.w X.K X.mg X.base CX0 k fad fd ps (spL X.K n fD))(hr:Room k X.A)(hm:X.mg x=some (.ref fad))(hk:PySem.W.keepIn X.K (.ref fad)=true)(hb:Binds X.K fd ps [])(hg:Gl X x)
   (ha:PFA X (e::es) ga) (hdb:(x==("__debug__":Str))=false:=by decide) (he:starEach (e::es) X.env=(false,eval e X.env)::starEach es X.env:=by rfl) (hpl:(backTo pos (starEach es X.env)).any (·.1)=false:=by rfl) :
   PFr X (.Call (.Name x p) (e::es) [] pos) (sV n fD ga):=by
 refine PE.toR (zUS (E:=E0) F hr hg hm hk hb .nil zQQ ha hdb he hpl) ?_
 rintro σ H Q ⟨G0,H0,G,ρ,d,good,hf,k⟩
 unfold sV at hf
 obtain⟨ds,h1,hf⟩:=Qq.mp hf
 split at hf
 · rename_i hl
   refine⟨G0,H0,G,ρ,_,good,h1,fun vs H1 G1 s1 r1=>?_⟩
   show spL X.K n fD (vs++[]) H1 Q E0
   rw[Er]
   exact⟨G1,ds,d,s1.sub,r1,hl,hf,fun p us H' G' s hn hp gp r=>k p us H' G' (s1.trans s) (s1.hh.free hn) hp gp r⟩
 · cases hf
def rG (t:Tf)(body:Sf):Nat->Sf
 | 0,_=>none
 | n+1,ρ=>(t ρ).bind fun c=>if c=true then(body ρ).bind fun o=>match o with
     | .nx ρ2=>rG t body n ρ2
     | .ct ρ2=>rG t body n ρ2
     | .bk ρ2=>some (.nx ρ2)
     | o=>some o
   else some (.nx ρ)
theorem zVT (n:Nat){body:List Stmt}{fb:Sf}(hp:PassesOwn (model X.prog X.w) X.A X.env X.xe)(hc:PFT X c tc)(hb:dX X body fb):PFS X (.While c body [] pos) (rG tc fb n):=by
 refine PS.to (zNo hp hc hb) ?_
 rintro D σ H ⟨G0,H0,G,ρ,o,good,hf,k⟩
 refine⟨fun m σ H=>∃G2 ρ2,Same G G2/\Good X.K G0 H0 G2 H σ ρ2/\rG tc fb m ρ2=some o,⟨n,G,ρ,Same.refl _,good,hf⟩,?_⟩
 rintro m σ2 H2 ⟨G2,ρ2,sg,good2,hf2⟩
 cases m with
 | zero=>cases hf2
 | succ m =>
   unfold rG at hf2
   obtain⟨c',h1,hf2⟩:=Qq.mp hf2
   refine⟨G0,H0,G2,ρ2,c',good2,h1,fun H3 G3 s3=>?_⟩
   cases c' with
   | true =>
     rw[Qb rfl] at hf2
     obtain⟨o1,e2,hf2⟩:=Qq.mp hf2
     refine⟨fun σ' H'=>∃G2 ρ2,Same G G2/\Good X.K G0 H0 G2 H' σ' ρ2/\rG tc fb m ρ2=some o,fun σ' H' h=>⟨m,Im _,h⟩,?_⟩
     refine⟨G0,H0,G3,ρ2,o1,good2.step s3,e2,?_⟩
     have sg3:Same G G3:=sg.trans s3.gg
     cases o1 with
     | nx ρ5=>exact fun σ5 H5 G5 s5 good5=>⟨G5,ρ5,sg3.trans s5,good5,hf2⟩
     | ct ρ5=>exact fun σ5 H5 G5 s5 good5=>⟨G5,ρ5,sg3.trans s5,good5,hf2⟩
     | bk ρ5=>cases hf2;exact fun σ5 H5 G5 s5 good5=>k σ5 H5 G5 (sg3.trans s5) good5
     | rt d=>cases hf2;exact k
     | rl d=>cases hf2;exact k
   | false =>
     rw[Ws (by decide)] at hf2
     cases hf2
     exact k σ2 H3 G3 (sg.trans s3.gg) (good2.step s3)
def tyD:D->Option String
 | .non=>some "NoneType"
 | .bl _=>some "bool"
 | .int _=>some "int"
 | .str _=>some "str"
 | .tup _=>some "tuple"
 | .lst _=>some "list"
 | _=>none
theorem zIG {pins:List (Addr×Obj)}{σ:St}{H G:Hp}{s:Shared}{A:Around}{E:Value->Shared->Prop}{Q:Value->Shared->Prop}{d:D}{v:V}{u cl:Value}{t:String}{k:Bool}(I:Inv X pins σ H s)(rv:RelV v u)(sub:Same G H)(r:Rep X.K G d v)(ht:tyD d=some t)
   (e:PySem.W.kitOne X.K (.type t) cl=some k) (h:∀tk,Q (.bool k) { s with toks:=tk }):wpAny (model X.prog X.w) A (call (.builtin "isinstance") [u,cl]) Q E s:=by
 cases d with
 | non=>cases ht;rw[uO] at r;subst r;cases rv;exact Tk PySem.W.kitx_none I.kIn True.intro e (fun z=>nomatch z) h
 | bl y=>cases ht;rw[w6] at r;subst r;cases rv;exact Tk PySem.W.kitx_bool I.kIn True.intro e (fun z=>nomatch z) h
 | int i=>cases ht;rw[zG] at r;subst r;obtain⟨t,rfl⟩:=rv;exact Tk PySem.W.kitx_int I.kIn True.intro e (fun z=>nomatch z) h
 | str i=>cases ht;rw[yM] at r;subst r;obtain⟨t,rfl⟩:=rv;exact Tk PySem.W.kitx_str I.kIn True.intro e (fun z=>nomatch z) h
 | tup ds =>
   cases ht
   obtain⟨p,vs,rfl,q,_⟩:=yF.mp r
   cases rv
   obtain⟨its,_,⟨o,h1,h2,_⟩,_⟩:=I.tuple (sub.tup q)
   exact Tk PySem.W.kitx_tuple I.kIn ⟨o,h1,h2⟩ e (fun z=>nomatch z) h
 | lst ds =>
   cases ht
   obtain⟨p,vs,rfl,q,_⟩:=xH.mp r
   cases rv
   obtain⟨its,_,⟨o,n,h1,h2,_⟩,_⟩:=I.list (sub.seq q)
   exact Tk PySem.W.kitx_list I.kIn ⟨o,h1,h2⟩ e (fun z=>nomatch z) h
 | obj C ns ds=>cases ht
 | exc C ns ds=>cases ht
theorem zL7 (K:PySem.W.Frag):∀t:String,t∈["NoneType","bool","int","str","tuple","list"]->PySem.W.kitOne K (.type t) (.type "int")=some (decide (t="bool"∨t="int")):=by
 intro t ht
 simp only[Qa,Wi,Rr] at ht
 rcases ht with rfl | rfl | rfl | rfl | rfl | rfl<;>kernel_rfl
theorem zOt (K:PySem.W.Frag):∀t:String,t∈["NoneType","bool","int","str","tuple","list"]->PySem.W.kitOne K (.type t) (.type "bool")=some (decide (t="bool")):=by
 intro t ht
 simp only[Qa,Wi,Rr] at ht
 rcases ht with rfl | rfl | rfl | rfl | rfl | rfl<;>kernel_rfl
theorem zL4 (K:PySem.W.Frag):∀t:String,t∈["NoneType","bool","int","str","tuple","list"]->PySem.W.kitOne K (.type t) (.type "str")=some (decide (t="str")):=by
 intro t ht
 simp only[Qa,Wi,Rr] at ht
 rcases ht with rfl | rfl | rfl | rfl | rfl | rfl<;>kernel_rfl
theorem zPH (K:PySem.W.Frag):∀t:String,t∈["NoneType","bool","int","str","tuple","list"]->PySem.W.kitOne K (.type t) (.type "tuple")=some (decide (t="tuple")):=by
 intro t ht
 simp only[Qa,Wi,Rr] at ht
 rcases ht with rfl | rfl | rfl | rfl | rfl | rfl<;>kernel_rfl
theorem zNM (K:PySem.W.Frag):∀t:String,t∈["NoneType","bool","int","str","tuple","list"]->PySem.W.kitOne K (.type t) (.type "list")=some (decide (t="list")):=by
 intro t ht
 simp only[Qa,Wi,Rr] at ht
 rcases ht with rfl | rfl | rfl | rfl | rfl | rfl<;>kernel_rfl
theorem bE {d:D}{t:String}(h:tyD d=some t):t∈["NoneType","bool","int","str","tuple","list"]:=by
 cases d<;>cases h<;>simp
def pI (p:D->Bool)(f:Ef):Ef:=fun ρ=>(f ρ).bind fun d=>match d with | .obj _ _ _=>none | .exc _ _ _=>none | d=>some (.bl (p d))
def isInt:D->Bool | .int _=>true | .bl _=>true | _=>false
def fJ:D->Bool | .bl _=>true | _=>false
def hJ:D->Bool | .str _=>true | _=>false
def rQ:D->Bool | .tup _=>true | _=>false
def dF:D->Bool | .lst _=>true | _=>false
theorem pE {T:Str}{TT:String}{q:D->Bool}{p1:Pos}(hT:bootBuiltins T=some (.type TT))(hq:∀(K:PySem.W.Frag) d t,tyD d=some t->PySem.W.kitOne K (.type t) (.type TT)=some (q d))(hg:Gl X "isinstance")(hm:X.mg "isinstance"=none)(hgT:Gl X T)(hmT:X.mg T=none)(h:PF X a fa)
   (hn:T≠"__name__":=by decide) (hd:(T==("__debug__":Str))=false:=by decide) (hs:starEach [a,.Name T p1] X.env=[(false,eval a X.env),(false,eval (.Name T p1) X.env)]:=by rfl):PF X (.Call (.Name "isinstance" p) [a,.Name T p1] [] pos) (pI q fa):=by
 have hcall:CallR X (.builtin "isinstance") (fun xs H Q=>∃x G d,xs=[x,.ty TT]/\Same G H/\Rep X.K G d x/\(tyD d).isSome=true/\Q (.bl (q d)) H):=by
   intro pins s σ H xs us Q I r hh
   obtain⟨x,G,d,rfl,sub,rx,ht,qq⟩:=hh
   obtain⟨u,u',rfl,ru,ru'⟩:=zT4 r
   cases ru'
   obtain⟨t,ht⟩:=Ec.mp ht
   exact zIG I ru sub rx ht (hq _ d t ht) fun tk=>⟨.bl (q d),H,I.tok tk,rfl,qq⟩
 refine PE.to (qV hcall hg hm (by rfl) (yY h (yY (zLr (v:=.ty TT) hgT hmT hT rfl hn hd) yK) (by rw[hs];rfl)) (by decide) (by decide) (by rw[hs];rfl) (by rfl)) ?_
 rintro σ H Q ⟨G0,H0,G,ρ,d,good,hf,k⟩
 unfold pI at hf
 obtain⟨x,h1,hf⟩:=Qq.mp hf
 refine⟨G0,H0,G,ρ,_,good,h1,fun v H1 G1 s1 r1=>?_⟩
 have hx:(tyD x).isSome=true/\d = .bl (q x):=by
   cases x<;>first
     | (cases hf;exact⟨rfl,rfl⟩)
     | cases hf
 obtain⟨hx,rfl⟩:=hx
 exact⟨v,G1,x,rfl,s1.sub,r1,hx,k _ _ G1 s1 (w6.mpr rfl)⟩
theorem zML (K:PySem.W.Frag)(d:D)(t:String)(h:tyD d=some t):PySem.W.kitOne K (.type t) (.type "int")=some (isInt d):=by
 rw[zL7 K t (bE h)];cases d<;>cases h<;>simp[isInt,fJ,hJ,rQ,dF]
theorem zMh (K:PySem.W.Frag)(d:D)(t:String)(h:tyD d=some t):PySem.W.kitOne K (.type t) (.type "bool")=some (fJ d):=by
 rw[zOt K t (bE h)];cases d<;>cases h<;>simp[isInt,fJ,hJ,rQ,dF]
theorem zM0 (K:PySem.W.Frag)(d:D)(t:String)(h:tyD d=some t):PySem.W.kitOne K (.type t) (.type "str")=some (hJ d):=by
 rw[zL4 K t (bE h)];cases d<;>cases h<;>simp[isInt,fJ,hJ,rQ,dF]
theorem zY6 (K:PySem.W.Frag)(d:D)(t:String)(h:tyD d=some t):PySem.W.kitOne K (.type t) (.type "tuple")=some (rQ d):=by
 rw[zPH K t (bE h)];cases d<;>cases h<;>simp[isInt,fJ,hJ,rQ,dF]
theorem zOn (K:PySem.W.Frag)(d:D)(t:String)(h:tyD d=some t):PySem.W.kitOne K (.type t) (.type "list")=some (dF d):=by
 rw[zNM K t (bE h)];cases d<;>cases h<;>simp[isInt,fJ,hJ,rQ,dF]
def zOM:List D->Option (List Bool)
 | []=>some []
 | .bl k::r=>(zOM r).map fun ks=>k::ks
 | _=>none
def zP6 (f:Ef):Ef:=fun ρ=>(f ρ).bind fun d=>match d with | .lst ds=>(zOM ds).map fun ks=>.bl (ks.all id) | _=>none
theorem zPu (hc:X.calm=true):CallR X (.builtin "all") (fun xs H Q=>∃(p:Addr) (ks:List Bool),xs=[V.ref p]/\SqL X.K H p (ks.map V.bl)/\Q (.bl (ks.all id)) H):=by
 intro pins s σ H xs us Q I r h
 obtain⟨p,ks,rfl,hq,q⟩:=h
 obtain⟨u,rfl,ru⟩:=qJ r
 cases ru
 obtain⟨its,rv,pl,hz⟩:=I.list hq
 have hks:∀(i:Nat) (v:Value),its[i]?=some v->∃k,ks[i]?=some k/\v=Value.bool k:=fun i v e=>by
   have hi:i < ks.length:=by have:=rv.length;rw[Qy] at this;rw[this];exact(Qm.mp e).1
   obtain⟨u,e1,r1⟩:=rv.get (i:=i) (x:=.bl ks[i]) (by rw[Wp,Qu hi];rfl)
   rw[e] at e1;cases e1
   exact⟨ks[i],Qu hi,r1⟩
 have hlen:its.length=ks.length:=by have:=rv.length;rw[Qy] at this;exact this.symm
 refine call_all_walk (Yk pl.isList ?_)
 have hne:p≠s.heap.objs.size:=by obtain⟨o,_,e,_⟩:=pl;exact Wm (Qs e)
 refine⟨s.heap.objs.size,_,_,_,_,_,fun i=>(ks[i]?).getD true,rfl,Walks.list (A:=X.A.in1) (I.ok.hd hc) s.heap.objs.size p hne its.toArray,⟨⟨_,Qk _ rfl,rfl,rfl⟩,pl.isList.push _⟩,?_,fun h' tk hk=>?_⟩
 · intro i v s' Q' E' hv hQ'
   obtain⟨k,e1,rfl⟩:=hks i v (by simpa using hv)
   have hQ2:Q' ((ks[i]?).getD true) s':=hQ'
   rw[e1] at hQ2
   exact Ti hQ2
 · have hI:Inv X pins σ H { s with heap:=h',toks:=tk }:=I.kept fun b o e=>hk b o (by simp;exact Wm (Qs e)) (Qr _ e)
   have e:((List.range its.toArray.size).all fun i=>(ks[i]?).getD true)=ks.all id:=by
     rw[Qg,hlen]
     rw[Yi]
     simp only[Qv,Rz,id]
     constructor
     · intro h x hx
       obtain⟨i,hi,rfl⟩:=List.getElem_of_mem hx
       have:=h i hi
       rw[Qu hi] at this
       exact this
     · intro h i hi
       rw[Qu hi]
       exact h _ (Rj hi)
   rw[e]
   exact⟨.bl (ks.all id),H,hI,rfl,q⟩
theorem zTY {K:PySem.W.Frag}{G:Hp}:∀ {ds:List D} {vs:List V} {ks:List Bool},zOM ds=some ks->Reps K G ds vs->vs=ks.map V.bl
 | [],_,_,h,r=>by cases h;rw[yV] at r;rw[r];rfl
 | d::t,_,_,h,r=>by
   unfold zOM at h
   split at h
   · rename_i h';cases h'
   · rename_i k t' h'
     cases h'
     obtain⟨v,vr,rfl,r1,r2⟩:=zE.mp r
     obtain⟨ks,h1,rfl⟩:=Qt.mp h
     rw[zTY h1 r2,w6.mp r1];rfl
   · cases h
theorem zJA (hc:X.calm=true)(hg:Gl X "all")(hm:X.mg "all"=none)(h:PF X a fa)(hs:starEach [a] X.env=[(false,eval a X.env)]:=by rfl):PF X (.Call (.Name "all" p) [a] [] pos) (zP6 fa):=by
 refine PE.to (qV (zPu hc) hg hm (by rfl) (yY h yK (by rw[hs];rfl)) (by decide) (by decide) (by rw[hs];rfl) (by rfl)) ?_
 rintro σ H Q ⟨G0,H0,G,ρ,d,good,hf,k⟩
 unfold zP6 at hf
 obtain⟨x,h1,hf⟩:=Qq.mp hf
 cases x with
 | lst ds =>
   dsimp only at hf
   obtain⟨ks,h2,rfl⟩:=Qt.mp hf
   refine⟨G0,H0,G,ρ,_,good,h1,fun v H1 G1 s1 r1=>?_⟩
   obtain⟨p,vs,rfl,q,rs⟩:=xH.mp r1
   have e:=zTY h2 rs
   subst e
   exact⟨p,ks,rfl,s1.sub.seq q,k _ _ G1 s1 (w6.mpr rfl)⟩
 | _=>cases hf
end
theorem Inv.turnedNew {X:Cx}{pins:List (Addr×Obj)}{σ:St}{H:Hp}{s:Shared}{h':Heap}{t':Nat}{fp:List Addr}{T:Addr}{o:HO}(I:Inv X pins σ H s)(k:∀b u,b∉fp->s.heap.get? b=some u->h'.get? b=some u)
   (hf:∀b∈fp,mX X pins H b) (hT:s.heap.objs.size<=T) (new:ObjOk X.prog X.w (upd H T o) h' T o):Inv X pins σ (upd H T o) { s with heap:=h',toks:=t' }:=by
 have fr:H T=none:=I.hok.fresh hT
 have neT:∀b u,s.heap.get? b=some u->b≠T:=fun b u e=>Wm (We (Qs e) hT)
 have nfp:∀b u,H b=some u->b∉fp:=fun b u e z=>by have:=(hf b z).1;rw[e] at this;cases this
 refine I.step (g':=s.gens) (d':=s.drawn) (ch:=fp) (fun b hb=>⟨(hf b hb).2.2.2.1,(hf b hb).2.1,(hf b hb).2.2.2.2.1,(hf b hb).2.2.2.2.2⟩) (fun b u _ _ hc e _=>k b u hc e)
   (fun b u _ _ hc e _=>⟨u.slots,k b u hc e⟩) (fun b u _ e n=>by rw[yI (neT b u e)];exact n) (fun b u hc e=>⟨u,k b u hc e⟩)
   (fun b xs e=>by rw[yI (xR e fr)];exact e) (fun b u x e=>by rw[yI (xR e fr)];exact e) (fun b ps e=>⟨#[],by rw[yI (xR e fr),e];simp⟩) (fun m hm=>?_) (fun b u e=>?_) I.bare
 · obtain⟨ob,es,ep,ho,r⟩:=hm
   exact⟨ob,es,ep,k _ ob (fun z=>(hf _ z).2.1 rfl) ho,r⟩
 · by_cases hb:b=T
   · subst hb;rw[yX] at e;cases e;exact new
   · rw[yI hb] at e
     refine(I.hok b u e).stay (fun c v hc q=>k c v ?_ q) (fun c q=>by rw[yI (xR q fr)];exact q) fun c xs q=>by rw[yI (xR q fr)];exact q
     rcases hc with z | z
     · rw[z];exact nfp b u e
     · exact nfp c _ z
theorem Inv.turnedL {X:Cx}{pins:List (Addr×Obj)}{σ:St}{H:Hp}{s:Shared}{h':Heap}{t':Nat}{fp:List Addr}(I:Inv X pins σ H s)(k:∀b u,b∉fp->s.heap.get? b=some u->h'.get? b=some u)
   (hf:∀b∈fp,mX X pins H b):Inv X pins σ H { s with heap:=h',toks:=t' }:=by
 have nfp:∀b u,H b=some u->b∉fp:=fun b u e z=>by have:=(hf b z).1;rw[e] at this;cases this
 refine I.step (g':=s.gens) (d':=s.drawn) (ch:=fp) (fun b hb=>⟨(hf b hb).2.2.2.1,(hf b hb).2.1,(hf b hb).2.2.2.2.1,(hf b hb).2.2.2.2.2⟩) (fun b u _ _ hc e _=>k b u hc e)
   (fun b u _ _ hc e _=>⟨u.slots,k b u hc e⟩) (fun b u _ e n=>n) (fun b u hc e=>⟨u,k b u hc e⟩) (fun b xs e=>e) (fun b u x e=>e) (fun b ps e=>⟨#[],by rw[e];simp⟩) (fun m hm=>?_) (fun b u e=>?_) I.bare
 · obtain⟨ob,es,ep,ho,r⟩:=hm
   exact⟨ob,es,ep,k _ ob (fun z=>(hf _ z).2.1 rfl) ho,r⟩
 · refine(I.hok b u e).stay (fun c v hc q=>k c v ?_ q) (fun c q=>q) fun c xs q=>q
   rcases hc with z | z
   · rw[z];exact nfp b u e
   · exact nfp c _ z
def Ite (K:PySem.W.Frag)(a:Addr):It :=
 ⟨fun i H=>∃xs x,SqL K H a xs/\xs[i]?=some x,fun i H x H'=>∃p v,H p=none/\x = .ref p/\H'=upd H p (.tup [.int (i:Nat),v])/\∀xs,SqL K H a xs->xs[i]?=some v,fun i H=>∃xs,SqL K H a xs/\xs.length<=i⟩
theorem zPZ {P:Program}{w:World}{K:PySem.W.Frag}{elts:List Expr}{k:Nat}{pos:Pos}(a e it:Addr)(hei:e≠it):Turn P w K (.Tuple elts k pos) (Ite K a) [e,it] e (fun i h=>(∃old,IsEnum h e it (i:Nat) old)/\h.IsListIter it a i) where
 mem:=by simp
 obj:=fun i h st b hb=>by
   obtain⟨⟨old,he⟩,o,h1,h2,h3⟩:=st
   rcases Qa.mp hb with z | z
   · subst z;exact⟨_,he,fun v q=>nomatch q⟩
   · rcases Qa.mp z with z | z
     · subst z;exact⟨o,h1,fun v q=>by rw[h3] at q;cases q⟩
     · cases z
 keep:=fun i h h' st kk=>by
   obtain⟨⟨old,he⟩,hl⟩:=st
   exact⟨⟨old,kk e (by simp) _ he⟩,hl.at fun o q=>kk it (by simp) o q⟩
 item:=by
   intro X hP hw hK hc i pins s σ H E I hf st hg
   subst hP hw hK
   obtain⟨xs,x,hq,hx⟩:=hg
   obtain⟨its,rv,p,hz⟩:=I.list hq
   obtain⟨u,hu,ru⟩:=rv.get hx
   obtain⟨⟨old,he⟩,hit⟩:=st
   refine wpAny_pyNext_enum_item he hit p.isList (x:=u) (by simpa using hu) hei fun h1 ho hit1 hT hsz hk=>?_
   have I1:Inv X pins σ (upd H s.heap.objs.size (.tup [.int (i:Nat),x])) { s with heap:=h1,toks:=s.toks+1 }:=I.turnedNew (fun b o hb e=>hk b o (fun z=>hb (by simp[z])) (fun z=>hb (by simp[z])) e) hf (Ql _)
     ⟨by show 2<=sizeLine;exact Wx (vO (by decide)),[.int (i:Nat) s.toks,u],.cons ⟨_,rfl⟩ (.cons ru .nil),⟨_,hT,rfl,_,rfl⟩⟩
   refine⟨_,rfl,Og ho fun h2 he2 hs2=>?_⟩
   have hs2:Heap.SameBut e h1 h2:=hs2
   have neT:∀b∈[e,it],b≠s.heap.objs.size:=fun b hb z=>by
     obtain⟨o,h1,h2,h3⟩:=hit
     rcases Qa.mp hb with q | q
     · exact absurd (Qs he) (by rw[←q,z];exact Wr _)
     · rcases Qa.mp q with q | q
       · exact absurd (Qs h1) (by rw[←q,z];exact Wr _)
       · cases q
   have hf1:∀b∈[e,it],mX X pins (upd H s.heap.objs.size (.tup [.int (i:Nat),x])) b:=fun b hb=>⟨by rw[yI (neT b hb)];exact(hf b hb).1,(hf b hb).2⟩
   have I2:=I1.turnedL (h':=h2) (t':=s.toks+1) (fp:=[e,it]) (fun b o hb q=>(hs2.2 b (fun z=>hb (by simp[z]))).trans q) hf1
   refine⟨.ref s.heap.objs.size,_,I2,rfl,⟨s.heap.objs.size,x,I.fresh,rfl,rfl,fun ys hy=>by rw[I.list_inj hy hq];exact hx⟩,⟨⟨_,by simpa using he2⟩,hit1.at fun o q=>(hs2.2 it hei.symm).trans q⟩,fun b hb=>(hf1 b hb).1⟩
 done:=by
   intro X hP hw hK hc i pins s σ H E I hf st hg
   subst hP hw hK
   obtain⟨xs,hq,hx⟩:=hg
   obtain⟨its,rv,p,hz⟩:=I.list hq
   obtain⟨⟨old,he⟩,hit⟩:=st
   have hl:=rv.length
   exact wpAny_pyNext_enum_end (I.ok.hd hc) he hit p.isList (by simp;omega) fun h' eb=>⟨rfl,I.turnedL (t':=s.toks) (fp:=[e,it]) (fun b o hb q=>eb b o (fun z=>hb (by simp[z])) q) hf⟩
 self:=fun _ _ _ _ _ st h=>Yx st.1.choose_spec h
theorem zUf {K:PySem.W.Frag}{G:Hp}{a:Addr}{vs:List V}{ds:List D}(h:SqL K G a vs)(r:Reps K G ds vs):hV K (Ite K a) G (ds.zipIdx.map fun q=>D.tup [.int (q.2:Nat),q.1]):=by
 intro i G2 H2 s1 s2
 have q:SqL K H2 a vs:=(s1.trans s2).seq h
 refine⟨fun d hd=>?_,fun hi=>⟨vs,q,by rw[←r.length];simpa using hi⟩⟩
 rw[Wp,List.getElem?_zipIdx] at hd
 obtain⟨⟨d0,j⟩,hd2,hd3⟩:=Qt.mp hd
 obtain⟨d1,hd1,e⟩:=Qt.mp hd2
 cases e
 subst hd3
 obtain⟨v,e,rv⟩:=r.get hd1
 refine⟨⟨vs,v,q,e⟩,fun x H3 y=>?_⟩
 obtain⟨p,u,hp,rfl,rfl,y⟩:=y
 have e2:=y vs q
 rw[e] at e2;cases e2
 have s3:=Step.laid (o:=.tup [.int (i:Nat),v]) s2 hp
 refine⟨_,s3,yF.mpr ⟨p,_,rfl,.of yX,zE.mpr ⟨_,_,rfl,zG.mpr (by simp),zE.mpr ⟨_,_,rfl,(rv.mono s1).mono s3.gg,yV.mpr rfl⟩⟩⟩⟩
section
variable {X:Cx} {a b e:Expr} {es:List Expr} {fa:Ef} {ga gb:Lf} {pos p:Pos}
def numbered (ds:List D):List D:=ds.zipIdx.map fun q=>D.tup [.int (q.2:Nat),q.1]
def bF (g:Lf):Lf:=fun ρ=>(g ρ).map numbered
def zMg (K:PySem.W.Frag)(f:Lf):TE:=fun σ H Q=>∃G0 H0 G ρ ds,Good K G0 H0 G H σ ρ/\f ρ=some ds/\∀a vs H' G',Step G H G' H'->SqL K G' a vs->Reps K G' ds vs->Q (.ref a) H'
def zUB (X:Cx)(e:Expr)(f:Lf):Prop:=PE X e (zMg X.K f)
theorem aB (h:PFr X e ga):zUB X e ga:=fun pins s σ H Q I q=>h pins s σ H Q I (by
 obtain⟨G0,H0,G,ρ,ds,good,hf,k⟩:=q
 exact⟨G0,H0,G,ρ,ds,good,hf,fun p vs H' G' s hn hp gp rs=>k p vs H' (upd G' p (.lst vs)) (s.frz hn hp gp) (.of yX) (rs.mono (Same.new gp))⟩)
theorem zZs (h:PF X e fa):zUB X e (iL fa):=fun pins s σ H Q I q=>h pins s σ H Q I (by
 obtain⟨G0,H0,G,ρ,ds,good,hf,k⟩:=q
 unfold iL at hf
 obtain⟨d,h1,hf⟩:=Qq.mp hf
 cases d with
 | lst es =>
   cases hf
   refine⟨G0,H0,G,ρ,_,good,h1,fun x H1 G1 s1 r1=>?_⟩
   obtain⟨p,vs,rfl,q,rs⟩:=xH.mp r1
   exact k p vs H1 G1 s1 q rs
 | _=>cases hf)
theorem zKZ {elts:List Expr}{k:Nat}{pos':Pos}(hg:Gl X "enumerate")(hm:X.mg "enumerate"=none)(h:zUB X a ga)(hs:starEach [a] X.env=[(false,eval a X.env)]:=by rfl):PFI X (.Tuple elts k pos') (.Call (.Name "enumerate" p) [a] [] pos) (bF ga):=by
 intro pins s σ H R I q
 obtain⟨G0,H0,G,ρ,ds,good,hf,kk⟩:=q
 unfold bF at hf
 obtain⟨es,h1,rfl⟩:=Qt.mp hf
 have h2:=yY h yK (by rw[hs];rfl) pos pins s σ H (fun vs H'=>∃a us G',vs=[.ref a]/\Step G H G' H'/\SqL X.K G' a us/\Reps X.K G' es us) I ⟨G0,H0,G,ρ,es,good,h1,fun a us H' G' s' hq rs=>⟨a,us,G',rfl,s',hq,rs⟩⟩
 refine Call_ (qD I hg hm (by rfl) (Wj (thn h2 fun us s1 ⟨vs,H1,I1,r1,l,ws,G1,e1,st1,hq,rs⟩=>?_) hs rfl))
 subst e1
 obtain⟨u,rfl,ru⟩:=qJ r1
 cases ru
 obtain⟨its,rv,pl,hz⟩:=I1.list (st1.sub.seq hq)
 refine call_enumerate_list pl.isList fun h' he hit hsz hk=>?_
 have I2:Inv X pins σ H1 { s1 with heap:=h' }:=I1.kept (t':=s1.toks) hk
 refine Yx he ?_
 refine⟨_,[s1.heap.objs.size+1,s1.heap.objs.size],_,_,H1,rfl,I2,zPZ l _ _ (Nat.succ_ne_self _),⟨⟨_,he⟩,hit⟩,fun b hb=>?_,kk _ H1 G1 st1 (zUf hq rs)⟩
 have hb':s1.heap.objs.size<=b:=by
   rcases Qa.mp hb with z | z
   · rw[z];exact Yo _
   · rcases Qa.mp z with z | z
     · exact Ua z.symm
     · cases z
 exact I1.fpOk hb' (I1.hok.fresh hb')
def zTQ (f g:Lf):Lf:=fun ρ=>(f ρ).bind fun xs=>(g ρ).bind fun ys=>okL (xs++ys)
theorem zJ7 (ha:PFr X a ga)(hb:PFr X b gb):PFr X (.BinOp a .Add b pos) (zTQ ga gb):=by
 refine PE.toR (zXT zIM ha hb) ?_
 rintro σ H Q ⟨G0,H0,G,ρ,d,good,hf,k⟩
 unfold zTQ at hf
 obtain⟨xs,h1,hf⟩:=Qq.mp hf
 obtain⟨ys,h2,hf⟩:=Qq.mp hf
 obtain⟨rfl,h3⟩:=aO hf
 refine⟨G0,H0,G,ρ,_,good,h1,fun p vs H1 G1 s1 hn hp gp rs=>⟨G0,H0,G1,ρ,_,good.step s1,h2,fun q us H2 G2 s2 hn2 hq gq rs2=>?_⟩⟩
 refine⟨p,q,vs,us,rfl,rfl,s2.hh _ _ hp,hq,?_,fun l hl=>?_⟩
 · rw[←rs.length,←rs2.length,←Wq];exact Wx (vO h3)
 · have s3:=Step.own (o:=.lst (vs++us)) s2.sub hl
   exact k l _ _ G2 ((s1.trans s2).trans s3) ((s1.trans s2).hh.free hl) yX (s2.sub.free hl) ((rs.mono s2.gg).append rs2)
abbrev Of:=List B->Option (Option Int)
def tFO (K:PySem.W.Frag)(f:Of):TO:=fun σ H Q=>∃G0 H0 G ρ o,Good K G0 H0 G H σ ρ/\f ρ=some o/\∀H' G',Step G H G' H'->Q o H'
def PFO (X:Cx)(e:Option Expr)(f:Of):Prop:=PO X e (tFO X.K f)
def oNo:Of:=fun _=>some none
def tT (f:Ef):Of:=fun ρ=>(f ρ).bind fun d=>match d with | .int i=>some (some i) | _=>none
theorem zW8:PFO X none oNo:=fun pins s σ H Q I h=>zLK pins s σ H Q I (by
 obtain⟨G0,H0,G,ρ,o,good,hf,k⟩:=h
 cases hf
 exact k H G (.refl good.sub))
theorem dO (h:PF X e fa):PFO X (some e) (tT fa):=fun pins s σ H Q I q=>zKO h pins s σ H Q I (by
 obtain⟨G0,H0,G,ρ,o,good,hf,k⟩:=q
 unfold tT at hf
 obtain⟨d,h1,hf⟩:=Qq.mp hf
 cases d with
 | int i=>cases hf;exact⟨G0,H0,G,ρ,_,good,h1,fun v H' G' s r=>⟨i,zG.mp r,k H' G' s⟩⟩
 | _=>cases hf)
def zZS (xs:List D)(lo hi:Option Int):List D:=(xs.drop (HT.sIx xs.length 0 lo)).take (HT.sIx xs.length xs.length hi - HT.sIx xs.length 0 lo)
def lT (f:Ef)(lo hi:Of):Lf:=fun ρ=>(f ρ).bind fun d=>(lo ρ).bind fun l=>(hi ρ).bind fun u=>match d with | .lst ds=>some (zZS ds l u) | _=>none
theorem zY8 {lo hi:Option Expr}{fl fh:Of}{p2:Pos}(ha:PF X a fa)(hl:PFO X lo fl)(hh:PFO X hi fh):PFr X (.Subscript a (.Slice lo hi none p2) pos) (lT fa fl fh):=by
 refine PE.toR (zTm zLq ha hl hh) ?_
 rintro σ H Q ⟨G0,H0,G,ρ,d,good,hf,k⟩
 unfold lT at hf
 obtain⟨x,h1,hf⟩:=Qq.mp hf
 obtain⟨l,h2,hf⟩:=Qq.mp hf
 obtain⟨u,h3,hf⟩:=Qq.mp hf
 cases x with
 | lst ds =>
   cases hf
   refine⟨G0,H0,G,ρ,_,good,h1,fun v H1 G1 s1 r1=>⟨G0,H0,G1,ρ,_,good.step s1,h2,fun H2 G2 s2=>⟨G0,H0,G2,ρ,_,(good.step s1).step s2,h3,fun H3 G3 s3=>?_⟩⟩⟩
   obtain⟨q,vs,rfl,hq,rs⟩:=xH.mp r1
   have s23:=s2.trans s3
   refine⟨q,vs,rfl,s23.hh |> fun z=>(s1.sub.trans z).seq hq,fun p hp=>?_⟩
   have s4:=Step.own (o:=.lst (zX1 vs l u)) s23.sub hp
   refine k p _ _ G3 ((s1.trans s23).trans s4) ((s1.trans s23).hh.free hp) yX (s23.sub.free hp) ?_
   unfold zX1 zZS
   rw[←rs.length]
   exact((rs.mono s23.gg).drop _).take _
 | _=>cases hf
end
section
variable {prog:Program} {w:World} {A:Around} {E:Value->Shared->Prop} {s:Shared}
theorem jW {it t:Addr}{i:Nat}{items:Array Value}{x:Value}{Q:Value->Shared->Prop}(hit:s.heap.IsTupleIter it t i)(ht:s.heap.IsTuple t items)(hx:items[i]?=some x)
   (hQ:∀h',h'.IsTupleIter it t (i+1)->Heap.SameBut it s.heap h'->Q x { s with heap:=h' }):wpAny (model prog w) A (Builtin.SmallTypes.nextOf (.ref it)) Q E s:=by
 obtain⟨o,h1,h2,h3⟩:=id hit
 obtain⟨ot,t1,_,n,t2⟩:=ht
 unfold Builtin.SmallTypes.nextOf
 refine Qe (El (name:=Str.ofString "__next__") hit.typeIs F.slot_tuple_iterator_next (Rg F.slot_tuple_iterator_next hit.typeIs F.entry_tuple_iterator_next ?_ (F.args_tuple_iterator_next_1 _)))
 change wpAny _ _ (field (.ref it) 0 >>= _) _ _ s
 refine Qe (Ed h1 h3 (x:=.ref t) rfl ?_)
 change wpAny _ _ (if (Value.ref t==Value.none)=true then _ else _) _ _ s
 rw[Ws (by exact Qj)]
 change wpAny _ _ (field (.ref it) 1 >>= _) _ _ s
 refine Qe (Ed h1 h3 (x:=.int i 0) rfl ?_)
 change wpAny _ _ (seqItems? (.ref t) >>= _) _ _ s
 refine Qe (Ez t1 t2 ?_)
 simp only[Ra,hx]
 refine Qe (wpAny_setField h1 h3 (by simp) (Qf ⟨x,rfl,Qf (hQ _ ⟨_,Rw _ h1 (Obj.isFreed_of_fields (Obj.data_mapFields h3 _)),(Obj.cls_mapFields ..).trans h2,?_⟩ (Heap.SameBut.update ..))⟩))
 rw[Obj.data_mapFields h3]
 simp[rawInt]
theorem zZE {it t:Addr}{i:Nat}{items:Array Value}{Q:Value->Shared->Prop}(hh:A.handled=none)(hit:s.heap.IsTupleIter it t i)(ht:s.heap.IsTuple t items)(hx:items[i]?=none)
   (hE:∀h' e,Heap.ExtBut it s.heap h'->(∃o,h'.get? e=some o/\o.cls = .type "StopIteration")->E (.ref e) { s with heap:=h' }):wpAny (model prog w) A (Builtin.SmallTypes.nextOf (.ref it)) Q E s:=by
 obtain⟨o,h1,h2,h3⟩:=id hit
 obtain⟨ot,t1,_,n,t2⟩:=ht
 unfold Builtin.SmallTypes.nextOf
 refine Qe (El (name:=Str.ofString "__next__") hit.typeIs F.slot_tuple_iterator_next (Rg F.slot_tuple_iterator_next hit.typeIs F.entry_tuple_iterator_next ?_ (F.args_tuple_iterator_next_1 _)))
 change wpAny _ _ (field (.ref it) 0 >>= _) _ _ s
 refine Qe (Ed h1 h3 (x:=.ref t) rfl ?_)
 change wpAny _ _ (if (Value.ref t==Value.none)=true then _ else _) _ _ s
 rw[Ws (by exact Qj)]
 change wpAny _ _ (field (.ref it) 1 >>= _) _ _ s
 refine Qe (Ed h1 h3 (x:=.int i 0) rfl ?_)
 change wpAny _ _ (seqItems? (.ref t) >>= _) _ _ s
 refine Qe (Ez t1 t2 ?_)
 simp only[Ra,hx]
 refine Qe (Ux (Qe (wpAny_setField h1 h3 (by simp) ?_)))
 change wpAny _ _ (newExc (.type "StopIteration") [] >>= _) _ _ _
 refine Qe ?_
 simp only[newExc,newTuple]
 refine Qe (Eb ?_ (by size_fits))
 refine Qe (m:=firstArgMember _ _) (wpAny_of_eq (a:=Value.none) (by first | rfl | (simp only[firstArgMember];rfl)) ?_)
 refine Eb ?_ (by size_fits)
 simp only[raiseNew]
 refine Qe (wpAny_handled ?_)
 first | rw[show A.in1.handled=none from hh] | rw[hh]
 refine Qe (Qf (wpAny_throw ?_))
 exact hE _ _ (((Heap.SameBut.update ..).extBut.push _).push _) ⟨_,Qk _ rfl,rfl⟩
structure ZApart (z TI TO i1 i2 l1 l2:Addr):Prop where
 a1:TI≠z
 a2:TO≠z
 a3:i1≠z
 a4:i2≠z
 a5:TI≠TO
 a6:TI≠i1
 a7:TI≠i2
 a8:TO≠i1
 a9:TO≠i2
 b1:i1≠i2
 b2:l1≠z
 b3:l1≠TO
 b4:l1≠i1
 b5:l1≠i2
 b6:l2≠z
 b7:l2≠TO
 b8:l2≠i1
 b9:l2≠i2
abbrev zT1 (h:Heap)(l1:Addr):Heap:=h.push { cls:=.type "tuple_iterator",data:=.fields #[.ref l1,.int 0 0] }
theorem zne {n:Nat}(i j:Nat)(h:i≠j):n+i≠n+j:=fun z=>h (Nat.add_left_cancel z)
def sU:List D->List D->List D
 | x::xs,y::ys=>.tup [x,y]::sU xs ys
 | _,_=>[]
theorem zYA:∀ {xs ys:List D} {i:Nat} {d:D},(sU xs ys)[i]?=some d->∃x y,xs[i]?=some x/\ys[i]?=some y/\d = .tup [x,y]
 | [],_,_,_,h=>by simp[sU] at h
 | _::_,[],_,_,h=>by simp[sU] at h
 | x::xs,y::ys,0,d,h=>by simp[sU] at h;exact⟨x,y,rfl,rfl,h.symm⟩
 | x::xs,y::ys,i+1,d,h=>by
   simp only[sU,Qc] at h
   obtain⟨a,b,h1,h2,h3⟩:=zYA h
   exact⟨a,b,by simpa using h1,by simpa using h2,h3⟩
theorem zYp:∀(xs ys:List D),(sU xs ys).length=min xs.length ys.length
 | [],_=>by simp[sU]
 | _::_,[]=>by simp[sU]
 | x::xs,y::ys=>by rw[sU,Qo,zYp xs ys,Qo,Qo];omega
def zNR (f g:Ef):Lf:=fun ρ=>(f ρ).bind fun x=>(g ρ).bind fun y=>match x,y with | .tup xs,.tup ys=>some (sU xs ys) | _,_=>none
end
end L2
set_option maxHeartbeats 4000000
namespace L2
open PySem PySem.Spec PyProof.Rows
def zR3 (f:D->D->Option Bool):List D->List D->Option Bool
 | x::xs,y::ys=>(f x y).bind fun a=>(zR3 f xs ys).map fun b=>a&&b
 | _,_=>some true
def eqD:Nat->D->D->Option Bool
 | _+1,.int i,.int j=>some (i==j)
 | _+1,.bl i,.bl j=>some (i==j)
 | _+1,.str i,.str j=>some (i==j)
 | _+1,.non,.non=>some true
 | n+1,.tup xs,.tup ys=>(zR3 (eqD n) xs ys).map fun b=>b&&xs.length==ys.length
 | n+1,.lst xs,.lst ys=>if xs.length=ys.length then zR3 (eqD n) xs ys else some false
 | _,_,_=>none
def jI (f:D->D->Option Bool)(xs ys:List D)(j:Nat):Bool:=match xs[j]?,ys[j]? with | some a,some c=>(f a c).getD true | _,_=>true
theorem zXZ {f:D->D->Option Bool}:∀ {xs ys:List D} {b:Bool},zR3 f xs ys=some b->b=(List.range (min xs.length ys.length)).all (jI f xs ys)/\∀(j:Nat) (a c:D),xs[j]?=some a->ys[j]?=some c->f a c=some (jI f xs ys j)
 | [],_,_,h=>by cases h;exact⟨by simp,fun j a c e=>by simp at e⟩
 | _::_,[],_,h=>by cases h;exact⟨by simp,fun j a c _ e=>by simp at e⟩
 | x::xs,y::ys,b,h=>by
   unfold zR3 at h
   obtain⟨a,h1,h⟩:=Qq.mp h
   obtain⟨b',h2,rfl⟩:=Qt.mp h
   obtain⟨e1,e2⟩:=zXZ h2
   constructor
   · rw[Qo,Qo,Nat.succ_min_succ,Ut,Yr,Ib,e1]
     congr 1
     simp[jI,h1]
   · intro j p q hp hq
     cases j with
     | zero =>
       simp at hp hq
       subst hp;subst hq
       simp[jI,h1]
     | succ j =>
       have:=e2 j p q (by simpa using hp) (by simpa using hq)
       simpa [jI] using this
section
variable {X:Cx} {pins:List (Addr×Obj)} {σ:St} {H G:Hp} {s:Shared}
theorem zSN (I:Inv X pins σ H s)(sub:Same G H):∀(n:Nat) (d d':D) (x:V) (k:Bool),eqD n d d'=some k->Rep X.K G d x->Rep X.K G d' x->k=true:=by
 intro n
 induction n with
 | zero=>intro d d' x k h;cases d<;>cases d'<;>cases h
 | succ n ih =>
   have many:∀(ds es:List D) (vs:List V) (b:Bool),zR3 (eqD n) ds es=some b->Reps X.K G ds vs->Reps X.K G es vs->b=true:=by
     intro ds
     induction ds with
     | nil=>intro es vs b h _ _;cases h;rfl
     | cons d r ihr =>
       intro es vs b h r1 r2
       cases es with
       | nil=>cases h;rfl
       | cons e t =>
         unfold zR3 at h
         obtain⟨a,h1,h⟩:=Qq.mp h
         obtain⟨b',h2,rfl⟩:=Qt.mp h
         obtain⟨v,vr,rfl,q1,q2⟩:=zE.mp r1
         obtain⟨v',vr',e',q3,q4⟩:=zE.mp r2
         cases e'
         rw[ih d e v a h1 q1 q3,ihr t vr b' h2 q2 q4];rfl
   intro d d' x k h r1 r2
   cases d with
   | int i =>
     cases d' with
     | int j=>cases h;rw[zG] at r1 r2;rw[r1] at r2;cases r2;simp
     | _=>cases h
   | bl i =>
     cases d' with
     | bl j=>cases h;rw[w6] at r1 r2;rw[r1] at r2;cases r2;simp
     | _=>cases h
   | str i =>
     cases d' with
     | str j=>cases h;rw[yM] at r1 r2;rw[r1] at r2;cases r2;simp
     | _=>cases h
   | non =>
     cases d' with
     | non=>cases h;rfl
     | _=>cases h
   | tup ds =>
     cases d' with
     | tup es =>
       unfold eqD at h
       obtain⟨b,h1,rfl⟩:=Qt.mp h
       obtain⟨p,vs,e1,q1,q2⟩:=yF.mp r1
       obtain⟨p',vs',e2,q3,q4⟩:=yF.mp r2
       rw[e1] at e2;cases e2
       have ev:=I.tuple_inj (sub.tup q1) (sub.tup q3)
       subst ev
       rw[many ds es vs b h1 q2 q4,q2.length,q4.length];simp
     | _=>cases h
   | lst ds =>
     cases d' with
     | lst es =>
       unfold eqD at h
       obtain⟨p,vs,e1,q1,q2⟩:=xH.mp r1
       obtain⟨p',vs',e2,q3,q4⟩:=xH.mp r2
       rw[e1] at e2;cases e2
       have ev:=I.list_inj (sub.seq q1) (sub.seq q3)
       subst ev
       rw[Qb (by rw[q2.length,q4.length])] at h
       exact many ds es vs k h q2 q4
     | _=>cases h
   | obj C ns ds=>cases d'<;>cases h
   | exc C ns ds=>cases d'<;>cases h
theorem zJk (I:Inv X pins σ H s)(sub:Same G H):∀(n:Nat) (A:Around) (d d':D) (x y:V) (u v:Value) (k:Bool),A.units+n < cLine->eqD n d d'=some k->Rep X.K G d x->Rep X.K G d' y->RelV x u->RelV y v ->
   SeqAt.RcAt A s u v k/\SeqAt.RcNeAt A s u v (!k)/\SeqAt.EqAt A s u v k:=by
 intro n
 induction n with
 | zero=>intro A d d' x y u v k _ h;cases d<;>cases d'<;>cases h
 | succ n ih =>
   intro A d d' x y u v k hu h r1 r2 ru rv
   have hu1:A.units < cLine:=by omega
   have hin:A.in1.units+n < cLine:=by show A.units+1+n < cLine;omega
   cases d with
   | int i =>
     cases d' with
     | int j=>cases h;rw[zG] at r1 r2;subst r1;subst r2;obtain⟨t,rfl⟩:=ru;obtain⟨t',rfl⟩:=rv;exact⟨SeqAt.RcAt.int_int _ _ _ _,SeqAt.RcNeAt.int_int _ _ _ _,Iu _ _ _ _⟩
     | _=>cases h
   | bl i =>
     cases d' with
     | bl j=>cases h;rw[w6] at r1 r2;subst r1;subst r2;cases ru;cases rv;exact⟨SeqAt.RcAt.bool_bool _ _,SeqAt.RcNeAt.bool_bool _ _,Uv _ _⟩
     | _=>cases h
   | str i =>
     cases d' with
     | str j=>cases h;rw[yM] at r1 r2;subst r1;subst r2;obtain⟨t,rfl⟩:=ru;obtain⟨t',rfl⟩:=rv;exact⟨SeqAt.RcAt.str_str _ _ _ _,SeqAt.RcNeAt.str_str _ _ _ _,SeqAt.EqAt.str_str _ _ _ _⟩
     | _=>cases h
   | non =>
     cases d' with
     | non=>cases h;rw[uO] at r1 r2;subst r1;subst r2;cases ru;cases rv;exact⟨SeqAt.RcAt.none_none,SeqAt.RcNeAt.none_none,Ya _⟩
     | _=>cases h
   | tup ds =>
     cases d' with
     | tup es =>
       have h0:=h
       unfold eqD at h
       obtain⟨b,h1,rfl⟩:=Qt.mp h
       obtain⟨p,vs,rfl,q1,q2⟩:=yF.mp r1
       obtain⟨p',vs',rfl,q3,q4⟩:=yF.mp r2
       cases ru;cases rv
       obtain⟨its,w1,t1,_⟩:=I.tuple (sub.tup q1)
       obtain⟨jts,w2,t2,_⟩:=I.tuple (sub.tup q3)
       obtain⟨e1,e2⟩:=zXZ h1
       have l1:ds.length=its.length:=q2.length.trans w1.length
       have l2:es.length=jts.length:=q4.length.trans w2.length
       have he:∀j (a1:j < its.toArray.size) (a2:j < jts.toArray.size),SeqAt.EqAt A.in1 s its.toArray[j] jts.toArray[j] (jI (eqD n) ds es j):=fun j a1 a2=>by
         have b1:j < ds.length:=by rw[l1];simpa using a1
         have b2:j < es.length:=by rw[l2];simpa using a2
         obtain⟨v1,f1,g1⟩:=q2.get (Qu b1)
         obtain⟨v2,f2,g2⟩:=q4.get (Qu b2)
         obtain⟨u1,f3,g3⟩:=w1.get f1
         obtain⟨u2,f4,g4⟩:=w2.get f2
         have x1:its.toArray[j]=u1:=by
           have:=(Qm.mp f3).2
           simpa using this
         have x2:jts.toArray[j]=u2:=by
           have:=(Qm.mp f4).2
           simpa using this
         rw[x1,x2]
         exact(ih A.in1 _ _ v1 v2 u1 u2 _ hin (e2 j _ _ (Qu b1) (Qu b2)) g1 g2 g3 g4).2.2
       have ek:((List.range (min its.toArray.size jts.toArray.size)).all (jI (eqD n) ds es)&&its.toArray.size==jts.toArray.size)=(b&&ds.length==es.length):=by
         rw[Qg,Qg,←l1,←l2,e1]
       have R1:=SeqAt.RcAt.tuples t1 t2 hu1 he
       have R2:=SeqAt.RcNeAt.tuples t1 t2 hu1 he
       rw[ek] at R1 R2
       refine⟨R1,R2,?_⟩
       by_cases hp:p=p'
       · subst hp
         have hk:=zSN I sub (n+1) (.tup ds) (.tup es) (.ref p) _ h0 r1 r2
         rw[hk]
         exact Ya _
       · exact .of_refs hp R1
     | _=>cases h
   | lst ds =>
     cases d' with
     | lst es =>
       have h0:=h
       unfold eqD at h
       obtain⟨p,vs,rfl,q1,q2⟩:=xH.mp r1
       obtain⟨p',vs',rfl,q3,q4⟩:=xH.mp r2
       cases ru;cases rv
       obtain⟨its,w1,t1,_⟩:=I.list (sub.seq q1)
       obtain⟨jts,w2,t2,_⟩:=I.list (sub.seq q3)
       have l1:ds.length=its.length:=q2.length.trans w1.length
       have l2:es.length=jts.length:=q4.length.trans w2.length
       have fin:SeqAt.RcAt A s (.ref p) (.ref p') k/\SeqAt.RcNeAt A s (.ref p) (.ref p') (!k):=by
         split at h
         · rename_i hl
           obtain⟨e1,e2⟩:=zXZ h
           have he:∀j (a1:j < its.toArray.size) (a2:j < jts.toArray.size),SeqAt.EqAt A.in1 s its.toArray[j] jts.toArray[j] (jI (eqD n) ds es j):=fun j a1 a2=>by
             have b1:j < ds.length:=by rw[l1];simpa using a1
             have b2:j < es.length:=by rw[l2];simpa using a2
             obtain⟨v1,f1,g1⟩:=q2.get (Qu b1)
             obtain⟨v2,f2,g2⟩:=q4.get (Qu b2)
             obtain⟨u1,f3,g3⟩:=w1.get f1
             obtain⟨u2,f4,g4⟩:=w2.get f2
             have x1:its.toArray[j]=u1:=by
               have:=(Qm.mp f3).2
               simpa using this
             have x2:jts.toArray[j]=u2:=by
               have:=(Qm.mp f4).2
               simpa using this
             rw[x1,x2]
             exact(ih A.in1 _ _ v1 v2 u1 u2 _ hin (e2 j _ _ (Qu b1) (Qu b2)) g1 g2 g3 g4).2.2
           have hsz:its.toArray.size=jts.toArray.size:=by rw[Qg,Qg,←l1,←l2,hl]
           have ek:(List.range its.toArray.size).all (jI (eqD n) ds es)=k:=by
             rw[e1,Qg,←l1,←hl,Nat.min_self]
           have R1:=SeqAt.RcAt.lists t1.isList t2.isList hsz hu1 he
           have R2:=SeqAt.RcNeAt.lists t1.isList t2.isList hsz hu1 he
           rw[ek] at R1 R2
           exact⟨R1,R2⟩
         · rename_i hl
           cases h
           have hsz:(its.toArray.size != jts.toArray.size)=true:=by
             rw[Qg,Qg,←l1,←l2]
             simpa using hl
           exact⟨SeqAt.RcAt.lists_lengths t1.isList t2.isList hsz hu1,Oh t1.isList t2.isList hsz hu1⟩
       refine⟨fin.1,fin.2,?_⟩
       by_cases hp:p=p'
       · subst hp
         have hk:=zSN I sub (n+1) (.lst ds) (.lst es) (.ref p) _ h0 r1 r2
         rw[hk]
         exact Ya _
       · exact .of_refs hp fin.1
     | _=>cases h
   | obj C ns ds=>cases d'<;>cases h
   | exc C ns ds=>cases d'<;>cases h
variable {a b e:Expr} {ga:Lf} {pos p:Pos} {k:Nat}
def zMV:D->D->Option Bool:=eqD 8
def zPN (x y:D):Option Bool:=(eqD 8 x y).map (!·)
theorem zVj (hr:Room k X.A):CmR X .Eq zMV:=by
 refine⟨fun x y H Q=>∃G d d' b,Same G H/\Rep X.K G d x/\Rep X.K G d' y/\eqD 8 d d'=some b/\Q (.bl b) H,?_,fun d d' k G H x y Q h s rx ry q=>⟨G,d,d',k,s,rx,ry,h,q H G (.refl s)⟩⟩
 intro pins s σ H x y v u Q I rx ry ⟨G,d,d',b,sub,r1,r2,h,q⟩
 have hu:=hr.units
 exact(zJk I sub 8 X.A d d' x y v u b (by omega) h r1 r2 rx ry).1 X.prog X.w X.xe _ ⟨.bl b,H,I,rfl,q⟩
theorem zVa (hr:Room k X.A):CmR X .NotEq zPN:=by
 refine⟨fun x y H Q=>∃G d d' b,Same G H/\Rep X.K G d x/\Rep X.K G d' y/\eqD 8 d d'=some b/\Q (.bl (!b)) H,?_,fun d d' k G H x y Q h s rx ry q=>?_⟩
 · intro pins s σ H x y v u Q I rx ry ⟨G,d,d',b,sub,r1,r2,h,q⟩
   have hu:=hr.units
   exact(zJk I sub 8 X.A d d' x y v u b (by omega) h r1 r2 rx ry).2.1 X.prog X.w X.xe _ ⟨.bl (!b),H,I,rfl,q⟩
 · unfold zPN at h
   obtain⟨b,h1,rfl⟩:=Qt.mp h
   exact⟨G,d,d',b,s,rx,ry,h1,q H G (.refl s)⟩
def zOi:D->Option V
 | .non=>some .non
 | .bl b=>some (.bl b)
 | .int i=>some (.int i)
 | .str x=>some (.str x)
 | _=>none
def zY3:List D->Option (List V)
 | []=>some []
 | d::r=>(zOi d).bind fun v=>(zY3 r).map fun vs=>v::vs
theorem zWd {K:PySem.W.Frag}{G:Hp}{d:D}{v x:V}(h:zOi d=some v)(r:Rep K G d x):x=v/\iN v=true:=by
 cases d with
 | non=>cases h;exact⟨uO.mp r,rfl⟩
 | bl b=>cases h;exact⟨w6.mp r,rfl⟩
 | int i=>cases h;exact⟨zG.mp r,rfl⟩
 | str i=>cases h;exact⟨yM.mp r,rfl⟩
 | _=>cases h
theorem cH {K:PySem.W.Frag}{G:Hp}:∀ {ds:List D} {vs xs:List V},zY3 ds=some vs->Reps K G ds xs->xs=vs/\vs.all iN=true
 | [],_,_,h,r=>by cases h;rw[yV] at r;exact⟨r,rfl⟩
 | d::t,_,_,h,r=>by
   unfold zY3 at h
   obtain⟨v,h1,h⟩:=Qq.mp h
   obtain⟨vs,h2,rfl⟩:=Qt.mp h
   obtain⟨x,xr,rfl,r1,r2⟩:=zE.mp r
   obtain⟨rfl,f1⟩:=zWd h1 r1
   obtain⟨rfl,f2⟩:=cH h2 r2
   exact⟨rfl,by rw[Yr,f1,f2];rfl⟩
def zUm (x y:D):Option Bool:=(zOi x).bind fun v=>match y with
 | .lst ds=>(zY3 ds).map fun vs=>inV v vs
 | .tup ds=>(zY3 ds).map fun vs=>inV v vs
 | _=>none
theorem zLB {K:PySem.W.Frag}{G H:Hp}{d d':D}{x y:V}{k:Bool}(h:zUm d d'=some k)(s:Same G H)(rx:Rep K G d x)(ry:Rep K G d' y):∃p xs,y = .ref p/\(SqL K H p xs∨SqT K H p xs)/\iN x=true/\xs.all iN=true/\k=inV x xs:=by
 unfold zUm at h
 obtain⟨v,h1,h⟩:=Qq.mp h
 obtain⟨rfl,f1⟩:=zWd h1 rx
 cases d' with
 | lst ds =>
   obtain⟨vs,h2,rfl⟩:=Qt.mp h
   obtain⟨p,xs,rfl,q1,q2⟩:=xH.mp ry
   obtain⟨rfl,f2⟩:=cH h2 q2
   exact⟨p,_,rfl,.inl (s.seq q1),f1,f2,rfl⟩
 | tup ds =>
   obtain⟨vs,h2,rfl⟩:=Qt.mp h
   obtain⟨p,xs,rfl,q1,q2⟩:=yF.mp ry
   obtain⟨rfl,f2⟩:=cH h2 q2
   exact⟨p,_,rfl,.inr (s.tup q1),f1,f2,rfl⟩
 | _=>cases h
theorem zRK:CmR X .In zUm:=⟨_,zPV,fun d d' k G H x y Q h s rx ry q=>by
 obtain⟨p,xs,e1,e2,e3,e4,rfl⟩:=zLB h s rx ry
 exact⟨p,xs,e1,e2,e3,e4,q H G (.refl s)⟩⟩
def zRP (x:Int):List Int->List Int
 | []=>[x]
 | y::r=>if x<=y then x::y::r else y::zRP x r
def zZd:List Int->List Int
 | []=>[]
 | x::r=>zRP x (zZd r)
theorem zZV (x:Int):∀l:List Int,(zRP x l).Perm (x::l)
 | []=>.refl _
 | y::r=>by
   unfold zRP
   split
   · exact .refl _
   · exact(List.Perm.cons y (zZV x r)).trans (List.Perm.swap x y r)
theorem cC:∀l:List Int,(zZd l).Perm l
 | []=>.refl _
 | x::r=>(zZV x (zZd r)).trans (.cons x (cC r))
theorem zZo (x:Int):∀l:List Int,l.Pairwise (· <= ·)->(zRP x l).Pairwise (· <= ·)
 | [],_=>by unfold zRP;simp
 | y::r,h=>by
   unfold zRP
   split
   · rename_i hxy
     refine Tl.mpr ⟨fun z hz=>?_,h⟩
     rcases Qa.mp hz with q | q
     · rw[q];exact hxy
     · exact Int.le_trans hxy ((Tl.mp h).1 z q)
   · rename_i hxy
     refine Tl.mpr ⟨fun z hz=>?_,zZo x r (Tl.mp h).2⟩
     rcases Qa.mp ((zZV x r).mem_iff.mp hz) with q | q
     · rw[q];omega
     · exact(Tl.mp h).1 z q
theorem bK:∀l:List Int,(zZd l).Pairwise (· <= ·)
 | []=>.nil
 | x::r=>zZo x _ (bK r)
theorem zSH {l m:List Int}(hp:l.Perm m)(hl:l.Pairwise (· <= ·))(hm:m.Pairwise (· <= ·)):l=m:=hp.eq_of_pairwise (fun a b _ _ h1 h2=>Int.le_antisymm h1 h2) hl hm
def zST:List D->Option (List Int)
 | []=>some []
 | .int i::r=>(zST r).map fun is=>i::is
 | _=>none
theorem zZ2 {K:PySem.W.Frag}{G:Hp}:∀ {ds:List D} {is:List Int} {vs:List V},zST ds=some is->Reps K G ds vs->vs=is.map V.int
 | [],_,_,h,r=>by cases h;rw[yV] at r;rw[r];rfl
 | d::t,_,_,h,r=>by
   unfold zST at h
   split at h
   · rename_i h';cases h'
   · rename_i k t' h'
     cases h'
     obtain⟨v,vr,rfl,r1,r2⟩:=zE.mp r
     obtain⟨ks,h1,rfl⟩:=Qt.mp h
     rw[zZ2 h1 r2,zG.mp r1];rfl
   · cases h
theorem zV7:CallR X (.builtin "sorted") (fun xs H Q=>∃(q:Addr) (ns:List Int),xs=[V.ref q]/\SqL X.K H q (ns.map V.int)/\ns.length < 64/\∀l,H l=none->Q (.ref l) (upd H l (.lst ((zZd ns).map V.int)))):=by
 intro pins s σ H xs us Q I r h
 obtain⟨q,ns,rfl,hq,hl,k⟩:=h
 obtain⟨u,rfl,ru⟩:=qJ r
 cases ru
 obtain⟨its,rv,pl,hz⟩:=I.list hq
 have hi:=zR8 rv
 have hlen:its.length < 64:=by rw[←rv.length,Qy];exact hl
 refine sorted_ints pl.isList hi hlen fun out ns' a1 a2 a3=>?_
 obtain⟨e,he⟩:=sortedAll_at s.heap its out
 have en:ns'=zZd ns:=zSH (a2.trans (cC ns).symm) a3 (bK ns)
 subst en
 have hsz:s.heap.objs.size<=s.heap.objs.size+1:=Yo _
 refine⟨.ref (s.heap.objs.size+1),_,I.laid (t':=s.toks) (o:=.lst ((zZd ns).map V.int)) (fun b o e=>sortedAll_old e) hsz ?_,rfl,k _ (I.hok.fresh hsz)⟩
 refine⟨?_,out.toList,e,zZz a1,by simpa [seqObj] using he⟩
 rw[Qy,(cC ns).length_eq]
 exact Wx (vO (by show ns.length<=100000;omega))
theorem zWt {K:PySem.W.Frag}{G:Hp}:∀ns:List Int,Reps K G (ns.map .int) (ns.map V.int)
 | []=>yV.mpr rfl
 | n::r=>zE.mpr ⟨_,_,rfl,zG.mpr rfl,zWt r⟩
def zVM (g:Lf):Lf:=fun ρ=>(g ρ).bind fun ds=>(zST ds).bind fun ns=>if ns.length < 64 then some ((zZd ns).map .int) else none
theorem zPQ (hg:Gl X "sorted")(hm:X.mg "sorted"=none)(h:zUB X a ga)(hs:starEach [a] X.env=[(false,eval a X.env)]:=by rfl):PFr X (.Call (.Name "sorted" p) [a] [] pos) (zVM ga):=by
 refine PE.toR (qV zV7 hg hm (by rfl) (yY h yK (by rw[hs];rfl)) (by decide) (by decide) (by rw[hs];rfl) (by rfl)) ?_
 rintro σ H Q ⟨G0,H0,G,ρ,d,good,hf,k⟩
 unfold zVM at hf
 obtain⟨ds,h1,hf⟩:=Qq.mp hf
 obtain⟨ns,h2,hf⟩:=Qq.mp hf
 split at hf
 · rename_i hl
   cases hf
   refine⟨G0,H0,G,ρ,_,good,h1,fun q vs H1 G1 s1 hq rs=>?_⟩
   have e:=zZ2 h2 rs
   subst e
   refine⟨q,ns,rfl,s1.sub.seq hq,hl,fun l hl'=>?_⟩
   exact k l _ _ G1 (s1.trans (Step.own s1.sub hl')) (s1.hh.free hl') yX (s1.sub.free hl') (zWt _)
 · cases hf
end
def Its (x:Str):It:=⟨fun i _=>i < x.cps.size,fun i H y H'=>H'=H/\∃c,x.cps[i]?=some c/\y = .str ⟨#[c]⟩,fun i _=>x.cps.size<=i⟩
theorem zOr {P:Program}{w:World}{K:PySem.W.Frag}{tg:Expr}(it:Addr)(ty:String)(hty:ty="str_ascii_iterator"∨ty="str_iterator")(x:Str)(t:Tok):Turn P w K tg (Its x) [it] it (fun i h=>h.IsStrIter it ty x t i) where
 mem:=by simp
 obj:=fun i h st b hb=>by
   have e:b=it:=by simpa using hb
   subst e
   obtain⟨o,e,c,d⟩:=st
   exact⟨o,e,fun v z=>by rw[d] at z;cases z⟩
 keep:=fun i h h' st k=>by
   obtain⟨o,e,r⟩:=st
   exact⟨o,k it (by simp) o e,r⟩
 item:=by
   intro X hP hw hK hc i pins s σ H E I hf st hg
   subst hP hw hK
   obtain⟨f0,f1,f2,f3,f4,f5⟩:=hf it (by simp)
   have hg:i < x.cps.size:=hg
   have hx:x.cps[i]?=some x.cps[i]:=by simp[hg]
   rcases hty with rfl | rfl
   · refine wpAny_pyNext_ascii_item st hx fun h' st' sb=>?_
     have I1:Inv X pins σ H { s with heap:=h',toks:=s.toks+1 }:=I.turned (t':=s.toks+1) (fun b o hb e=>(sb.2 b hb).trans e) f0 f1 f3 f4 f5
     obtain⟨o,e,c,d⟩:=id st'
     exact⟨_,rfl,zTf (s:={ s with heap:=h',toks:=s.toks+1 }) e c d (by decide) ⟨.str ⟨#[x.cps[i]]⟩,H,I1,⟨_,rfl⟩,⟨rfl,_,hx,rfl⟩,st',fun b hb=>(hf b hb).1⟩⟩
   · refine wpAny_pyNext_wide_item st hx fun h' st' sb=>?_
     have I1:Inv X pins σ H { s with heap:=h',toks:=s.toks+1 }:=I.turned (t':=s.toks+1) (fun b o hb e=>(sb.2 b hb).trans e) f0 f1 f3 f4 f5
     obtain⟨o,e,c,d⟩:=id st'
     exact⟨_,rfl,zTf (s:={ s with heap:=h',toks:=s.toks+1 }) e c d (by decide) ⟨.str ⟨#[x.cps[i]]⟩,H,I1,⟨_,rfl⟩,⟨rfl,_,hx,rfl⟩,st',fun b hb=>(hf b hb).1⟩⟩
 done:=by
   intro X hP hw hK hc i pins s σ H E I hf st hg
   subst hP hw hK
   obtain⟨f0,f1,f2,f3,f4,f5⟩:=hf it (by simp)
   have hg:x.cps.size<=i:=hg
   have hx:x.cps[i]?=none:=by simp[hg]
   rcases hty with rfl | rfl
   · exact wpAny_pyNext_ascii_end (I.ok.hd hc) st hx fun h' eb=>⟨rfl,I.turned (t':=s.toks) (fun b o hb e=>eb b o hb e) f0 f1 f3 f4 f5⟩
   · exact wpAny_pyNext_wide_end (I.ok.hd hc) st hx fun h' eb=>⟨rfl,I.turned (t':=s.toks) (fun b o hb e=>eb b o hb e) f0 f1 f3 f4 f5⟩
 self:=fun _ _ _ _ _ st h=>by
   rcases hty with rfl | rfl
   · exact wpAny_pyIter_striter_ascii st h
   · exact wpAny_pyIter_striter_wide st h
def iP (x:Str):List D:=x.cps.toList.map fun c=>.str ⟨#[c]⟩
theorem zSA {K:PySem.W.Frag}{G:Hp}{x:Str}:hV K (Its x) G (iP x):=by
 intro i G2 H2 s1 s2
 have hl:(iP x).length=x.cps.size:=by simp[iP]
 refine⟨fun d hd=>?_,fun hi=>by rw[hl] at hi;exact hi⟩
 have hi:i < x.cps.size:=by rw[←hl];exact(Qm.mp hd).1
 refine⟨hi,fun y H3 q=>?_⟩
 obtain⟨rfl,c,hc,rfl⟩:=q
 unfold iP at hd
 rw[Wp,Array.getElem?_toList,hc] at hd
 cases hd
 exact⟨G2,.refl s2,yM.mpr rfl⟩
section
variable {X:Cx} {a b c e tg:Expr} {fa fb fc:Ef} {pos:Pos} {st:Stmt}
def zHd (tl:TE):TI:=fun σ H R=>tl σ H fun x H1=>∃z,x = .str z/\R (Its z) H1
theorem zL9 {l:Expr}{tl:TE}(hl:PE X l tl):PI X tg l (zHd tl):=by
 intro pins s σ H R I h
 refine thn (hl pins s σ H _ I h) fun v s1 ⟨x,H1,I1,r1,q1⟩=>?_
 obtain⟨z,e,q⟩:=q1
 subst e
 obtain⟨t,rfl⟩:=r1
 have fin:∀(o:Obj) (ty:String),(ty="str_ascii_iterator"∨ty="str_iterator")->(s1.heap.push o).IsStrIter s1.heap.objs.size ty z t 0->PIE X pins σ tg R (.ref s1.heap.objs.size) { s1 with heap:=s1.heap.push o }:=fun o ty hty st=>by
   refine⟨s1.heap.objs.size,[s1.heap.objs.size],_,_,H1,rfl,I1.kept (t':=s1.toks) fun b o e=>Qr _ e,zOr _ ty hty z t,st,fun b hb=>?_,q⟩
   have e:b=s1.heap.objs.size:=by simpa using hb
   subst e
   exact I1.fpOk (Ql _) (I1.hok.fresh (Ql _))
 cases ha:z.cps.all (· < 128)
 · exact wpAny_pyIter_wide ha (fin _ _ (.inr rfl) ⟨_,Qk _ rfl,rfl,rfl⟩)
 · exact wpAny_pyIter_ascii ha (fin _ _ (.inl rfl) ⟨_,Qk _ rfl,rfl,rfl⟩)
def iS (f:Ef):Lf:=fun ρ=>(f ρ).bind fun d=>match d with | .str x=>some (iP x) | _=>none
theorem zLI (h:PF X e fa):PFI X tg e (iS fa):=by
 refine PI.to (zL9 h) ?_
 rintro σ H R ⟨G0,H0,G,ρ,ds,good,hf,k⟩
 unfold iS at hf
 obtain⟨d,h1,hf⟩:=Qq.mp hf
 cases d with
 | str x =>
   cases hf
   refine⟨G0,H0,G,ρ,_,good,h1,fun v H1 G1 s1 r1=>?_⟩
   exact⟨x,yM.mp r1,k _ H1 G1 s1 zSA⟩
 | _=>cases hf
def gIn:D->D->Option Bool | .str i,.str j=>some (!(Builtin.Str.occurrences j i 0 j.length 1).isEmpty) | _,_=>none
theorem zHZ:CmR X .In gIn:=⟨_,zQc,fun d d' k G H x y Q h s rx ry q=>by
 unfold gIn at h
 split at h
 · cases h;exact⟨_,_,yM.mp rx,yM.mp ry,q H G (.refl s)⟩
 · cases h⟩
def eB3 (g g':D->D->Option Bool)(fa fb fc:Ef):Tf:=fun ρ=>(fa ρ).bind fun x=>(fb ρ).bind fun y=>(g x y).bind fun k=>if k=true then(fc ρ).bind fun z=>g' y z else some false
theorem zMG {op op':CmpOp}{g g':D->D->Option Bool}(hc1:CmR X op g)(hc2:CmR X op' g')(ha:PF X a fa)(hb:PF X b fb)(hc:PF X c fc)(hm:lastMarks [op,op'] [b,c]=false:=by with_unfolding_all rfl):PF X (.Compare a [op,op'] [b,c] pos) (vI (eB3 g g' fa fb fc)):=by
 obtain⟨r,ho,hr⟩:=hc1
 obtain⟨r',ho',hr'⟩:=hc2
 refine PE.to (zO1 ho ho' ha hb hc hm) ?_
 rintro σ H Q ⟨G0,H0,G,ρ,d,good,hf,k⟩
 obtain⟨b',hf2,rfl⟩:=zXK hf
 unfold eB3 at hf2
 obtain⟨x,h1,hf2⟩:=Qq.mp hf2
 obtain⟨y,h2,hf2⟩:=Qq.mp hf2
 obtain⟨kk,h3,hf2⟩:=Qq.mp hf2
 refine⟨G0,H0,G,ρ,_,good,h1,fun u H1 G1 s1 r1=>⟨G0,H0,G1,ρ,_,good.step s1,h2,fun v H2 G2 s2 r2=>?_⟩⟩
 refine hr x y kk G2 H2 u v _ h3 s2.sub (r1.mono s2.gg) r2 fun H3 G3 s3=>⟨kk,rfl,?_⟩
 split at hf2
 · rename_i hk
   rw[Qb hk]
   obtain⟨z,h4,hf3⟩:=Qq.mp hf2
   refine⟨G0,H0,G3,ρ,_,((good.step s1).step s2).step s3,h4,fun w' H4 G4 s4 r4=>?_⟩
   exact hr' y z b' G4 H4 v w' Q hf3 s4.sub ((r2.mono s3.gg).mono s4.gg) r4 fun H5 G5 s5=>k _ _ G5 ((((s1.trans s2).trans s3).trans s4).trans s5) (w6.mpr rfl)
 · rename_i hk
   rw[Ws hk];cases hf2
   exact k _ _ G3 ((s1.trans s2).trans s3) (w6.mpr rfl)
def zJ1:D->D->Option D
 | .int i,.int j=>some (.int (i+j))
 | .str i,.str j=>if i.length+j.length<=lim then some (.str (i++j)) else none
 | _,_=>none
def xX (fa fb:Ef):Ef:=fun ρ=>(fa ρ).bind fun x=>(fb ρ).bind fun y=>zJ1 x y
theorem xC (ha:PF X a fa)(hb:PF X b fb):PF X (.BinOp a .Add b pos) (xX fa fb):=by
 refine PE.to (zXT (zOz.or zSh) ha hb) ?_
 rintro σ H Q ⟨G0,H0,G,ρ,d,good,hf,k⟩
 unfold xX at hf
 obtain⟨x,h1,hf⟩:=Qq.mp hf
 obtain⟨y,h2,hf⟩:=Qq.mp hf
 refine⟨G0,H0,G,ρ,_,good,h1,fun u H1 G1 s1 r1=>⟨G0,H0,G1,ρ,_,good.step s1,h2,fun v H2 G2 s2 r2=>?_⟩⟩
 have r1:=r1.mono s2.gg
 unfold zJ1 at hf
 split at hf
 · cases hf;exact .inl ⟨_,_,zG.mp r1,zG.mp r2,k _ _ G2 (s1.trans s2) (zG.mpr rfl)⟩
 · split at hf
   · rename_i hz;cases hf;exact .inr ⟨_,_,yM.mp r1,yM.mp r2,Wx (vO hz),k _ _ G2 (s1.trans s2) (yM.mpr rfl)⟩
   · cases hf
 · cases hf
def zK6:V->List V->Hp->VK->Prop:=fun x vs H Q=>∃a b,x = .str a/\vs=[.str b]/\Q (.int (Txt.find a b)) H
theorem zVL:MtR X "str.find" zK6:=by
 intro pins s σ H x xs v us Q I rx rv h
 obtain⟨a,b,rfl,rfl,q⟩:=h
 obtain⟨t,rfl⟩:=rx
 obtain⟨u,rfl,t',rfl⟩:=rv.one
 exact SC.find ⟨.int _,H,I.tok _,⟨_,rfl⟩,q⟩
def zTT (fa fb:Ef):Ef:=fun ρ=>(fa ρ).bind fun x=>(fb ρ).bind fun y=>match x,y with | .str a,.str b=>some (.int (Txt.find a b)) | _,_=>none
theorem zUF (ht:PE X c (tBM X.K "str" zK6 (tF X.K fa) (zY7 (tF X.K fb) zSb))):PF X c (zTT fa fb):=by
 refine PE.to ht ?_
 rintro σ H Q ⟨G0,H0,G,ρ,d,good,hf,k⟩
 unfold zTT at hf
 obtain⟨x,h1,hf⟩:=Qq.mp hf
 obtain⟨y,h2,hf⟩:=Qq.mp hf
 split at hf
 · cases hf
   refine⟨G0,H0,G,ρ,_,good,h1,fun u H1 G1 s1 r1=>?_⟩
   have r1:=yM.mp r1
   subst r1
   refine⟨rfl,G0,H0,G1,ρ,_,good.step s1,h2,fun v H2 G2 s2 r2=>?_⟩
   have r2:=yM.mp r2
   subst r2
   exact⟨_,_,rfl,rfl,k _ _ G2 (s1.trans s2) (zG.mpr rfl)⟩
 · cases hf
end
section
variable {X:Cx} {a b c e:Expr} {fa fb:Ef} {ga gb:Lf} {pos p:Pos}
def sB (f:Ef):Ef:=fun ρ=>(f ρ).bind fun d=>match d with | .int i=>if i.natAbs.log2 < 1920 then some (.str (Str.ofString (toString i))) else none | _=>none
theorem bV (hg:Gl X "str")(hm:X.mg "str"=none)(h:PF X a fa)(hs:starEach [a] X.env=[(false,eval a X.env)]:=by rfl):PF X (.Call (.Name "str" p) [a] [] pos) (sB fa):=by
 refine PE.to (qC aJ hg hm (by rfl) (yY h yK (by rw[hs];rfl)) (by decide) (by decide) (by rw[hs];rfl) (by rfl)) ?_
 rintro σ H Q ⟨G0,H0,G,ρ,d,good,hf,k⟩
 unfold sB at hf
 obtain⟨x,h1,hf⟩:=Qq.mp hf
 refine⟨G0,H0,G,ρ,_,good,h1,fun v H1 G1 s1 r1=>?_⟩
 cases x with
 | int i =>
   dsimp only at hf
   split at hf
   · rename_i hz
     cases hf
     exact⟨i,by rw[zG.mp r1],hz,k _ _ G1 s1 (yM.mpr rfl)⟩
   · cases hf
 | _=>cases hf
theorem zQl:CallR X (.type "int") (fun xs H Q=>∃x n,xs=[.str x]/\x.length<=640/\PySem.intText? x=some n/\Q (.int n) H):=by
 intro pins s σ H xs us Q I r h
 obtain⟨x,n,rfl,hl,hn,q⟩:=h
 obtain⟨u,rfl,t,rfl⟩:=qJ r
 exact PySem.W.KIN.call_text hn hl ⟨.int n,H,I.tok _,⟨_,rfl⟩,q⟩
def zMe:D->Option D
 | .int i=>some (.int i)
 | .bl k=>some (.int (if k then 1 else 0))
 | .str x=>if x.length<=640 then(PySem.intText? x).map .int else none
 | _=>none
def sS (f:Ef):Ef:=fun ρ=>(f ρ).bind zMe
theorem fS (hg:Gl X "int")(hm:X.mg "int"=none)(h:PF X a fa)(hs:starEach [a] X.env=[(false,eval a X.env)]:=by rfl):PF X (.Call (.Name "int" p) [a] [] pos) (sS fa):=by
 refine PE.to (qC (zPt.or zQl) hg hm (by rfl) (yY h yK (by rw[hs];rfl)) (by decide) (by decide) (by rw[hs];rfl) (by rfl)) ?_
 rintro σ H Q ⟨G0,H0,G,ρ,d,good,hf,k⟩
 unfold sS at hf
 obtain⟨x,h1,hf⟩:=Qq.mp hf
 refine⟨G0,H0,G,ρ,_,good,h1,fun v H1 G1 s1 r1=>?_⟩
 unfold zMe at hf
 split at hf
 · cases hf;exact .inl (.inl ⟨_,by rw[zG.mp r1],k _ _ G1 s1 (zG.mpr rfl)⟩)
 · cases hf;exact .inl (.inr ⟨_,by rw[w6.mp r1],k _ _ G1 s1 (zG.mpr rfl)⟩)
 · split at hf
   · rename_i hz
     obtain⟨n,h2,rfl⟩:=Qt.mp hf
     exact .inr ⟨_,n,by rw[yM.mp r1],hz,h2,k _ _ G1 s1 (zG.mpr rfl)⟩
   · cases hf
 · cases hf
def zLe (fa fb:Ef):Ef:=fun ρ=>(fa ρ).bind fun x=>(fb ρ).bind fun y=>match x,y with | .int i,.int j=>some (.int (if j > i then j else i)) | _,_=>none
theorem zJK (hc:X.calm=true)(hg:Gl X "max")(hm:X.mg "max"=none)(ha:PF X a fa)(hb:PF X b fb)(hs:starEach [a,b] X.env=[(false,eval a X.env),(false,eval b X.env)]:=by rfl)(hs2:starEach [b] X.env=[(false,eval b X.env)]:=by rfl) :
   PF X (.Call (.Name "max" p) [a,b] [] pos) (zLe fa fb):=by
 refine PE.to (qV (zPv hc) hg hm (by rfl) (yY ha (yY hb yK (by rw[hs2];rfl)) (by rw[hs,hs2])) (by decide) (by decide) (by rw[hs,hs2]) (by rw[hs2];rfl)) ?_
 rintro σ H Q ⟨G0,H0,G,ρ,d,good,hf,k⟩
 unfold zLe at hf
 obtain⟨x,h1,hf⟩:=Qq.mp hf
 obtain⟨y,h2,hf⟩:=Qq.mp hf
 refine⟨G0,H0,G,ρ,_,good,h1,fun u H1 G1 s1 r1=>⟨G0,H0,G1,ρ,_,good.step s1,h2,fun v H2 G2 s2 r2=>?_⟩⟩
 split at hf
 · cases hf
   exact⟨_,_,by rw[zG.mp r1,zG.mp r2],k _ _ G2 (s1.trans s2) (zG.mpr rfl)⟩
 · cases hf
theorem zLU:OpR X (binaryOp .Mult) (rI IntMulOk fun i j=>.int (i*j)):=opI fun _ _ _ _ _ _ _ hc q=>mul_int q hc
theorem zLg:OpR X (binaryOp .Add) (fun x y H Q=>∃l b xs zs,x = .ref l/\y = .ref b/\SqL X.K H l xs/\SqL X.K H b zs/\xs.length+zs.length<=sizeLine/\∀p,H p=none->Q (.ref p) (upd H p (.lst (xs++zs)))):=by
 intro pins s σ H x y v u Q I rx ry h
 obtain⟨l,b,xs,zs,rfl,rfl,hH,hB,hz,q⟩:=h
 cases rx
 cases ry
 obtain⟨its,r,pl,_⟩:=I.list hH
 obtain⟨its2,r2,pl2,_⟩:=I.list hB
 obtain⟨⟨cls,dd,data,sl⟩,ho,hc,n,hd⟩:=pl.isList
 obtain⟨⟨cls2,dd2,data2,sl2⟩,ho2,hc2,n2,hd2⟩:=pl2.isList
 simp only at hc hd hc2 hd2
 subst hc hd hc2 hd2
 have hl:=r.length
 have hl2:=r2.length
 have e:its.toArray++its2.toArray=(its++its2).toArray:=by simp
 refine Ic ⟨_,ho,rfl⟩ ⟨_,ho2,rfl⟩ noFill_list_add seq_list_add PySem.F.slot_list_add PySem.F.entry_list_add (PySem.F.args_list_add_2 _ _) (list_addW l b its.toArray its2.toArray n n2 dd dd2 sl sl2 (by rw[Qg,Qg];omega)) ⟨ho,ho2,?_⟩
 rw[e]
 exact⟨.ref _,_,I.lnew (t':=s.toks) (r.append r2) (by rw[Wq];omega),rfl,q _ I.fresh⟩
theorem zUA (ha:zUB X a ga)(hb:zUB X b gb):PFr X (.BinOp a .Add b pos) (zTQ ga gb):=by
 refine PE.toR (zXT zLg ha hb) ?_
 rintro σ H Q ⟨G0,H0,G,ρ,d,good,hf,k⟩
 unfold zTQ at hf
 obtain⟨xs,h1,hf⟩:=Qq.mp hf
 obtain⟨ys,h2,hf⟩:=Qq.mp hf
 obtain⟨rfl,h3⟩:=aO hf
 refine⟨G0,H0,G,ρ,_,good,h1,fun p vs H1 G1 s1 hq rs=>⟨G0,H0,G1,ρ,_,good.step s1,h2,fun q us H2 G2 s2 hq2 rs2=>?_⟩⟩
 refine⟨p,q,vs,us,rfl,rfl,(s1.sub.trans s2.hh).seq hq,s2.sub.seq hq2,?_,fun l hl=>?_⟩
 · rw[←rs.length,←rs2.length,←Wq];exact Wx (vO h3)
 · have s3:=Step.own (o:=.lst (vs++us)) s2.sub hl
   exact k l _ _ G2 ((s1.trans s2).trans s3) ((s1.trans s2).hh.free hl) yX (s2.sub.free hl) ((rs.mono s2.gg).append rs2)
def zWA:List D->Option (List Str)
 | []=>some []
 | .str x::r=>(zWA r).map fun xs=>x::xs
 | _=>none
theorem zWl {K:PySem.W.Frag}{G:Hp}:∀ {ds:List D} {ys:List Str} {vs:List V},zWA ds=some ys->Reps K G ds vs->vs=ys.map V.str
 | [],_,_,h,r=>by cases h;rw[yV] at r;rw[r];rfl
 | d::t,_,_,h,r=>by
   unfold zWA at h
   split at h
   · rename_i h';cases h'
   · rename_i k t' h'
     cases h'
     obtain⟨v,vr,rfl,r1,r2⟩:=zE.mp r
     obtain⟨ks,h1,rfl⟩:=Qt.mp h
     rw[zWl h1 r2,yM.mp r1];rfl
   · cases h
theorem zSe {ns:List Str}:∀ {us:List Value},Vals (ns.map V.str) us->StrsAre us ns:=by
 induction ns with
 | nil=>intro us r;rw[Wv] at r;cases r;exact .nil
 | cons n ns ih =>
   intro us r
   rw[Qp] at r
   cases r with
   | cons r1 r2 =>
     obtain⟨t,e⟩:=r1
     subst e
     exact .cons n t (ih r2)
def zKw (K:PySem.W.Frag):V->List V->Hp->VK->Prop:=fun x vs H Q=>∃z p ys,x = .str z/\vs=[.ref p]/\SqL K H p (ys.map V.str)/\(ys.map (·.length)).sum+ys.length*z.length<=16777216/\Q (.str (Txt.join z ys)) H
theorem bG:MtR X "str.join" (zKw X.K):=by
 intro pins s σ H x xs v us Q I rx rv h
 obtain⟨z,p,ys,rfl,rfl,hq,hz,q⟩:=h
 obtain⟨t,rfl⟩:=rx
 obtain⟨u,rfl,ru⟩:=rv.one
 cases ru
 obtain⟨its,r,pl,_⟩:=I.list hq
 exact join_list pl.isList (by simpa using zSe r) hz fun t' k=>⟨.str _,H,I.tok k,⟨t',rfl⟩,q⟩
def oZ (fa:Ef)(ga:Lf):Ef:=fun ρ=>(fa ρ).bind fun x=>(ga ρ).bind fun ds=>match x with | .str z=>(zWA ds).bind fun ys=>if (ys.map (·.length)).sum+ys.length*z.length<=100000 then some (.str (Txt.join z ys)) else none | _=>none
theorem aM (ht:PE X c (tBM X.K "str" (zKw X.K) (tF X.K fa) (zY7 (zMg X.K ga) zSb))):PF X c (oZ fa ga):=by
 refine PE.to ht ?_
 rintro σ H Q ⟨G0,H0,G,ρ,d,good,hf,k⟩
 unfold oZ at hf
 obtain⟨x,h1,hf⟩:=Qq.mp hf
 obtain⟨ds,h2,hf⟩:=Qq.mp hf
 cases x with
 | str z =>
   dsimp only at hf
   obtain⟨ys,h3,hf⟩:=Qq.mp hf
   split at hf
   · rename_i hz
     cases hf
     refine⟨G0,H0,G,ρ,_,good,h1,fun u H1 G1 s1 r1=>?_⟩
     have r1:=yM.mp r1
     subst r1
     refine⟨rfl,G0,H0,G1,ρ,_,good.step s1,h2,fun q vs H2 G2 s2 hq rs=>?_⟩
     have e:=zWl h3 rs
     subst e
     exact⟨z,q,ys,rfl,rfl,s2.sub.seq hq,Ey hz (by decide),k _ _ G2 (s1.trans s2) (yM.mpr rfl)⟩
   · cases hf
 | _=>cases hf
structure FunD (K:PySem.W.Frag)(x qual:Str)(st:Stmt)(f:Addr)(fd:FuncData):Prop where
 ex:∃(oc:Value) (od:Option Addr) (dV kV doc pm:Value) (an:Option Addr) (cdv ct:Value) (osl:Array (Option Value)),
   fd=PySem.W.fnOf x qual (vC st) (wJ st) (zS st) dV kV doc pm an cdv ct/\K.lookup f=some ⟨oc,od,.func fd,osl⟩/\PySem.W.codeIn K cdv qual=true
 kp:PySem.W.keepIn K (.ref f)=true
variable {P:Program} {w:World} {K:PySem.W.Frag} {mg:Str->Option Value} {base:Heap} {x qual:Str} {st:Stmt} {f:Addr} {fd:FuncData} {N ps:List Str} {k:Nat}
theorem zJF {body:Sf}(F:FunD K x qual st f fd)(S:FnScope N ps (zS st))
   (hb:∀(cdv:Value) (A:Around) (outer:List Env) (s:Shared) (H:Hp) (E:XK),Room k (A.deeper (envOfC qual (zS st) s.heap.objs.size f cdv))->dX (zXs CX0 P w K mg base N qual (zS st) f cdv A outer s H E).nox (wJ st) body) :
   FnOk P w K mg base CX0 (k+1) f fd ps (spF K ps.length (fnF N.length body)):=by
 obtain⟨oc,od,dV,kV,doc,pm,an,cdv,ct,osl,rfl,lk,hcd⟩:=F.ex
 refine zK3 lk hcd S (fun vs H Q E h=>?_) fun A outer s H vs Q E hr h=>?_
 · obtain⟨G,ds,d,sub,rs,hl,_⟩:=h
   rw[←rs.length];exact hl
 · obtain⟨G,ds,d,sub,rs,hl,hf,k⟩:=h
   unfold fnF at hf
   obtain⟨o,h1,h2⟩:=Qq.mp hf
   refine⟨_,PSs.nox (hb cdv A outer s H E hr),G,H,G,_,o,cG sub rs,h1,?_⟩
   cases o with
   | nx ρ=>cases h2;exact fun σ' H' G' s' g'=>k .non H' G' g'.st (uO.mpr rfl)
   | rt e=>cases h2;exact fun v H' G' s' r=>k v H' G' s' r
   | rl es=>cases h2;exact fun p us H' G' s' hn hp gp r=>k _ H' (upd G' p (.lst us)) (s'.frz hn hp gp) (xH.mpr ⟨p,us,rfl,.of yX,r.mono (Same.new gp)⟩)
   | bk ρ=>cases h2
   | ct ρ=>cases h2
variable {es:List Expr}
theorem zTe {k n m:Nat}{fad:Addr}{fd:FuncData}{ps:List Str}{x:Str}{fD:List D->Option D}(gD:List D->Option D)(F:FnOk X.prog X.w X.K X.mg X.base CX0 k fad fd ps (spF X.K n fD))(hgD:∀ds,gD ds=fD (ds++[.non]))(hr:Room k X.A)(hm:X.mg x=some (.ref fad))(hk:PySem.W.keepIn X.K (.ref fad)=true)(hb:Binds X.K fd ps [.none])(hg:Gl X x)
   (ha:PFA X (e::es) ga) (hn:n=m+1) (hdb:(x==("__debug__":Str))=false:=by decide) (he:starEach (e::es) X.env=(false,eval e X.env)::starEach es X.env:=by rfl) (hpl:(backTo pos (starEach es X.env)).any (·.1)=false:=by rfl) :
   PF X (.Call (.Name x p) (e::es) [] pos) (zO m gD ga):=by
 refine PE.to (zUS (E:=E0) F hr hg hm hk hb (dvs:=[.non]) (.cons rfl .nil) zQQ ha hdb he hpl) ?_
 rintro σ H Q ⟨G0,H0,G,ρ,d,good,hf,k⟩
 unfold zO at hf
 obtain⟨ds,h1,hf⟩:=Qq.mp hf
 split at hf
 · rename_i hl
   refine⟨G0,H0,G,ρ,_,good,h1,fun vs H1 G1 s1 r1=>?_⟩
   exact⟨G1,ds++[.non],d,s1.sub,r1.snoc (uO.mpr rfl),by rw[Wq,hl,hn];rfl,by rw[←hgD];exact hf,fun v H' G' s r=>k v H' G' (s1.trans s) r⟩
 · cases hf
end
theorem zYw {K:PySem.W.Frag}{G:Hp}{f:Str}{d:D}:∀ {ns:List Str} {ds:List D} {vs:List V},ns.length=ds.length->Reps K G ds vs->(ns.zip ds).lookup f=some d->∃u,(ns.zip vs).lookup f=some u/\Rep K G d u
 | [],_,_,_,_,h=>by simp at h
 | n::ns,[],_,hl,_,_=>by simp at hl
 | n::ns,e::ds,_,hl,r,h=>by
   obtain⟨v,vr,rfl,r1,r2⟩:=zE.mp r
   rw[List.zip_cons_cons,Eo] at h ⊢
   cases hq:f==n with
   | true=>rw[hq] at h;cases h;exact⟨v,rfl,r1⟩
   | false=>rw[hq] at h;exact zYw (by simpa using hl) r2 h
section
variable {X:Cx} {a c e:Expr} {fa:Ef} {pos p:Pos} {st:Stmt}
def wM (c f:Str)(fa:Ef):Ef:=fun ρ=>(fa ρ).bind fun d=>match d with | .obj c' ns ds=>if c'=c then(ns.zip ds).lookup f else none | _=>none
theorem tP {C:Addr}{c f:Str}(hC:ClsAt X.K c C)(hcl:Cls X.K C)(hn:NoAttr X.K C f)(ha:PF X a fa)(hb:attributeBase a f X.env (eval a X.env)=eval a X.env:=by rfl):PF X (.Attribute a f pos) (wM c f fa):=by
 refine PE.to (zJt ha hb) ?_
 rintro σ H Q ⟨G0,H0,G,ρ,d,good,hf,k⟩
 unfold wM at hf
 obtain⟨x,h1,hf2⟩:=Qq.mp hf
 cases x with
 | obj c' ns ds =>
   dsimp only at hf2
   by_cases hc:c'=c
   · rw[Qb hc] at hf2
     subst hc
     refine⟨G0,H0,G,ρ,_,good,h1,fun v H1 G1 s1 r1=>?_⟩
     obtain⟨C',q,dx,vs,e0,rfl,e1,e2,e3⟩:=zYM.mp r1
     have ec:=hC.one e0
     subst ec
     obtain⟨u,e4,e5⟩:=zYw e2 e3 hf2
     exact⟨q,_,dx,ns.zip vs,u,rfl,s1.sub _ _ e1,hcl,hn,e4,k _ _ G1 s1 e5⟩
   · rw[Ws hc] at hf2;cases hf2
 | _=>cases hf2
theorem zTz {f:Str}{y:V}:∀ {ns:List Str} {vs:List V},ns.length=vs.length->f∉ns->iB f y (ns.zip vs)=(ns++[f]).zip (vs++[y])
 | [],[],_,_=>rfl
 | [],_::_,h,_=>by simp at h
 | _::_,[],h,_=>by simp at h
 | n::ns,v::vs,h,hf=>by
   show(if n=f then _ else(n,v)::iB f y (ns.zip vs))=_
   rw[Ws (fun z=>hf (by rw[z];exact Qh)),zTz (by simpa using h) (fun z=>hf (Qd _ z))]
   rfl
def zMn (K:PySem.W.Frag)(C:Addr)(ns:List Str)(g:Lf):TS:=fun DD σ H=>∃(G0 H0 G:Hp) (ρ:List B) (p dx:Addr) (pre:List Str) (us:List V) (xs ds:List D),
 Good K G0 H0 G H σ ρ/\zXt ρ/\σ[0]?=some (some (.ref p))/\H p=some (.ins C dx (pre.zip us))/\G p=none/\H0 p=none/\pre.length=us.length/\(pre++ns).Nodup/\(pre++ns).length<=900/\Reps K G xs us/\g ρ=some ds /\
 ∀H' G' vs,Step G0 H0 G' H'->H' p=some (.ins C dx ((pre++ns).zip vs))->G' p=none->Reps K G' (xs++ds) vs->DD.nx σ H'
theorem zUY {C:Addr}:PSs X [] (zMn X.K C [] zR):=by
 intro pins s σ H D I h
 refine zRl pins s σ H D I ?_
 obtain⟨G0,H0,G,ρ,p,dx,pre,us,xs,ds,good,now,hs,hp,gp,h0,hl,nd,hz,rs,hg,k⟩:=h
 cases hg
 rw[Er] at k
 exact k H G us good.st (by rw[Er] at *;exact hp) gp (by rw[Er];exact rs)
theorem tO {C:Addr}{f x:Str}{ns:List Str}{g:Lf}{rest:List Stmt}{pos' p1:Pos}(hcl:Cls X.K C)(hn:NoAttr X.K C f)(hself:X.N[0]?=some x)(hvis:Vis X.env.scope x)(he:PF X e fa)(hr:PSs X rest (zMn X.K C ns g))(hd:(x==("__debug__":Str))=false:=by decide)(hcd:(x==("__classdict__":Str))=false:=by decide)
   (hs:swapsWith e (some (.Attribute (.Name x p1) f pos')) pos.line X.env=pure false:=by rfl):PSs X (.Assign [.Attribute (.Name x p1) f pos'] e pos::rest) (zMn X.K C (f::ns) (zY fa g)):=by
 intro pins s σ H D I h
 refine zTl (zJJ (lL hself hvis hd hcd) he hs) hr pins s σ H D I ?_
 obtain⟨G0,H0,G,ρ,p,dx,pre,us,xs,ds,good,now,hself,hp,gp,h0,hl,nd,hz,rs,hg,k⟩:=h
 obtain⟨d,dr,h1,h2,rfl⟩:=zWz hg
 have hlp:pre.length < 1000:=by rw[Wq] at hz;omega
 have hnp:f∉pre:=fun z=>(Yc.mp nd).2.2 f z f Qh rfl
 have e1:pre++f::ns=(pre++[f])++ns:=by simp
 refine⟨G0,H0,G,ρ,d,good,h1,fun v H1 G1 s1 r1=>⟨.ref p,hself,p,C,dx,pre.zip us,rfl,s1.hh _ _ hp,hcl,hn,?_,?_⟩⟩
 · rw[List.length_zip];omega
 · have hne:H p≠none:=by rw[hp];exact fun z=>nomatch z
   have gp1:G1 p=none:=(s1.new p hne).trans gp
   refine⟨G0,H0,G1,ρ,p,dx,pre++[f],us++[v],xs++[d],dr,(good.step s1).wrX now gp1 h0,now,hself,?_,gp1,h0,by rw[Wq,Wq,hl];rfl,by rw[←e1];exact nd,by rw[←e1];exact hz,(rs.mono s1.gg).snoc r1,h2,fun H' G' vs st q1 q2 q3=>?_⟩
   · rw[yX,zTz hl hnp]
   · refine k H' G' vs st (by rw[e1];exact q1) q2 ?_
     rw[show xs++d::dr=(xs++[d])++dr by simp]
     exact q3
end
def spI (K:PySem.W.Frag)(C:Addr)(ns:List Str)(n:Nat)(f:List D->Option (List D)):Sp:=fun vs H Q _=>∃(p dx:Addr) (rest:List V) (G H0:Hp) (ds xs:List D),vs = .ref p::rest/\H=upd (upd H0 dx (.own p)) p (.ins C dx [])/\H0 p=none/\H0 dx=none/\dx≠p/\Same G H0/\Reps K G ds rest/\ds.length=n/\f ds=some xs /\
 ∀H' G' us,Step G H0 G' H'->H' p=some (.ins C dx (ns.zip us))->G' p=none->Reps K G' xs us->Q .non H'
theorem zWe {K:PySem.W.Frag}{G H0 H:Hp}(m:Nat):∀ {ds:List D} {vs:List V},Reps K G ds vs->Paired (RB K H0 G H) (vs.map some++List.replicate m none) (ds.map .fz++List.replicate m .no)
 | [],_,h=>by
   rw[yV] at h;subst h
   show Paired _ (List.replicate m none) (List.replicate m B.no)
   induction m with
   | zero=>exact .nil
   | succ n ih=>rw[Wf,Wf];exact .cons .no ih
 | d::r,_,h=>by
   obtain⟨v,vr,rfl,h1,h2⟩:=zE.mp h
   exact .cons (.fz h1) (zWe m h2)
theorem zRd (m:Nat)(ds:List D):zXt (.no::(ds.map B.fz++List.replicate m B.no)):=by
 constructor
 all_goals
   intro j es h
   cases j with
   | zero=>cases h
   | succ j =>
     rw[Qc] at h
     by_cases hi:j < ds.length
     · rw[Ej (by simpa using hi),Wp] at h
       obtain⟨k,_,h⟩:=Qt.mp h
       cases h
     · rw[Wc (by simpa using hi),Ri] at h
       split at h<;>cases h
def zZD (N:Nat)(ds:List D):List B:=.no::(ds.map .fz++List.replicate (N - (ds.length+1)) .no)
section
variable {P:Program} {w:World} {K:PySem.W.Frag} {mg:Str->Option Value} {base:Heap} {x qual:Str} {st:Stmt} {f C:Addr} {fd:FuncData} {N ps ns:List Str} {k:Nat} {sf:Str}
theorem zVn {g:Lf}(F:Fun K x qual st f fd)(S:FnScope N (sf::ps) (zS st))(hnd:ns.Nodup)(hlen:ns.length<=900)
   (hb:∀(cdv:Value) (A:Around) (outer:List Env) (s:Shared) (H:Hp) (E:XK),Room k (A.deeper (envOfC qual (zS st) s.heap.objs.size f cdv))->PSs (zXs CX0 P w K mg base N qual (zS st) f cdv A outer s H E).nox (wJ st) (zMn K C ns g)) :
   FnOk P w K mg base CX0 (k+1) f fd (sf::ps) (spI K C ns ps.length fun ds=>g (zZD N.length ds)):=by
 refine F.ok S (fun vs H Q E h=>?_) (fun cdv A outer s H vs Q E hr h=>⟨_,hb cdv A outer s H E hr,?_⟩)
 · obtain⟨p,dx,rest,G,H0,ds,xs,rfl,_,_,_,_,_,rs,hl,_⟩:=h
   rw[Qo,Qo,←rs.length,hl]
 · obtain⟨p,dx,rest,G,H0,ds,xs,rfl,rfl,h1,h2,h3,sub,rs,hl,hf,k⟩:=h
   have hne:p≠dx:=h3.symm
   have hp1:(upd H0 dx (.own p)) p=none:=by rw[yI hne];exact h1
   have st1:Step G H0 G (upd H0 dx (.own p)):=Step.own sub h2
   have st2:Step G H0 G (upd (upd H0 dx (.own p)) p (.ins C dx [])):=st1.trans (Step.own st1.sub hp1)
   have good:Good K G H0 G (upd (upd H0 dx (.own p)) p (.ins C dx [])) (iM N (.ref p::rest)) (zZD N.length ds):=by
     refine⟨st2,?_,fun i j a es es' q1=>absurd q1 ((zRd _ ds).1 i es)⟩
     unfold iM zZD
     rw[Qp,Qo,Ry,←rs.length]
     exact .cons .no (zWe _ rs)
   refine⟨G,H0,G,_,p,dx,[],[],[],xs,good,zRd _ ds,rfl,yX,sub.free h1,h1,rfl,hnd,hlen,yV.mpr rfl,hf,fun H' G' us s' q1 q2 q3=>k H' G' us s' q1 q2 q3⟩
variable {X:Cx} {a b c e:Expr} {es:List Expr} {fb:Ef} {ga:Lf} {pos p:Pos}
def zZj (c:Str)(ns:List Str)(n:Nat)(f:List D->Option (List D))(g:Lf):Ef:=fun ρ=>(g ρ).bind fun ds=>if ds.length=n then(f ds).bind fun xs=>if ns.length=xs.length then some (.obj c ns xs) else none else none
theorem zVE {k n:Nat}{C fI:Addr}{fd:FuncData}{ps ns:List Str}{c:Str}{f:List D->Option (List D)}(hC:ClsAt X.K c C)(M:Mk X.K C fI)(F:FnOk X.prog X.w X.K X.mg X.base CX0 k fI fd ps (spI X.K C ns n f))(hr:Room (k+1) X.A)(hm:X.mg c=some (.ref C))(hb:Binds X.K fd ps [])(hg:Gl X c)
   (ha:PFA X (e::es) ga) (hdb:(c==("__debug__":Str))=false:=by decide) (he:starEach (e::es) X.env=(false,eval e X.env)::starEach es X.env:=by rfl) (hpl:(backTo pos (starEach es X.env)).any (·.1)=false:=by rfl) :
   PF X (.Call (.Name c p) (e::es) [] pos) (zZj c ns n f ga):=by
 refine PE.to (zL0 (E:=E0) M F hr hg hm hb .nil zQQ ha hdb he hpl) ?_
 rintro σ H Q ⟨G0,H0,G,ρ,d,good,hf,k⟩
 unfold zZj at hf
 obtain⟨ds,h1,hf⟩:=Qq.mp hf
 split at hf
 · rename_i hl
   obtain⟨xs,h2,hf⟩:=Qq.mp hf
   split at hf
   · rename_i hn
     cases hf
     refine⟨G0,H0,G,ρ,_,good,h1,fun vs H1 G1 s1 r1 x dx hx hdx hne=>?_⟩
     refine⟨x,dx,vs++[],G1,H1,ds,xs,rfl,rfl,hx,hdx,hne,s1.sub,by rw[Er];exact r1,hl,h2,fun H' G' us s' q1 q2 q3=>⟨rfl,?_⟩⟩
     exact k _ _ _ (s1.trans (s'.frz hx q1 q2)) (zYM.mpr ⟨C,x,dx,us,hC,rfl,yX,hn,q3.mono (Same.new q2)⟩)
   · cases hf
 · cases hf
def hZ:D->D->Option Bool
 | d,.non=>some (pJ d)
 | .bl x,.bl y=>some (x==y)
 | .non,.bl _=>some false
 | .int _,.bl _=>some false
 | .str _,.bl _=>some false
 | .tup _,.bl _=>some false
 | .lst _,.bl _=>some false
 | .obj _ _ _,.bl _=>some false
 | .exc _ _ _,.bl _=>some false
 | _,_=>none
theorem zJX:OpR X (compareOp .Is) (fun x y H Q=>∃k,y = .bl k/\Q (.bl (decide (x = .bl k))) H):=by
 intro pins s σ H x y v u Q I rx ry h
 obtain⟨k,rfl,q⟩:=h
 cases ry
 cases x with
 | bl z=>cases rx;refine is_bool (y0 I q ?_);rw[zVN]
 | non=>cases rx;refine Tp (by rfl) (by intro z;cases z) (y0 I q (by simp))
 | int i=>obtain⟨t,rfl⟩:=rx;refine Tp (by rfl) (by intro z;cases z) (y0 I q (by simp))
 | str i=>obtain⟨t,rfl⟩:=rx;refine Tp (by rfl) (by intro z;cases z) (y0 I q (by simp))
 | byt i=>obtain⟨t,rfl⟩:=rx;refine Tp (by rfl) (by intro z;cases z) (y0 I q (by simp))
 | flt i=>obtain⟨t,rfl⟩:=rx;refine Tp (by rfl) (by intro z;cases z) (y0 I q (by simp))
 | ref i=>cases rx;refine Tp (by rfl) (by intro z;cases z) (y0 I q (by simp))
 | ty i=>cases rx;refine Tp (by rfl) (by intro z;cases z) (y0 I q (by simp))
theorem pH:CmR X .Is hZ:=⟨_,zIJ.or zJX,fun d d' k G H x y Q h s rx ry q=>by
 have fin:∀(z:Bool) (v:V),d' = .bl z->x=v->k=decide (v = .bl z)->(fun x y H Q=>y=V.non/\Q (.bl (decide (x = .non))) H) x y H Q∨(∃k,y = .bl k/\Q (.bl (decide (x = .bl k))) H):=fun z v e1 e2 e3=>by
   subst e1;subst e2
   exact .inr ⟨z,w6.mp ry,by rw[←e3];exact q H G (.refl s)⟩
 cases d' with
 | non =>
   have hk:pJ d=k:=by cases d<;>(cases h;rfl)
   refine .inl ⟨uO.mp ry,?_⟩
   rw[zW7 rx,hk];exact q H G (.refl s)
 | bl z =>
   cases d with
   | bl w=>cases h;exact fin z _ rfl (w6.mp rx) (by rw[zVN])
   | non=>cases h;exact fin z _ rfl (uO.mp rx) (by simp)
   | int i=>cases h;exact fin z _ rfl (zG.mp rx) (by simp)
   | str i=>cases h;exact fin z _ rfl (yM.mp rx) (by simp)
   | tup ds=>cases h;obtain⟨p,_,e,_⟩:=yF.mp rx;exact fin z _ rfl e (by simp)
   | lst ds=>cases h;obtain⟨p,_,e,_⟩:=xH.mp rx;exact fin z _ rfl e (by simp)
   | obj _ _ ds=>cases h;obtain⟨_,p,_,_,_,e,_⟩:=zYM.mp rx;exact fin z _ rfl e (by simp)
   | exc _ _ ds=>cases h;obtain⟨_,p,_,_,_,e,_⟩:=zQA.mp rx;exact fin z _ rfl e (by simp)
 | _=>cases d<;>cases h⟩
def zJh (g:Lf)(f:Ef):Lf:=fun ρ=>(g ρ).bind fun ds=>(f ρ).bind fun n=>match n with | .int k=>if decide (0<=k)&&decide (k<=1000)&&decide (ds.length<=90) then some (List.replicate k.toNat ds).flatten else none | _=>none
theorem zUn {K:PySem.W.Frag}{G:Hp}{ds:List D}{vs:List V}(h:Reps K G ds vs):∀k:Nat,Reps K G (List.replicate k ds).flatten (List.replicate k vs).flatten
 | 0=>yV.mpr rfl
 | k+1=>by
   rw[Wf,Wf,To,To]
   exact h.append (zUn h k)
theorem zIU (ha:PFr X a ga)(hb:PF X b fb):PFr X (.BinOp a .Mult b pos) (zJh ga fb):=by
 refine PE.toR (zXT zJr ha hb) ?_
 rintro σ H Q ⟨G0,H0,G,ρ,d,good,hf,k⟩
 unfold zJh at hf
 obtain⟨xs,h1,hf⟩:=Qq.mp hf
 obtain⟨n,h2,hf⟩:=Qq.mp hf
 cases n with
 | int m =>
   dsimp only at hf
   split at hf
   · rename_i hc
     cases hf
     simp only[Qx,Wh] at hc
     refine⟨G0,H0,G,ρ,_,good,h1,fun p vs H1 G1 s1 hn hp gp rs=>⟨G0,H0,G1,ρ,_,good.step s1,h2,fun q H2 G2 s2 r2=>?_⟩⟩
     have hne:H1 p≠none:=by rw[hp];exact fun z=>nomatch z
     refine⟨p,m,vs,rfl,zG.mp r2,s2.hh _ _ hp,by omega,by omega,?_,fun l hl=>?_⟩
     · rw[←rs.length]
       have:xs.length*m.toNat<=90*1000:=Nat.mul_le_mul hc.2 (by omega)
       exact Ey this (by decide)
     · have s3:=Step.own (o:=.lst (List.replicate m.toNat vs).flatten) s2.sub hl
       exact k l _ _ G2 ((s1.trans s2).trans s3) ((s1.trans s2).hh.free hl) yX (s2.sub.free hl) (zUn (rs.mono s2.gg) _)
   · cases hf
 | _=>cases hf
def zZT (i:Nat):Tf:=fun ρ=>match ρ[i]? with | some (.ow ds)=>some (!ds.isEmpty) | _=>none
theorem zOo (hu:X.A.units < cLine):OpR X (compareOp .NotEq) (fun x y H Q=>∃l m xs,x = .ref l/\y = .ref m/\SqL X.K H l xs/\SqL X.K H m []/\Q (.bl (!xs.isEmpty)) H):=by
 intro pins s σ H x y v u Q I rx ry h
 obtain⟨l,m,xs,rfl,rfl,hl,hm,q⟩:=h
 cases rx
 cases ry
 obtain⟨its,w1,t1,_⟩:=I.list hl
 obtain⟨jts,w2,t2,_⟩:=I.list hm
 cases w2
 cases xs with
 | nil =>
   cases w1
   have R:=SeqAt.RcNeAt.lists (A:=X.A) (s:=s) (e:=fun _=>true) t1.isList t2.isList rfl hu (fun j h1=>absurd h1 (by simp))
   exact R X.prog X.w X.xe _ ⟨.bl false,H,I,rfl,q⟩
 | cons x r =>
   cases w1 with
   | cons r1 r2 =>
     have R:=Oh (A:=X.A) (s:=s) t1.isList t2.isList (by simp) hu
     exact R X.prog X.w X.xe _ ⟨.bl true,H,I,rfl,q⟩
theorem zOq {k:Nat}(i:Nat)(hr:Room k X.A){x:Str}{p1 p2:Pos}(hN:X.N[i]?=some x:=by rfl)(hv:Vis X.env.scope x:=by first | exact Or.inl rfl | exact Or.inr (Or.inl rfl) | exact Or.inr (Or.inr rfl))(hd:(x==("__debug__":Str))=false:=by decide)(hcd:(x==("__classdict__":Str))=false:=by decide) :
   PFT X (.Compare (.Name x p1) [.NotEq] [.List [] p2] pos) (zZT i):=by
 refine PT.to (bA (zOo hr.units0) (lL hN hv hd hcd) (zMN yK) (zZ3 _)) ?_
 rintro σ H Q ⟨G0,H0,G,ρ,b,good,hf,k⟩
 unfold zZT at hf
 split at hf
 · rename_i ds hi
   cases hf
   obtain⟨q,vs,e1,e2,e3,e4,e5⟩:=good.addr hi
   refine⟨.ref q,e1,Td _,fun z hz=>⟨q,z,vs,rfl,rfl,.of (by rw[yI (xR e2 hz)];exact e2),.of yX,_,rfl,?_⟩⟩
   have e:(!vs.isEmpty) = !ds.isEmpty:=by
     have hl:=e5.length
     cases vs with
     | nil=>cases ds with
       | nil=>rfl
       | cons _ _=>simp at hl
     | cons _ _=>cases ds with
       | nil=>simp at hl
       | cons _ _=>rfl
   rw[e]
   exact k _ G (Step.own good.sub hz)
 · cases hf
variable {l:Addr} {its:Array Value} {n:Nat} {dd:Option Addr} {sl:Array (Option Value)} {y:Value} {q:Nat->Bool} {top:Int} {j:Nat}
theorem zQK (hj:j < its.size)(ht:(j:Int) < top)(hq:q j=true):∀(k i:Nat),j - i=k->i<=j->(∀m,i<=m->m < j->q m=false)->Meets (Builtin.«list.index.loop» ⟨[.ref l,y,rawInt i,rawInt top],[]⟩)
   (fun A R s=>s.heap.get? l=some { cls:=.type "list",dict:=dd,data:=.seq its n,slots:=sl }/\(∀m (h:m < its.size),SeqAt.EqAt A.in1 s its[m] y (q m))/\R (.ok (.ret (.int j s.toks))) { s with toks:=s.toks+1 })
 | 0,i,hk,hi,_=>by
   have e:i=j:=by omega
   subst e
   intro P w A R s hyp
   obtain⟨hp,g,d,tk,os⟩:=s
   obtain⟨at_,eqs,fin⟩:=hyp
   wp_walk using wpAny_loadPart' at_
   rw[show(if (i:Int) < top then its[((i:Nat):Int).toNat]? else none)=some its[i] by simp[ht,hj]]
   refine Qe (eqs i hj P w _ _ ?_)
   rw[hq]
   wp_walk
   exact fin
 | k+1,i,hk,hi,hno=>by
   intro P w A R s hyp
   obtain⟨hp,g,d,tk,os⟩:=s
   obtain⟨at_,eqs,fin⟩:=hyp
   have lt:i < its.size:=by omega
   have lt2:(i:Int) < top:=by omega
   wp_walk using wpAny_loadPart' at_
   rw[show(if (i:Int) < top then its[((i:Nat):Int).toNat]? else none)=some its[i] by simp[lt2,lt]]
   refine Qe (eqs i lt P w _ _ ?_)
   rw[hno i (Ql _) (by omega)]
   wp_walk
   rw[show((i:Int)+1)=((i+1:Nat):Int) by push_cast;rfl]
   exact⟨Rb Ta _,Rv Ol (by
     rw[En Ta _]
     exact zQK hj ht hq k (i+1) (by omega) (by omega) (fun m h1 h2=>hno m (by omega) h2) P w A R _ ⟨at_,eqs,fin⟩)⟩
theorem zO5 (hj:j < its.size)(hs:(j:Int) < 2^63 - 1)(hq:q j=true)(hno:∀m,m < j->q m=false):Meets (Builtin.«list.index» ⟨[.ref l,y],[]⟩)
   (fun A R s=>s.heap.get? l=some { cls:=.type "list",dict:=dd,data:=.seq its n,slots:=sl }/\(∀m (h:m < its.size),SeqAt.EqAt A.in1 s its[m] y (q m))/\R (.ok (.ret (.int j s.toks))) { s with toks:=s.toks+1 }):=by
 intro P w A R s hyp
 obtain⟨hp,g,d,tk,os⟩:=s
 obtain⟨at_,eqs,fin⟩:=hyp
 wp_walk using wpAny_loadPart' at_
 rw[show((fun i:Int=>if i < 0 then max 0 (i+(its.size:Int)) else i) ((none:Option Int).getD 0))=((0:Nat):Int) by simp,
   show((fun i:Int=>if i < 0 then max 0 (i+(its.size:Int)) else i) ((none:Option Int).getD (2^63 - 1)))=2^63 - 1 by simp]
 exact⟨Rb Ta _,Rv Ol (by
   rw[En Ta _]
   exact zQK hj hs hq _ 0 rfl (Td _) (fun m _ h2=>hno m h2) P w A R _ ⟨at_,eqs,fin⟩)⟩
end
def ixD (d:D):List D->Option Nat
 | []=>none
 | x::r=>(eqD 8 x d).bind fun b=>if b=true then(if (r.all fun z=>(eqD 8 z d).isSome) then some 0 else none) else(ixD d r).map (· + 1)
theorem zSW {d:D}:∀ {ds:List D} {j:Nat},ixD d ds=some j->j < ds.length/\(∀(m:Nat) (x:D),ds[m]?=some x->∃b,eqD 8 x d=some b/\(m < j->b=false)/\(m=j->b=true))
 | [],_,h=>by cases h
 | x::r,j,h=>by
   unfold ixD at h
   obtain⟨b,h1,h⟩:=Qq.mp h
   split at h
   · rename_i hb
     split at h
     · rename_i ha
       cases h
       refine⟨by simp,fun m z hz=>?_⟩
       cases m with
       | zero=>cases hz;exact⟨b,h1,fun q=>absurd q (Wr _),fun _=>hb⟩
       | succ m =>
         rw[Qc] at hz
         have:=Qv.mp ha z (Ye hz)
         obtain⟨b',hb'⟩:=Ec.mp this
         exact⟨b',hb',fun q=>by omega,fun q=>by omega⟩
     · cases h
   · rename_i hb
     obtain⟨i,h2,rfl⟩:=Qt.mp h
     obtain⟨h3,h4⟩:=zSW h2
     refine⟨by rw[Qo];omega,fun m z hz=>?_⟩
     cases m with
     | zero=>cases hz;exact⟨b,h1,fun _=>by simpa using hb,fun q=>by omega⟩
     | succ m =>
       rw[Qc] at hz
       obtain⟨b',q1,q2,q3⟩:=h4 m z hz
       exact⟨b',q1,fun q=>q2 (by omega),fun q=>q3 (by omega)⟩
section
variable {X:Cx} {b c:Expr} {fb:Ef} {ga:Lf}
def zNf (X:Cx):V->List V->Hp->VK->Prop:=fun x vs H Q=>∃l y G ds ws d j,x = .ref l/\vs=[y]/\Same G H/\SqL X.K H l ws/\Reps X.K G ds ws/\Rep X.K G d y/\ixD d ds=some j/\ds.length<=100000/\Q (.int (j:Nat)) H
theorem zNk {k:Nat}(hr:Room k X.A):MtR X "list.index" (zNf X):=by
 intro pins s σ H x xs v us Q I rx rv h
 obtain⟨l,y,G,ds,ws,d,j,rfl,rfl,sub,hq,rs,rd,hj,hl,q⟩:=h
 cases rx
 obtain⟨u,rfl,ru⟩:=rv.one
 obtain⟨its,r,pl,_⟩:=I.list hq
 obtain⟨⟨cls,dd,data,sl⟩,ho,hc,n,hd⟩:=pl.isList
 simp only at hc hd
 subst hc hd
 obtain⟨h1,h2⟩:=zSW hj
 have l1:=rs.length
 have l2:=r.length
 have hun:=hr.units
 have bs:∀m,∃b:Bool,(m < j->b=false)/\(m=j->b=true)/\∀(h:m < its.toArray.size),SeqAt.EqAt X.A.in1 s its.toArray[m] u b:=fun m=>by
   by_cases hm:m < ds.length
   · obtain⟨b,q1,q2,q3⟩:=h2 m _ (Qu hm)
     refine⟨b,q2,q3,fun h=>?_⟩
     obtain⟨v1,f1,g1⟩:=rs.get (Qu hm)
     obtain⟨u1,f3,g3⟩:=r.get f1
     have x1:its.toArray[m]=u1:=by
       have:=(Qm.mp f3).2
       simpa using this
     rw[x1]
     exact(zJk I sub 8 X.A.in1 _ _ v1 y u1 u _ (by show X.A.units+1+8 < cLine;omega) q1 g1 rd g3 ru).2.2
   · exact⟨decide (m=j),fun z=>Qz (by omega),fun z=>Qi z,fun h=>absurd h (by rw[Qg,←l2,←l1];exact hm)⟩
 have hjs:j < its.toArray.size:=by rw[Qg,←l2,←l1];exact h1
 refine Yu F.slot_list_index ⟨_,ho,rfl⟩ F.entry_list_index (F.args_list_index_2 _ _) (zO5 (l:=l) (its:=its.toArray) (n:=n) (dd:=dd) (sl:=sl) (y:=u) (q:=fun m=>(bs m).choose) (j:=j) hjs (by omega) ((bs j).choose_spec.2.1 rfl) (fun m hm=>(bs m).choose_spec.1 hm)) ⟨ho,fun m h=>(bs m).choose_spec.2.2 h,?_⟩
 exact⟨.int (j:Nat),H,I.tok _,⟨_,rfl⟩,q⟩
def zSM (g:Lf)(f:Ef):Ef:=fun ρ=>(g ρ).bind fun ds=>(f ρ).bind fun d=>if ds.length<=100000 then(ixD d ds).map fun j=>.int (j:Nat) else none
theorem zMB {k:Nat}(hr:Room k X.A)(ht:PE X c (tBM X.K "list" (zNf X) (zMg X.K ga) (zY7 (tF X.K fb) zSb))):PF X c (zSM ga fb):=by
 refine PE.to ht ?_
 rintro σ H Q ⟨G0,H0,G,ρ,d,good,hf,k⟩
 unfold zSM at hf
 obtain⟨ds,h1,hf⟩:=Qq.mp hf
 obtain⟨y,h2,hf⟩:=Qq.mp hf
 split at hf
 · rename_i hl
   obtain⟨j,h3,rfl⟩:=Qt.mp hf
   refine⟨G0,H0,G,ρ,_,good,h1,fun q vs H1 G1 s1 hq rs=>⟨.inl ⟨rfl,vs,s1.sub.seq hq⟩,G0,H0,G1,ρ,_,good.step s1,h2,fun v H2 G2 s2 r2=>?_⟩⟩
   exact⟨q,v,G2,ds,vs,y,j,rfl,rfl,s2.sub,(s1.sub.trans s2.hh).seq hq,rs.mono s2.gg,r2,h3,hl,k _ _ G2 (s1.trans s2) (zG.mpr rfl)⟩
 · cases hf
end
end L2
namespace L2
open PySem PySem.Spec PyProof.Rows
section
variable {prog:Program} {w:World} {A:Around} {E:Value->Shared->Prop} {s:Shared}
theorem zQq {M:Model}{a:Addr}{Q:Option Obj->Shared->Prop}(h:Q (s.heap.get? a) s):wpAny M A (loadIfAlive a) Q E s :=
 fun Γ p _=>by show Sem.wp M Γ (.loadIfAlive a .pure) _ _ p s;rw[Sem.wp_loadIfAlive];exact h
abbrev zXa (h:Heap)(z TI TO T:Addr)(b:Bool):Prop:=h.get? z=some { cls:=.type "zip",dict:=none,data:=.fields #[rawInt T,.bool b,.bool false,.ref TI,.ref TO],slots:=#[] }
theorem zWi {z TI TO T:Addr}{b:Bool}{o:Obj}{Q:Bool->Shared->Prop}(hz:zXa s.heap z TI TO T b)(hT:s.heap.get? T=some o)(hQ:∀h',zXa h' z TI TO T true->(∀c u,c≠z->s.heap.get? c=some u->h'.get? c=some u)->h'.objs.size=s.heap.objs.size->Q false { s with heap:=h' }) :
   wpAny (model prog w) A (Builtin.SmallTypes.ownedTupleIsFree (.ref z)) Q E s:=by
 unfold Builtin.SmallTypes.ownedTupleIsFree
 refine Qe (Ed hz rfl (x:=rawInt T) rfl ?_)
 change wpAny _ _ (loadIfAlive (Int.toNat (T:Int)) >>= _) _ _ _
 refine Qe (zQq ?_)
 rw[Ra,hT]
 change wpAny _ _ (field (.ref z) 1 >>= _) _ _ _
 refine Qe (Ed hz rfl (x:=.bool b) rfl ?_)
 cases b with
 | false =>
   change wpAny _ _ (setField (.ref z) 1 (.bool true) >>= fun _=>pure false) _ _ _
   refine Qe (Rk hz (by simp) fun h' q1 q2=>Qf (hQ h' q1 (fun c u hc e=>q2.extBut _ _ hc e) q2.1))
 | true =>
   change wpAny _ _ (pure false) _ _ _
   exact Qf (hQ s.heap hz (fun _ _ _ e=>e) rfl)
theorem zON {z TI TO i1 i2 l1 l2 T:Addr}{b:Bool}{o:Obj}{k:Nat}{xs ys:Array Value}{x y:Value}{Q:Value->Shared->Prop}(D:ZipApart z TI TO i1 i2 l1 l2)
   (hz:zXa s.heap z TI TO T b) (hT:s.heap.get? T=some o) (hTI:IsPair s.heap TI (.ref i1) (.ref i2))
   (h1:s.heap.IsListIter i1 l1 k) (h2:s.heap.IsListIter i2 l2 k) (hl1:s.heap.IsList l1 xs) (hl2:s.heap.IsList l2 ys) (hx:xs[k]?=some x) (hy:ys[k]?=some y)
   (hQ:∀h',zXa h' z TI TO T true->h'.IsListIter i1 l1 (k+1)->h'.IsListIter i2 l2 (k+1)->IsPair h' s.heap.objs.size x y ->
     (∀c o,c≠z->c≠i1->c≠i2->s.heap.get? c=some o->h'.get? c=some o)->Q (.ref s.heap.objs.size) { s with heap:=h' }) :
   wpAny (model prog w) A (Builtin.«zip.__next__» ⟨[.ref z],[]⟩) (fun fin s'=>∃v,fin = .done (.ret v)/\Q v s') E s:=by
 change wpAny _ _ (field (.ref z) 2 >>= _) _ _ _
 refine Qe (Ed hz rfl (x:=.bool false) rfl ?_)
 change wpAny _ _ (field (.ref z) 3 >>= _) _ _ _
 refine Qe (Ed hz rfl (x:=.ref TI) rfl (Qe (Ez hTI rfl ?_)))
 change wpAny _ _ (Builtin.SmallTypes.ownedTupleIsFree (.ref z) >>= _) _ _ _
 refine Qe (zWi hz hT fun g1 z1 k1 e1=>?_)
 simp only[Wo,Ro]
 refine Qe ?_
 simp only[←Yh,Ys,Iq]
 refine Qe (Qe (Ru ?_))
 change wpAny _ _ (Builtin.SmallTypes.nextOf (.ref i1) >>= _) _ _ _
 refine Qe (Tv (h1.at fun o e=>k1 _ o D.i1z e) (hl1.at fun o e=>k1 _ o D.l1z e) hx fun g2 u1 t2=>Qf (Qf (Qe (Qe (Ru ?_)))))
 change wpAny _ _ (Builtin.SmallTypes.nextOf (.ref i2) >>= _) _ _ _
 refine Qe (Tv ((h2.at fun o e=>k1 _ o D.i2z e).extBut t2.extBut D.i12.symm) ((hl2.at fun o e=>k1 _ o D.l2z e).extBut t2.extBut D.l2i1) hy fun g3 u2 t3=>Qf (Qf (Qf ?_)))
 have esz:g3.objs.size=s.heap.objs.size:=by rw[t3.1,t2.1,e1]
 refine Qe (wpAny_newTuple ?_ (by show 2<=sizeLine;exact Wx (vO (by decide))))
 refine Qf ⟨_,rfl,?_⟩
 have z3:zXa g3 z TI TO T true:=t3.extBut _ _ D.i2z.symm (t2.extBut _ _ D.i1z.symm z1)
 have w1:=u1.extBut t3.extBut D.i12
 change Q (.ref g3.objs.size) { s with heap:=g3.push { cls:=.type "tuple",data:=.seq #[x,y] } }
 have n3:IsPair (g3.push { cls:=.type "tuple",data:=.seq #[x,y] }) g3.objs.size x y:=Qk _ rfl
 rw[esz] at n3 ⊢
 exact hQ _ (Qr _ z3) (w1.at fun o e=>Qr _ e) (u2.at fun o e=>Qr _ e) n3
   fun c o c1 c2 c3 e=>Qr _ (t3.extBut _ _ c3 (t2.extBut _ _ c2 (k1 _ _ c1 e)))
theorem zO9 {z TI TO i1 i2 l1 l2 T:Addr}{b:Bool}{o:Obj}{k:Nat}{xs ys:Array Value}{Q:Fin->Shared->Prop}(hh:A.handled=none)(D:ZipApart z TI TO i1 i2 l1 l2)
   (hz:zXa s.heap z TI TO T b) (hT:s.heap.get? T=some o) (hTI:IsPair s.heap TI (.ref i1) (.ref i2))
   (h1:s.heap.IsListIter i1 l1 k) (h2:s.heap.IsListIter i2 l2 k) (hl1:s.heap.IsList l1 xs) (hl2:s.heap.IsList l2 ys) (hend:xs[k]?=none∨ys[k]?=none)
   (hE:∀h' e,(∀c o,c≠z->c≠i1->c≠i2->s.heap.get? c=some o->h'.get? c=some o)->(∃o,h'.get? e=some o/\o.cls = .type "StopIteration")->E (.ref e) { s with heap:=h' }) :
   wpAny (model prog w) A (Builtin.«zip.__next__» ⟨[.ref z],[]⟩) Q E s:=by
 change wpAny _ _ (field (.ref z) 2 >>= _) _ _ _
 refine Qe (Ed hz rfl (x:=.bool false) rfl ?_)
 change wpAny _ _ (field (.ref z) 3 >>= _) _ _ _
 refine Qe (Ed hz rfl (x:=.ref TI) rfl (Qe (Ez hTI rfl ?_)))
 change wpAny _ _ (Builtin.SmallTypes.ownedTupleIsFree (.ref z) >>= _) _ _ _
 refine Qe (zWi hz hT fun g1 z1 k1 e1=>?_)
 simp only[Wo,Ro]
 refine Qe ?_
 simp only[←Yh,Ys,Iq]
 refine Qe (Qe (Ru ?_))
 change wpAny _ _ (Builtin.SmallTypes.nextOf (.ref i1) >>= _) _ _ _
 cases hx:xs[k]? with
 | none=>exact Qe (Us hh (h1.at fun o e=>k1 _ o D.i1z e) (hl1.at fun o e=>k1 _ o D.l1z e) hx fun g2 e t2 he=>hE g2 e (fun c o c1 c2 _ q=>t2 _ _ c2 (k1 _ _ c1 q)) he)
 | some x =>
   have hy:ys[k]?=none:=by rcases hend with q | q;rw[hx] at q;cases q;exact q
   refine Qe (Tv (h1.at fun o e=>k1 _ o D.i1z e) (hl1.at fun o e=>k1 _ o D.l1z e) hx fun g2 u1 t2=>Qf (Qf (Qe (Qe (Ru ?_)))))
   change wpAny _ _ (Builtin.SmallTypes.nextOf (.ref i2) >>= _) _ _ _
   exact Qe (Us hh ((h2.at fun o e=>k1 _ o D.i2z e).extBut t2.extBut D.i12.symm) ((hl2.at fun o e=>k1 _ o D.l2z e).extBut t2.extBut D.l2i1) hy fun g3 e t3 he=>hE g3 e (fun c o c1 c2 c3 q=>t3 _ _ c3 (t2.extBut _ _ c2 (k1 _ _ c1 q))) he)
theorem zYq {z TI TO i1 i2 l1 l2 T:Addr}{b:Bool}{o:Obj}{k:Nat}{xs ys:Array Value}{x y:Value}{Q:Option Value->Shared->Prop}(D:ZipApart z TI TO i1 i2 l1 l2)
   (hz:zXa s.heap z TI TO T b) (hT:s.heap.get? T=some o) (hTI:IsPair s.heap TI (.ref i1) (.ref i2))
   (h1:s.heap.IsListIter i1 l1 k) (h2:s.heap.IsListIter i2 l2 k) (hl1:s.heap.IsList l1 xs) (hl2:s.heap.IsList l2 ys) (hx:xs[k]?=some x) (hy:ys[k]?=some y)
   (hQ:∀h',zXa h' z TI TO T true->h'.IsListIter i1 l1 (k+1)->h'.IsListIter i2 l2 (k+1)->IsPair h' s.heap.objs.size x y ->
     (∀c o,c≠z->c≠i1->c≠i2->s.heap.get? c=some o->h'.get? c=some o)->Q (some (.ref s.heap.objs.size)) { s with heap:=h' }):wpAny (model prog w) A (pyNext (.ref z)) Q E s:=by
 have hT':s.TypeIs (.ref z) "zip":=⟨_,hz,rfl⟩
 unfold pyNext
 exact Qe (Ii (El (name:=Str.ofString "__next__") hT' F.slot_zip_next (Rg F.slot_zip_next hT' F.entry_zip_next (zON D hz hT hTI h1 h2 hl1 hl2 hx hy fun h' a1 a2 a3 a4 a5=>Qf (hQ h' a1 a2 a3 a4 a5)) (F.args_zip_next_1 _))))
theorem zXc {z TI TO i1 i2 l1 l2 T:Addr}{b:Bool}{o:Obj}{k:Nat}{xs ys:Array Value}{Q:Option Value->Shared->Prop}(hh:A.handled=none)(D:ZipApart z TI TO i1 i2 l1 l2)
   (hz:zXa s.heap z TI TO T b) (hT:s.heap.get? T=some o) (hTI:IsPair s.heap TI (.ref i1) (.ref i2))
   (h1:s.heap.IsListIter i1 l1 k) (h2:s.heap.IsListIter i2 l2 k) (hl1:s.heap.IsList l1 xs) (hl2:s.heap.IsList l2 ys) (hend:xs[k]?=none∨ys[k]?=none)
   (hQ:∀h',(∀c o,c≠z->c≠i1->c≠i2->s.heap.get? c=some o->h'.get? c=some o)->Q none { s with heap:=h' }):wpAny (model prog w) A (pyNext (.ref z)) Q E s:=by
 have hT':s.TypeIs (.ref z) "zip":=⟨_,hz,rfl⟩
 unfold pyNext
 refine Qe (Ii (El (name:=Str.ofString "__next__") hT' F.slot_zip_next (Rg F.slot_zip_next hT' F.entry_zip_next (zO9 hh D hz hT hTI h1 h2 hl1 hl2 hend fun h' e hk he=>?_) (F.args_zip_next_1 _))))
 obtain⟨o,q1,q2⟩:=he
 exact Qe (Uw (T:="StopIteration") (b:=true) ⟨o,q1,q2⟩ isSubtype_stop (Qf (hQ _ hk)))
end
def ZSt (h:Heap)(n a b S:Addr)(i:Nat):Prop :=
 ((IsZip h (n+4) (n+2) (n+3) .none/\∃p q,IsPair h (n+3) p q)∨∃T f o,zXa h (n+4) (n+2) (n+3) T f/\T∉[n+4,n+2,n+3,n,n+1]/\T≠S/\h.get? T=some o)/\IsPair h (n+2) (.ref n) (.ref (n+1))/\h.IsListIter n a i/\h.IsListIter (n+1) b i
theorem ZSt.keep {h h':Heap}{n a b S:Addr}{i:Nat}(z:ZSt h n a b S i)(k:∀c u,c≠S->h.get? c=some u->h'.get? c=some u)(hS:S∉[n+4,n+2,n+3,n,n+1])(hS3:(n+3)≠S):ZSt h' n a b S i:=by
 have ne:∀c∈[n+4,n+2,n+3,n,n+1],c≠S:=fun c hc z=>hS (z ▸ hc)
 obtain⟨z1,z2,z3,z4⟩:=z
 refine⟨?_,k _ _ (ne _ (by simp)) z2,z3.at fun o e=>k _ o (ne _ (by simp)) e,z4.at fun o e=>k _ o (ne _ (by simp)) e⟩
 rcases z1 with⟨q1,p,q,q2⟩ | ⟨T,f,o,q1,q2,q3,q4⟩
 · exact .inl ⟨k _ _ (ne _ (by simp)) q1,p,q,k _ _ hS3 q2⟩
 · exact .inr ⟨T,f,o,k _ _ (ne _ (by simp)) q1,q2,q3,k _ _ q3 q4⟩
theorem zOc {X:Cx}{pins:List (Addr×Obj)}{σ:St}{H:Hp}{s:Shared}(I:Inv X pins σ H s){c d:Addr}{v:List V}(hf:mX X pins H c)(hd:SqL X.K H d v):d≠c:=fun z=>by
 have e:=hf.1
 rcases hd with(hd | ⟨ob,hd⟩) | hd
 · rw[z,e] at hd;cases hd
 · rw[z,e] at hd;cases hd
 · obtain⟨ob,_,_,hk,_⟩:=hd
   have e3:=I.ok.mod.kin d ob hk
   obtain⟨_,q1,_,q3,_⟩:=hf
   rcases q3 with q3 | q3
   · exact I.ok.noex d ob e3 (z ▸ q3)
   · exact absurd (We (Qs (I.ok.bs d ob e3).1) (z ▸ q3)) (Wr _)
theorem zOd {X:Cx}{pins:List (Addr×Obj)}{σ:St}{A:Around}(hh:A.handled=none){n a b S:Addr}{G0 H0:Hp}{ds es:List D}{us ws:List V}{res:Value}{R:Result->Shared->Prop}
   (ha:SqL X.K G0 a us) (ra:Reps X.K G0 ds us) (hb:SqL X.K G0 b ws) (rb:Reps X.K G0 es ws) (hS:S∉[n+4,n+2,n+3,n,n+1]) (hlen:(sU ds es).length<=1000) :
   ∀(k i:Nat) (s:Shared) (H G:Hp) (acc:Array Value) (c:Nat) (vs:List V),Inv X pins σ H s->(∀d∈S::[n+4,n+2,n+3,n,n+1],mX X pins H d)->Step G0 H0 G H->Reps X.K G ((sU ds es).take i) vs->ZSt s.heap n a b S i ->
     s.heap.get? S=some { cls:=.type "list",dict:=none,data:=.seq acc c,slots:=#[] }->Vals vs acc.toList->i+k=(sU ds es).length ->
     (∀s' H' G' acc' c' vs',Inv X pins σ H' s'->Step G0 H0 G' H'->Reps X.K G' (sU ds es) vs'->Vals vs' acc'.toList->s'.heap.get? S=some { cls:=.type "list",dict:=none,data:=.seq acc' c',slots:=#[] }->R (.ok (.ret res)) s') ->
     codeAny (model X.prog X.w) A (.builtin "list.extend.loop" ⟨[.ref S,.ref (n+4),res],[]⟩) R s:=by
 intro k
 have neS:∀c∈[n+4,n+2,n+3,n,n+1],c≠S:=fun c hc z=>hS (z ▸ hc)
 induction k with
 | zero =>
   intro i s H G acc c vs I hf st rv z hs hv hi hR
   refine Rv F.entry_extend_loop ?_
   rw[En F.plain_extend_loop _]
   show wpAny _ A.in1 (pyNext (.ref (n+4)) >>= _) _ _ s
   have hqa:=st.sub.seq (st.gg.seq ha)
   have hqb:=st.sub.seq (st.gg.seq hb)
   obtain⟨its,rva,pa,_⟩:=I.list hqa
   obtain⟨jts,rvb,pb,_⟩:=I.list hqb
   have hl:=zYp ds es
   have la:=ra.length
   have lb:=rb.length
   have lva:=rva.length
   have lvb:=rvb.length
   have hend:its.toArray[i]?=none∨jts.toArray[i]?=none:=by
     rcases Nat.lt_or_ge i its.length with q | q
     · exact .inr (by simp;omega)
     · exact .inl (by simp;omega)
   have ap:∀c∈[n+4,n+2,n+3,n,n+1],∀v d,SqL X.K H d v->d≠c:=fun c hc v d q=>zOc I (hf c (Qd _ hc)) q
   have D:ZipApart (n+4) (n+2) (n+3) n (n+1) a b:=⟨zne 2 4 (by decide),zne 3 4 (by decide),zne 0 4 (by decide),zne 1 4 (by decide),zne 2 3 (by decide),zne 2 0 (by decide),zne 2 1 (by decide),zne 3 0 (by decide),zne 3 1 (by decide),zne 0 1 (by decide),ap _ (by simp) us a hqa,ap _ (by simp) us a hqa,ap _ (by simp) us a hqa,ap _ (by simp) us a hqa,ap _ (by simp) ws b hqb,ap _ (by simp) ws b hqb,ap _ (by simp) ws b hqb,ap _ (by simp) ws b hqb⟩
   have fin:∀h':Heap,(∀c o,c∉[n+4,n+2,n+3,n,n+1]->s.heap.get? c=some o->h'.get? c=some o)->R (.ok (.ret res)) { s with heap:=h' }:=fun h' kk=>by
     have I2:Inv X pins σ H { s with heap:=h' }:=I.turnedL (t':=s.toks) kk fun d hd=>hf d (Qd _ hd)
     rw[show(sU ds es).take i=sU ds es from List.take_of_length_le (by omega)] at rv
     exact hR _ H G acc c vs I2 st rv hv (kk _ _ hS hs)
   obtain⟨z1,z2,z3,z4⟩:=z
   refine Qe ?_
   rcases z1 with⟨q1,p,q,q2⟩ | ⟨T,f,o,q1,q2,q3,q4⟩
   · exact wpAny_pyNext_zip_end hh D q1 z2 q2 z3 z4 pa.isList pb.isList hend fun h' hk=>Qf (fin h' fun c o hc e=>hk c o (fun z=>hc (by simp[z])) (fun z=>hc (by simp[z])) (fun z=>hc (by simp[z])) (fun z=>hc (by simp[z])) e)
   · exact zXc hh D q1 q4 z2 z3 z4 pa.isList pb.isList hend fun h' hk=>Qf (fin h' fun c o hc e=>hk c o (fun z=>hc (by simp[z])) (fun z=>hc (by simp[z])) (fun z=>hc (by simp[z])) e)
 | succ k ih =>
   intro i s H G acc c vs I hf st rv z hs hv hi hR
   refine Rv F.entry_extend_loop ?_
   rw[En F.plain_extend_loop _]
   show wpAny _ A.in1 (pyNext (.ref (n+4)) >>= _) _ _ s
   have hqa:=st.sub.seq (st.gg.seq ha)
   have hqb:=st.sub.seq (st.gg.seq hb)
   obtain⟨its,rva,pa,_⟩:=I.list hqa
   obtain⟨jts,rvb,pb,_⟩:=I.list hqb
   have ap:∀c∈[n+4,n+2,n+3,n,n+1],∀v d,SqL X.K H d v->d≠c:=fun c hc v d q=>zOc I (hf c (Qd _ hc)) q
   have D:ZipApart (n+4) (n+2) (n+3) n (n+1) a b:=⟨zne 2 4 (by decide),zne 3 4 (by decide),zne 0 4 (by decide),zne 1 4 (by decide),zne 2 3 (by decide),zne 2 0 (by decide),zne 2 1 (by decide),zne 3 0 (by decide),zne 3 1 (by decide),zne 0 1 (by decide),ap _ (by simp) us a hqa,ap _ (by simp) us a hqa,ap _ (by simp) us a hqa,ap _ (by simp) us a hqa,ap _ (by simp) ws b hqb,ap _ (by simp) ws b hqb,ap _ (by simp) ws b hqb,ap _ (by simp) ws b hqb⟩
   have hlt:i < (sU ds es).length:=by omega
   obtain⟨x,y,e1,e2,e3⟩:=zYA (Qu hlt)
   obtain⟨v,f1,r1⟩:=ra.get e1
   obtain⟨u,f2,r2⟩:=rb.get e2
   obtain⟨v',g1,q1⟩:=rva.get f1
   obtain⟨u',g2,q2⟩:=rvb.get f2
   have lac:acc.size=i:=by
     have h1:=hv.length;have h2:=rv.length;rw[Yw] at h2;have h3:acc.toList.length=acc.size:=Ex;omega
   have fin:∀h':Heap,IsPair h' s.heap.objs.size v' u'->ZSt h' n a b S (i+1)->(∀c o,c∉[n+4,n+2,n+3,n,n+1]->s.heap.get? c=some o->h'.get? c=some o)->∀c',(h'.update S (Obj.mapSeq (·.push (.ref s.heap.objs.size)))).get? S=some { cls:=.type "list",dict:=none,data:=.seq (acc.push (.ref s.heap.objs.size)) c',slots:=#[] } ->
       codeAny (model X.prog X.w) A (.builtin "list.extend.loop" ⟨[.ref S,.ref (n+4),res],[]⟩) R { s with heap:=h'.update S (Obj.mapSeq (·.push (.ref s.heap.objs.size))) }:=fun h' p zz kk c' eS=>by
     have I1:Inv X pins σ (upd H s.heap.objs.size (.tup [v,u])) { s with heap:=h' }:=I.turnedNew (t':=s.toks) kk (fun d hd=>hf d (Qd _ hd)) (Ql _) ⟨by show 2<=sizeLine;exact Wx (vO (by decide)),[v',u'],.cons q1 (.cons q2 .nil),⟨_,p,rfl,_,rfl⟩⟩
     have lt:∀d∈S::[n+4,n+2,n+3,n,n+1],d < s.heap.objs.size:=fun d hd=>by
       obtain⟨z1,z2,⟨o3,z3,_⟩,⟨o4,z4,_⟩⟩:=z
       simp only[Qa,Wi,Rr] at hd
       rcases hd with q | q | q | q | q | q
       · rw[q];exact Qs hs
       · rw[q]
         rcases z1 with⟨q1,_⟩ | ⟨T,f,o,q1,_⟩
         · exact Qs q1
         · exact Qs q1
       · rw[q];exact Qs z2
       · rw[q];exact Nat.lt_of_succ_lt (show n+4 < _ from by
           rcases z1 with⟨q1,_⟩ | ⟨T,f,o,q1,_⟩
           · exact Qs q1
           · exact Qs q1)
       · rw[q];exact Qs z3
       · rw[q];exact Qs z4
     have hf1:∀d∈S::[n+4,n+2,n+3,n,n+1],mX X pins (upd H s.heap.objs.size (.tup [v,u])) d:=fun d hd=>⟨by rw[yI (Wm (lt d hd))];exact(hf d hd).1,(hf d hd).2⟩
     have oth:∀c o,c≠S->h'.get? c=some o->(h'.update S (Obj.mapSeq (·.push (.ref s.heap.objs.size)))).get? c=some o:=fun c o hc e=>(Rf _ _ (Ne.symm hc)).trans e
     have I2:Inv X pins σ (upd H s.heap.objs.size (.tup [v,u])) { s with heap:=h'.update S (Obj.mapSeq (·.push (.ref s.heap.objs.size))) }:=Inv.turnedL (s:={ s with heap:=h' }) (h':=h'.update S (Obj.mapSeq (·.push (.ref s.heap.objs.size)))) (t':=s.toks) (fp:=[S]) I1 (fun c o hc e=>oth c o (fun z=>hc (by simp[z])) e) fun d hd=>hf1 d (by
       rw[Wk] at hd;rw[hd];exact Qh)
     have st1:=Step.laid (o:=.tup [v,u]) st.sub I.fresh
     have st2:=st.trans st1
     have r3:Rep X.K (upd G s.heap.objs.size (.tup [v,u])) (.tup [x,y]) (.ref s.heap.objs.size):=yF.mpr ⟨_,_,rfl,.of yX,zE.mpr ⟨_,_,rfl,r1.mono st2.gg,zE.mpr ⟨_,_,rfl,r2.mono st2.gg,yV.mpr rfl⟩⟩⟩
     have r4:Reps X.K (upd G s.heap.objs.size (.tup [v,u])) ((sU ds es).take (i+1)) (vs++[.ref s.heap.objs.size]):=by
       rw[List.take_succ_eq_append_getElem hlt,e3]
       exact(rv.mono st1.gg).snoc r3
     exact ih (i+1) _ _ _ _ _ _ I2 hf1 st2 r4 (zz.keep oth hS (neS _ (by simp))) eS (by rw[Array.toList_push];exact hv.snoc rfl) (by omega) hR
   have lsz:acc.size<=1000:=by omega
   have hsl:1001<=sizeLine:=Wx (vO (by decide))
   obtain⟨z1,z2,z3,z4⟩:=z
   refine Qe ?_
   have nT:∀d∈S::[n+4,n+2,n+3,n,n+1],∀u,s.heap.get? d=some u->d≠s.heap.objs.size:=fun d _ u e=>Wm (Qs e)
   rcases z1 with⟨q1,p,q,q2⟩ | ⟨T,f,o,q1,q2,q3,q4⟩
   · refine wpAny_pyNext_zip_item D q1 z2 q2 z3 z4 pa.isList pb.isList (by simpa using g1) (by simpa using g2) fun h' a1 a2 a3 a4 a5 a6 hk=>?_
     have kk:∀c o,c∉[n+4,n+2,n+3,n,n+1]->s.heap.get? c=some o->h'.get? c=some o:=fun c o hc e=>hk c o (fun z=>hc (by simp[z])) (fun z=>hc (by simp[z])) (fun z=>hc (by simp[z])) (fun z=>hc (by simp[z])) e
     have hS':=kk _ _ hS hs
     have zz:ZSt h' n a b S (i+1):=by
       refine⟨.inr ⟨s.heap.objs.size,false,_,a1,fun hm=>?_,fun z=>?_,a5⟩,hk _ _ D.TIz D.TITO D.TIi1 D.TIi2 z2,a3,a4⟩
       · obtain⟨o3,e3,_⟩:=z3
         obtain⟨o4,e4,_⟩:=z4
         simp only[Qa,Wi,Rr] at hm
         rcases hm with z | z | z | z | z
         · exact absurd (z ▸ Qs q1) (Wr _)
         · exact absurd (z ▸ Qs z2) (Wr _)
         · exact absurd (z ▸ Qs q2) (Wr _)
         · exact absurd (z ▸ Qs e3) (Wr _)
         · exact absurd (z ▸ Qs e4) (Wr _)
       · exact absurd (z ▸ Qs hs) (Wr _)
     show wpAny _ A.in1 (updateSeq S (·.push (.ref s.heap.objs.size)) >>= _) _ _ _
     refine Qe (Yd hS' rfl (Qf ⟨Rb F.plain_extend_loop _,fin h' a5 zz kk _ (Rw _ hS' rfl)⟩) ?_ ?_)
     · show acc.size<=sizeLine;omega
     · show(acc.push _).size<=sizeLine+1;rw[Array.size_push];omega
   · refine zYq D q1 q4 z2 z3 z4 pa.isList pb.isList (by simpa using g1) (by simpa using g2) fun h' a1 a2 a3 a4 hk=>?_
     have kk:∀c o,c∉[n+4,n+2,n+3,n,n+1]->s.heap.get? c=some o->h'.get? c=some o:=fun c o hc e=>hk c o (fun z=>hc (by simp[z])) (fun z=>hc (by simp[z])) (fun z=>hc (by simp[z])) e
     have hS':=kk _ _ hS hs
     have zz:ZSt h' n a b S (i+1):=⟨.inr ⟨T,true,_,a1,q2,q3,kk _ _ q2 q4⟩,hk _ _ D.TIz D.TIi1 D.TIi2 z2,a2,a3⟩
     show wpAny _ A.in1 (updateSeq S (·.push (.ref s.heap.objs.size)) >>= _) _ _ _
     refine Qe (Yd hS' rfl (Qf ⟨Rb F.plain_extend_loop _,fin h' a4 zz kk _ (Rw _ hS' rfl)⟩) ?_ ?_)
     · show acc.size<=sizeLine;omega
     · show(acc.push _).size<=sizeLine+1;rw[Array.size_push];omega
theorem zRy:typeLookup (.type "zip") "__len__"=pure none:=by rw[Ud,Tb];kernel_rfl
theorem zUg:typeLookup (.type "zip") "__length_hint__"=pure none:=by rw[Ud,Tb];kernel_rfl
theorem zUp {X:Cx}{pins:List (Addr×Obj)}{σ:St}{A:Around}{E:Value->Shared->Prop}{s:Shared}{Q:List Value->Shared->Prop}(hh:A.handled=none){n a b:Addr}{G0 H0:Hp}{ds es:List D}{us ws:List V}
   (ha:SqL X.K G0 a us) (ra:Reps X.K G0 ds us) (hb:SqL X.K G0 b ws) (rb:Reps X.K G0 es ws) (hlen:(sU ds es).length<=1000) (I:Inv X pins σ H0 s) (hs:Same G0 H0) (hf:∀d∈[n+4,n+2,n+3,n,n+1],mX X pins H0 d)
   (z1:IsZip s.heap (n+4) (n+2) (n+3) .none) (z2:IsPair s.heap (n+2) (.ref n) (.ref (n+1))) (z3:IsPair s.heap (n+3) .none .none) (z4:s.heap.IsListIter n a 0) (z5:s.heap.IsListIter (n+1) b 0)
   (hQ:∀(s':Shared) (H' G':Hp) (acc:Array Value) (vs:List V),Inv X pins σ H' s'->Step G0 H0 G' H'->Reps X.K G' (sU ds es) vs->Vals vs acc.toList->Q acc.toList s'):wpAny (model X.prog X.w) A (collect (.ref (n+4))) Q E s:=by
 have lt:∀d∈[n+4,n+2,n+3,n,n+1],d < s.heap.objs.size:=fun d hd=>by
   obtain⟨o4,e4,_⟩:=z4
   obtain⟨o5,e5,_⟩:=z5
   simp only[Qa,Wi,Rr] at hd
   rcases hd with q | q | q | q | q
   · rw[q];exact Qs z1
   · rw[q];exact Qs z2
   · rw[q];exact Qs z3
   · rw[q];exact Qs e4
   · rw[q];exact Qs e5
 have hS:s.heap.objs.size∉[n+4,n+2,n+3,n,n+1]:=fun hm=>Wr _ (lt _ hm)
 have hSI:s.heap.objs.size≠n+4:=fun e=>hS (by rw[e];simp)
 have hT:∀h':Heap,IsZip h' (n+4) (n+2) (n+3) .none->Shared.TypeIs { s with heap:=h' } (.ref (n+4)) "zip":=fun h' q=>⟨_,q,rfl⟩
 unfold collect
 refine Qe (wpAny_runValue (Rv F.entry_proto_collect ?_))
 rw[En F.plain_proto_collect _]
 show wpAny _ A.in1 (newList [] >>= fun l=>again (.builtin "list.__iadd__" ⟨[l,.ref (n+4)],[]⟩)) _ _ s
 refine Qe (Eb ?_)
 refine Qf ⟨Rb F.plain_list_iadd _,Rv F.entry_list_iadd ?_⟩
 rw[En F.plain_list_iadd _]
 show wpAny _ A.in1 (Builtin.List.listExtendWith (.ref s.heap.objs.size) (.ref (n+4)) (.ref s.heap.objs.size)) _ _ _
 have y1:IsZip (s.heap.push { cls:=.type "list",data:=.seq ([]:List Value).toArray }) (n+4) (n+2) (n+3) .none:=Qr _ z1
 unfold Builtin.List.listExtendWith
 refine Qe (Yg (hT _ y1) ?_)
 have h1:Builtin.List.listSameRef (.ref s.heap.objs.size) (.ref (n+4))=false:=by simp[Builtin.List.listSameRef,hSI]
 have h2:(Value.type "zip"==Value.type "list")=false:=by decide
 have h3:(Value.type "zip"==Value.type "tuple")=false:=by decide
 simp only[h1,h2,h3,Bool.or_false,Wo,Ro]
 refine Qe (Oe y1 ?_)
 refine Qe (Ru ?_)
 unfold Builtin.List.listLengthHint
 refine Qe (Yf (hT _ y1) zRy ?_)
 show wpAny _ A.in1 (specialOf (Value.ref (n+4)) (Str.ofString "__length_hint__") >>= _) _ _ _
 refine Qe (Yf (hT _ y1) zUg ?_)
 refine Qf ?_
 show wpAny _ A.in1 (rule "list.extend.makes-room" >>= fun _=>Builtin.List.listTouch (.ref s.heap.objs.size) >>= fun _ =>
   again (.builtin "list.extend.loop" ⟨[.ref s.heap.objs.size,.ref (n+4),.ref s.heap.objs.size],[]⟩)) _ _ _
 refine Qe (Ux ?_)
 have hS₁:(s.heap.push { cls:=.type "list",data:=.seq ([]:List Value).toArray }).get? s.heap.objs.size=some { cls:=.type "list",data:=.seq ([]:List Value).toArray }:=Qk _ rfl
 refine Qe ?_
 show wpAny _ A.in1 (updateSeq s.heap.objs.size (·.push .none) >>= fun _=>updateSeq s.heap.objs.size (·.pop)) _ _ _
 refine Qe (Yd hS₁ rfl ?_)
 have hS₂:=Rw (Obj.mapSeq (·.push Value.none)) hS₁ rfl
 refine Yd hS₂ rfl ?_
 have hS₃ := Rw (Obj.mapSeq (·.pop)) hS₂ rfl
 have oth:∀b o,b≠s.heap.objs.size->s.heap.get? b=some o ->
     (((s.heap.push { cls:=.type "list",data:=.seq ([]:List Value).toArray }).update s.heap.objs.size (Obj.mapSeq (·.push Value.none))).update s.heap.objs.size (Obj.mapSeq (·.pop))).get? b=some o :=
   fun b o hb e=>(Rf _ _ (Ne.symm hb)).trans ((Rf _ _ (Ne.symm hb)).trans (Qr _ e))
 have oth':∀b o,s.heap.get? b=some o->_:=fun b o e=>oth b o (Wm (Qs e)) e
 have I3:Inv X pins σ H0 { s with heap:=((s.heap.push { cls:=.type "list",data:=.seq ([]:List Value).toArray }).update s.heap.objs.size (Obj.mapSeq (·.push Value.none))).update s.heap.objs.size (Obj.mapSeq (·.pop)) }:=I.kept (t':=s.toks) oth'
 refine Qf ⟨Rb F.plain_extend_loop _,zOd (S:=s.heap.objs.size) (A:=A) hh ha ra hb rb hS hlen _ 0 _ H0 G0 _ _ [] I3 (fun d hd=>?_) (Step.refl hs) (yV.mpr rfl) ⟨.inl ⟨oth' _ _ z1,_,_,oth' _ _ z3⟩,oth' _ _ z2,z4.at fun o e=>oth' _ o e,z5.at fun o e=>oth' _ o e⟩ hS₃ .nil (Nat.zero_add _) fun s' H' G' acc' c' vs' J st rv hv hg=>?_⟩
 · rcases Qa.mp hd with q | q
   · rw[q];exact I.fpOk (Ql _) (I.hok.fresh (Ql _))
   · exact hf d q
 · show wpAny _ A (load s.heap.objs.size >>= _) _ _ s'
   refine Qe (wpAny_load hg ?_)
   exact Qf (hQ s' H' G' acc' vs' J st rv hv)
open AutoSeq1 (wpAny_loadPart') in
theorem zT5 {X:Cx}{pins:List (Addr×Obj)}{σ:St}{A:Around}{E:Value->Shared->Prop}{s:Shared}{Q:Value->Shared->Prop}(hh:A.handled=none){n a b:Addr}{G0 H0:Hp}{ds es:List D}{us ws:List V}
   (ha:SqL X.K G0 a us) (ra:Reps X.K G0 ds us) (hb:SqL X.K G0 b ws) (rb:Reps X.K G0 es ws) (hlen:(sU ds es).length<=1000) (I:Inv X pins σ H0 s) (hs:Same G0 H0) (hf:∀d∈[n+4,n+2,n+3,n,n+1],mX X pins H0 d)
   (z1:IsZip s.heap (n+4) (n+2) (n+3) .none) (z2:IsPair s.heap (n+2) (.ref n) (.ref (n+1))) (z3:IsPair s.heap (n+3) .none .none) (z4:s.heap.IsListIter n a 0) (z5:s.heap.IsListIter (n+1) b 0)
   (hQ:∀(s':Shared) (H' G':Hp) (acc:Array Value) (vs:List V),Inv X pins σ H' s'->Step G0 H0 G' H'->Reps X.K G' (sU ds es) vs->Vals vs acc.toList->Q (.ref s'.heap.objs.size) { s' with heap:=s'.heap.push { cls:=.type "tuple",data:=.seq acc } }) :
   codeAny (model X.prog X.w) A (.call (.builtin "tuple.__new__") ⟨[.type "tuple",.ref (n+4)],[]⟩) (wants Q E) s:=by
 refine codeAny_of_tree ?_
 show wpAny _ A.in1 (do checkBuiltinCall "tuple.__new__" ⟨[.type "tuple",.ref (n+4)],[]⟩;again (.builtin "tuple.__new__" ⟨[.type "tuple",.ref (n+4)],[]⟩)) _ _ s
 refine Qe (wpAny_of_eq (F.newCall_tuple_1 _) (Qf ⟨Rb F.plain_tuple_new _,Rv F.entry_tuple_new ?_⟩))
 rw[En F.plain_tuple_new _]
 have hsub:=sub_tuple_self
 have hinit:=init_tuple_lookup
 have hmh:=madeHere_tuple
 have hTI:s.TypeIs (.ref (n+4)) "zip":=⟨_,z1,rfl⟩
 have hh1:A.in1.handled=none:=by simp[hh]
 wp_walk using Yg hTI,zUp (A:=A.in1) hh1 ha ra hb rb hlen I hs hf z1 z2 z3 z4 z5
 intro s' H' G' acc vs J st rv hv
 show wpAny _ _ (Builtin.Tuple.tupleExact acc.toList.toArray >>= fun v=>ret v) _ _ _
 unfold Builtin.Tuple.tupleExact
 have hsl:1001<=sizeLine:=Wx (vO (by decide))
 have h1:=hv.length
 have h2:=rv.length
 have h3:acc.toList.length=acc.size:=Ex
 refine Qe (Eb ?_ (by show acc.toList.toArray.size<=sizeLine;simp only[Array.toArray_toList];omega))
 refine Qf ?_
 have e:acc.toList.toArray=acc:=by simp
 rw[e]
 exact hQ s' H' G' acc vs J st rv hv
theorem zTv {X:Cx}{pins:List (Addr×Obj)}{σ:St}{A:Around}{E:Value->Shared->Prop}{s:Shared}{Q:Value->Shared->Prop}(hh:A.handled=none){n a b:Addr}{G0 H0:Hp}{ds es:List D}{us ws:List V}
   (ha:SqL X.K G0 a us) (ra:Reps X.K G0 ds us) (hb:SqL X.K G0 b ws) (rb:Reps X.K G0 es ws) (hlen:(sU ds es).length<=1000) (I:Inv X pins σ H0 s) (hs:Same G0 H0) (hf:∀d∈[n+4,n+2,n+3,n,n+1],mX X pins H0 d)
   (z1:IsZip s.heap (n+4) (n+2) (n+3) .none) (z2:IsPair s.heap (n+2) (.ref n) (.ref (n+1))) (z3:IsPair s.heap (n+3) .none .none) (z4:s.heap.IsListIter n a 0) (z5:s.heap.IsListIter (n+1) b 0)
   (hQ:∀(s':Shared) (H' G':Hp) (acc:Array Value) (vs:List V),Inv X pins σ H' s'->Step G0 H0 G' H'->Reps X.K G' (sU ds es) vs->Vals vs acc.toList->Q (.ref s'.heap.objs.size) { s' with heap:=s'.heap.push { cls:=.type "tuple",data:=.seq acc } }) :
   wpAny (model X.prog X.w) A (call (.type "tuple") [.ref (n+4)]) Q E s:=by
 refine callType_codes (Q₁:=fun obj s₁=>s₁.TypeIs obj "tuple"/\Q obj s₁) F.called_tuple (F.typeCall_tuple_1 _) F.entry_object_init
   (zT5 (by simp[hh]) ha ra hb rb hlen I hs hf z1 z2 z3 z4 z5 fun s' H' G' acc vs J st rv hv=>⟨⟨_,Qk _ rfl,rfl⟩,hQ s' H' G' acc vs J st rv hv⟩) fun obj s₁ h₁=>?_
 exact⟨h₁.1,F.args_object_init_2 obj _,object_init_meets F.called_tuple.init.lookup F.called_tuple.made (by decide) X.prog X.w A.in1 _ s₁ ⟨h₁.1,rfl,h₁.2⟩⟩
section
variable {X:Cx} {a b e:Expr} {fa fb:Ef} {pos p p2:Pos} {st:Stmt}
def zUG (f g:Ef):Ef:=fun ρ=>(f ρ).bind fun x=>(g ρ).bind fun y=>match x,y with | .lst xs,.lst ys=>if (sU xs ys).length<=1000 then some (.tup (sU xs ys)) else none | _,_=>none
theorem zOR {pos':Pos}(hc:X.calm=true)(hg:Gl X "tuple")(hm:X.mg "tuple"=none)(hg':Gl X "zip")(hm':X.mg "zip"=none)(ha:PF X a fa)(hb:PF X b fb)(hs:starEach [a,b] X.env=[(false,eval a X.env),(false,eval b X.env)]:=by rfl)(hs2:starEach [b] X.env=[(false,eval b X.env)]:=by rfl)
   (hs3:starEach [Expr.Call (.Name "zip" p2) [a,b] [] pos'] X.env=[(false,eval (.Call (.Name "zip" p2) [a,b] [] pos') X.env)]:=by rfl) :
   PF X (.Call (.Name "tuple" p) [.Call (.Name "zip" p2) [a,b] [] pos'] [] pos) (zUG fa fb):=by
 intro pins s σ H Q I q
 obtain⟨G0,H0,G,ρ,d,good,hf,kk⟩:=q
 unfold zUG at hf
 obtain⟨x,h1,hf⟩:=Qq.mp hf
 obtain⟨y,h2,hf⟩:=Qq.mp hf
 cases x with
 | lst xs =>
   cases y with
   | lst ys =>
     dsimp only at hf
     split at hf
     · rename_i hz
       cases hf
       have hA:=yY ha (yY hb yK (by rw[hs2];rfl)) (by rw[hs,hs2]) pos' pins s σ H (fun vs H'=>∃a b us ws G',vs=[.ref a,.ref b]/\Step G H G' H'/\SqL X.K G' a us/\Reps X.K G' xs us/\SqL X.K G' b ws/\Reps X.K G' ys ws) I
         ⟨G0,H0,G,ρ,_,good,h1,fun v H1 G1 s1 r1=>⟨G0,H0,G1,ρ,_,good.step s1,h2,fun u H2 G2 s2 r2=>by
           obtain⟨a,us,rfl,q1,q2⟩:=xH.mp (r1.mono s2.gg)
           obtain⟨b,ws,rfl,q3,q4⟩:=xH.mp r2
           exact⟨a,b,us,ws,G2,rfl,s1.trans s2,q1,q2,q3,q4⟩⟩⟩
       refine Call_ (qD I hg hm (by rfl) (Wj (rest:=[]) ?_ (by rw[hs3];rfl) (by rfl)))
       rw[hs3]
       refine Iy (Call_ (qD I hg' hm' (by rfl) (Wj (thn hA fun us s1 ⟨vs,H1,I1,r1,l1,l2,ws,zs,G1,e1,st1,q1,q2,q3,q4⟩=>?_) (by rw[hs,hs2]) (by rw[hs2];rfl))))
       subst e1
       obtain⟨u,u',rfl,ru,ru'⟩:=zT4 r1
       cases ru
       cases ru'
       obtain⟨its,rv,p1,_⟩:=I1.list (st1.sub.seq q1)
       obtain⟨jts,rv',p2,_⟩:=I1.list (st1.sub.seq q3)
       refine call_zip_2 p1.isList p2.isList fun h' z1 z2 z3 z4 z5 _ hk=>?_
       have I2:Inv X pins σ H1 { s1 with heap:=h' }:=I1.kept (t':=s1.toks) hk
       refine Ij ?_
       refine zTv (I.ok.hd hc) q1 q2 q3 q4 hz I2 st1.sub (fun d hd=>?_) z1 z2 z3 z4 z5 fun s' H' G' acc vs J st rv hv=>?_
       · have hb':s1.heap.objs.size<=d:=by
           simp only[Qa,Wi,Rr] at hd
           rcases hd with z | z | z | z | z<;>(rw[z];first | exact Ql _ | exact Nat.le_add_right _ _)
         exact I1.fpOk hb' (I1.hok.fresh hb')
       · have hl:=rv.length
         have hsl:1001<=sizeLine:=Wx (vO (by decide))
         have I3:Inv X pins σ (upd H' s'.heap.objs.size (.tup vs)) { s' with heap:=s'.heap.push { cls:=.type "tuple",data:=.seq acc } } :=
           J.laid (t':=s'.toks) (fun b o e=>Qr _ e) (Ql _) (show ObjOk X.prog X.w _ _ _ (.tup vs) from⟨by omega,acc.toList,hv,by have:=IsTup.new s'.heap acc;simpa using this⟩)
         have fr:H' s'.heap.objs.size=none:=J.hok.fresh (Ql _)
         have s4:=Step.laid (o:=.tup vs) st.sub fr
         exact⟨.ref s'.heap.objs.size,_,I3,rfl,kk _ _ _ ((st1.trans st).trans s4) (yF.mpr ⟨_,_,rfl,.of yX,rv.mono s4.gg⟩)⟩
     · cases hf
   | _=>cases hf
 | _=>cases hf
def zUb (x:Str)(l:Int):Str:=⟨((Builtin.Str.strSliceIndices (some l) none 2 x.length).filterMap (x.cps[·]?)).toArray⟩
def zRv (f fl fs:Ef):Ef:=fun ρ=>(f ρ).bind fun d=>(tT fl ρ).bind fun l=>(tT fs ρ).bind fun k=>match d,l,k with | .str x,some i,some j=>if j=2/\(zUb x i).length<=lim then some (.str (zUb x i)) else none | _,_,_=>none
theorem zSO {lo st:Expr}{fl fs:Ef}(ha:PF X a fa)(hl:PF X lo fl)(hst:PF X st fs):PF X (.Subscript a (.Slice (some lo) none (some st) p2) pos) (zRv fa fl fs):=by
 intro pins s σ H Q I q
 obtain⟨G0,H0,G,ρ,d,good,hf,kk⟩:=q
 unfold zRv at hf
 obtain⟨x,h1,hf⟩:=Qq.mp hf
 obtain⟨l,h2,hf⟩:=Qq.mp hf
 obtain⟨k,h3,hf⟩:=Qq.mp hf
 cases x with
 | str z=>cases l with
  | none=>cases hf
  | some i=>cases k with
   | none=>cases hf
   | some j =>
    dsimp only at hf
    split at hf
    · rename_i hj
      obtain⟨rfl,hz⟩:=hj
      cases hf
      refine Subscript_ (thn (ha pins s σ H (fun v H1=>∃G1,Step G H G1 H1/\v = .str z) I ⟨G0,H0,G,ρ,_,good,h1,fun v H1 G1 s1 r1=>⟨G1,s1,yM.mp r1⟩⟩) fun v s1 ⟨x,H1,I1,r1,G1,st1,e1⟩=>?_)
      subst e1
      obtain⟨t,rfl⟩:=r1
      refine wpAny_Slice (thn (dO hl pins s1 σ H1 (fun o H2=>∃G2,Step G H G2 H2/\o=some i) I1 ⟨G0,H0,G1,ρ,_,good.step st1,h2,fun H2 G2 s2=>⟨G2,st1.trans s2,rfl⟩⟩) fun vl s2 ⟨l',H2,I2,pl,G2,st2,e2⟩=>?_)
      subst e2
      rw[evalPart_none]
      refine Qf (thn (dO hst pins s2 σ H2 (fun o H3=>∃G3,Step G H G3 H3/\o=some 2) I2 ⟨G0,H0,G2,ρ,_,good.step st2,h3,fun H3 G3 s3=>⟨G3,st2.trans s3,rfl⟩⟩) fun vk s3 ⟨k',H3,I3,pk,G3,st3,e3⟩=>?_)
      subst e3
      cases pl with
      | int _ ti =>
        cases pk with
        | int _ tk =>
          have I4:Inv X pins σ H3 { s3 with heap:=s3.heap.push { cls:=.type "slice",data:=.fields #[.int i ti,.none,.int 2 tk] } }:=I3.kept (t':=s3.toks) fun b ob q=>Qr _ q
          have fin:∀t' k,EP X pins σ Q (.str (zUb z i) t') { ({ s3 with heap:=s3.heap.push { cls:=.type "slice",data:=.fields #[.int i ti,.none,.int 2 tk] } }:Shared) with toks:=k }:=fun t' k=>⟨.str (zUb z i),H3,I4.tok k,⟨t',rfl⟩,kk _ _ _ st3 (yM.mpr rfl)⟩
          show wpAny (model X.prog X.w) X.A (subscriptTail a (.Slice (some lo) none (some st) p2) (.str z t) (.ref s3.heap.objs.size)) (EP X pins σ Q) X.xe _
          refine Oi (ops:=[.ref s3.heap.objs.size,.str z t]) (T:="str") (Uz _ z t) F.slot_str_getitem.lookup ?_ (by with_unfolding_all rfl)
          exact wpAny_getItem_str_slice (l:=some (i,ti)) (u:=none) (st:=some (2,tk)) ⟨_,Qk _ rfl,rfl,rfl⟩ rfl (show((Made.str (zUb z i)).post _ _) from⟨Wx (vO hz),fin _ _⟩)
    · cases hf
 | _=>cases hf
end
end L2
namespace L2
open PySem PySem.Spec PyProof.Rows
open PySem.W
end L2
namespace L2
open PySem PySem.Spec PySem.W
end L2
namespace L2
open PySem PySem.Spec PySem.W
open Builtin Builtin.ObjectAttr
def zU6:List Value->Bool
 | []=>false
 | v::r=>(v::r)==[.type "ValueError",.type "Exception",.type "BaseException",.type "object"]||match v with | .ref _=>zU6 r | _=>false
end L2
namespace L2
open PySem PySem.Spec PyProof.Rows
structure XKit (K:PySem.W.Frag)(C:Addr):Prop where
 cl:(PySem.W.clsIn K C).isSome=true
 ga:PySem.W.findIn K (.ref C) "__getattribute__"=some (some (.builtin "BaseException.__getattribute__"))
 gt:PySem.W.findIn K (.ref C) "__getattr__"=some none
 gc:PySem.W.findIn K (.ref C) "__class__"=some (some (.builtin "object.__class__"))
 so:PySem.W.subIn K (.ref C) (.type "object")=some true
 sb:PySem.W.subIn K (.ref C) (.type "BaseException")=some true
def zIh (K:PySem.W.Frag)(C:Addr):Prop:=∃nm q N bs bm sn sub ab col dd k0 k1 k2 k3 k5,K.lookup C=some (excClassObj nm q C N bs bm true sn sub ab col dd k0 k1 k2 k3 k5 "ValueError.__new__")/\zU6 bm=true
section
structure XSt (K:PySem.W.Frag)(C:Addr):Prop where
 kit:XKit K C
 ob:zIh K C
 sa:PySem.W.findIn K (.ref C) "__setattr__"=some (some (.builtin "object.__setattr__"))
end
structure XMk (K:PySem.W.Frag)(C f:Addr):Prop where
 ob:zIh K C
 init:PySem.W.findIn K (.ref C) "__init__"=some (some (.ref f))
 fn:PySem.W.isFn K (.ref f)=true
 kp:PySem.W.keepIn K (.ref C)=true
def zMD (h:Heap)(e:Addr)(v:Value):Prop:=v = .none∨∃T oT ts,v = .ref T/\T≠e/\h.get? T=some oT/\oT.data = .fields ts/\ts[3]?=some .none
structure Flew (fs:List Addr)(e:Addr)(c:Value)(od:Option Addr)(vs:Array Value)(sl:Array (Option Value))(h h':Heap):Prop where
 obj:h'.get? e=some { cls:=c,dict:=od,data:=.fields (vs.setIfInBounds 1 (.ref h.objs.size)),slots:=sl }
 ne:h.objs.size≠e
 head:∃oT ts,h'.get? h.objs.size=some oT/\oT.data = .fields ts/\ts[3]?=some .none
 keep:∀b o,h.get? b=some o->b≠e->b∉fs->some (Value.ref b)≠vs[1]?->h'.get? b=some o
 slot:∀b o,h.get? b=some o->b≠e->b∈fs->some (Value.ref b)≠vs[1]?->∃z,h'.get? b=some { o with slots:=z }
structure Fly (h:Heap)(H:Hp)(h0:Heap)(C a:Addr):Prop where
 ob:∃vs v,h.get? a=some { cls:=.ref C,dict:=none,data:=.fields vs,slots:=#[] }/\vs[1]?=some v/\zMD h a v/\∀T,v = .ref T->H T=none/\h0.get? T=none
 free:H a=none
 new:h0.get? a=none
section
structure Z3 (z TI TO i1 i2 i3 l1 l2 l3:Addr):Prop where
 TIz:TI≠z
 TOz:TO≠z
 i1z:i1≠z
 i2z:i2≠z
 i3z:i3≠z
 TITO:TI≠TO
 TIi1:TI≠i1
 TIi2:TI≠i2
 TIi3:TI≠i3
 TOi1:TO≠i1
 TOi2:TO≠i2
 TOi3:TO≠i3
 i12:i1≠i2
 i13:i1≠i3
 i23:i2≠i3
 a1:l1≠z
 a2:l1≠TO
 a3:l1≠i1
 a4:l1≠i2
 a5:l1≠i3
 b1:l2≠z
 b2:l2≠TO
 b3:l2≠i1
 b4:l2≠i2
 b5:l2≠i3
 c1:l3≠z
 c2:l3≠TO
 c3:l3≠i1
 c4:l3≠i2
 c5:l3≠i3
end
end L2
namespace L2
open PySem PySem.Spec PyProof.Rows
section
variable {X:Cx} {a b:Expr} {fa fb:Ef} {pos p:Pos}
def zOD (fa fb:Ef):Ef:=fun ρ=>(fa ρ).bind fun x=>(fb ρ).bind fun y=>match x,y with | .int i,.int j=>some (.int (if j < i then j else i)) | _,_=>none
theorem zKg (hc:X.calm=true)(hg:Gl X "min")(hm:X.mg "min"=none)(ha:PF X a fa)(hb:PF X b fb)(hs:starEach [a,b] X.env=[(false,eval a X.env),(false,eval b X.env)]:=by rfl)(hs2:starEach [b] X.env=[(false,eval b X.env)]:=by rfl) :
   PF X (.Call (.Name "min" p) [a,b] [] pos) (zOD fa fb):=by
 refine PE.to (qV (zPU hc) hg hm (by rfl) (yY ha (yY hb yK (by rw[hs2];rfl)) (by rw[hs,hs2])) (by decide) (by decide) (by rw[hs,hs2]) (by rw[hs2];rfl)) ?_
 rintro σ H Q ⟨G0,H0,G,ρ,d,good,hf,k⟩
 unfold zOD at hf
 obtain⟨x,h1,hf⟩:=Qq.mp hf
 obtain⟨y,h2,hf⟩:=Qq.mp hf
 split at hf
 · rename_i i j _h
   cases hf
   exact⟨G0,H0,G,ρ,_,good,h1,fun v H1 G1 s1 r1=>⟨G0,H0,G1,ρ,_,good.step s1,h2,fun u H2 G2 s2 r2=>⟨i,j,by rw[zG.mp r1,zG.mp r2],k _ _ G2 (s1.trans s2) (zG.mpr rfl)⟩⟩⟩
 · cases hf
theorem zWJ:∀ {ns:List Int} {its:List Value},Vals (ns.map V.int) its->∃ps:List (Int×Tok),its=ps.map (fun p=>Value.int p.1 p.2)/\ps.map (·.1)=ns
 | [],_,h=>by cases h;exact⟨[],rfl,rfl⟩
 | n::ns,_,h=>by
   cases h with
   | cons h1 h2 =>
     obtain⟨t,rfl⟩:=h1
     obtain⟨ps,rfl,rfl⟩:=zWJ h2
     exact⟨(n,t)::ps,rfl,rfl⟩
end
section
variable {prog:Program} {w:World} {A:Around} {E:Value->Shared->Prop} {s:Shared}
theorem zOF {t b:Addr}{vs ws:List Value}{Q:Value->Shared->Prop}(ht:IsTup s.heap t vs.toArray)(hb:IsTup s.heap b ws.toArray)(hv:vs=[])(h:Q (.ref b) s):wpAny (model prog w) A (binaryOp .Add (.ref t) (.ref b)) Q E s:=by
 obtain⟨⟨cls,dd,data,sl⟩,ho,hc,n,hd⟩:=id ht
 obtain⟨⟨cls2,dd2,data2,sl2⟩,ho2,hc2,n2,hd2⟩:=id hb
 simp only at hc hd hc2 hd2
 subst hc hd hc2 hd2
 exact Ic ⟨_,ho,rfl⟩ ⟨_,ho2,rfl⟩ Oq seq_tuple_add Ur Yb (Yl _ _)
     (tuple_addW0 t b vs.toArray ws.toArray n n2 dd dd2 sl sl2 (by simp[hv])) ⟨ho,ho2,h⟩
open HT in
theorem dY {t sl:Addr}{items:Array Value}{vl vu:Value}{lo hi:Option Int}{Q:Value->Shared->Prop}(ht:IsTup s.heap t items)(hs:s.heap.IsSliceOf sl vl vu .none)(pl:IsPart vl lo)(pu:IsPart vu hi)
   (hw:sIx items.size 0 lo=0/\sIx items.size items.size hi=items.size)
   (h:Q (.ref t) s):wpAny (model prog w) A (getItem (.ref t) (.ref sl)) Q E s:=by
 obtain⟨os,hos,hcs,hds⟩:=id hs
 have hTs:s.TypeIs (.ref sl) "slice":=⟨os,hos,hcs⟩
 unfold getItem
 try with_reducible refine Ru ?_
 first | refine Qe (Qf ?_) | skip
 refine Qe (wpAny_sequenceKey ht.typeIs (by decide) ?_)
 refine Qe (El (name:=Str.ofString "__getitem__") ht.typeIs Rc
   (Rg Rc ht.typeIs entry_tuple_getitem ?_ (args_tuple_getitem _ _)))
 show wpAny _ _ (Builtin.Tuple.tupleItemsOf (.ref t) >>= _) _ _ s
 refine Qe (tupleItemsOf_ ht ?_)
 refine Qe (Yg hTs ?_)
 rw[Qb (by decide)]
 refine Qe (kR hs pl pu ?_)
 show wpAny _ _ (if (((sIx items.size 0 lo:Nat):Int)==0&&(1:Int)==1&&(sIx items.size items.size hi - sIx items.size 0 lo)==items.size)=true then _ else _) _ _ s
 rw[Qb (by rw[hw.1,hw.2];simp)]
 unfold Builtin.Tuple.tupleIsExact
 refine Qe (Qe (Yg ht.typeIs (Qf ?_)))
 rw[Qb (by decide)]
 refine Qe (Ux ?_)
 exact Qf ⟨_,rfl,Qf h⟩
end
section
variable {X:Cx} {a b e:Expr} {fa fb:Ef} {pos p:Pos}
theorem zLf:OpR X (binaryOp .Add) (fun x y H Q=>∃a b ys,x = .ref a/\y = .ref b/\SqT X.K H a []/\SqT X.K H b ys/\Q (.ref b) H):=by
 intro pins s σ H x y v u Q I rx ry h
 obtain⟨a,b,ys,rfl,rfl,ha,hb,q⟩:=h
 cases rx
 cases ry
 obtain⟨its,r1,p1,_⟩:=I.tuple ha
 obtain⟨its2,r2,p2,_⟩:=I.tuple hb
 exact zOF p1 p2 (r1.nil_iff.mpr rfl) ⟨.ref b,H,I,rfl,q⟩
def iK (fa fb:Ef):Ef:=fun ρ=>(fa ρ).bind fun x=>(fb ρ).bind fun y=>match x,y with | .tup xs,.tup ys=>if xs.length+ys.length<=1000 then some (.tup (xs++ys)) else none | _,_=>none
theorem bY (ha:PF X a fa)(hb:PF X b fb):PF X (.BinOp a .Add b pos) (iK fa fb):=by
 refine PE.to (zXT (zLL.or zLf) ha hb) ?_
 rintro σ H Q ⟨G0,H0,G,ρ,d,good,hf,k⟩
 unfold iK at hf
 obtain⟨x,h1,hf⟩:=Qq.mp hf
 obtain⟨y,h2,hf⟩:=Qq.mp hf
 split at hf
 · rename_i xs ys _h
   split at hf
   · rename_i hl
     cases hf
     refine⟨G0,H0,G,ρ,_,good,h1,fun v H1 G1 s1 r1=>⟨G0,H0,G1,ρ,_,good.step s1,h2,fun u H2 G2 s2 r2=>?_⟩⟩
     obtain⟨q,vs,rfl,q1,q2⟩:=yF.mp (r1.mono s2.gg)
     obtain⟨t,us,rfl,t1,t2⟩:=yF.mp r2
     have s3:=s1.trans s2
     cases xs with
     | nil =>
       rw[yV] at q2
       subst q2
       exact .inr ⟨q,t,us,rfl,rfl,s2.sub.tup q1,s2.sub.tup t1,k _ _ G2 s3 (yF.mpr ⟨t,us,rfl,t1,t2⟩)⟩
     | cons d0 xr =>
       have hsl:1001<=sizeLine:=Wx (vO (by decide))
       have e1:=q2.length
       have e2:=t2.length
       refine .inl ⟨q,t,vs,us,rfl,rfl,s2.sub.tup q1,s2.sub.tup t1,fun z=>by rw[z] at e1;simp at e1,by rw[←e1,←e2];omega,fun z=>?_,fun z p hp=>?_⟩
       · subst z
         have z2:ys=[]:=List.length_eq_zero_iff.mp (by rw[e2];rfl)
         subst z2
         rw[Er] at k
         exact k _ _ G2 s3 (yF.mpr ⟨q,vs,rfl,q1,q2⟩)
       · have s4:=Step.laid (o:=.tup (vs++us)) s2.sub hp
         exact k _ _ _ (s3.trans s4) (yF.mpr ⟨p,_,rfl,.of yX,(q2.mono s4.gg).append (t2.mono s4.gg)⟩)
   · cases hf
 · cases hf
theorem zLl:SlR X (fun x lo hi H Q=>∃a xs,x = .ref a/\SqT X.K H a xs/\(HT.sIx xs.length 0 lo=0/\HT.sIx xs.length xs.length hi=xs.length)/\Q (.ref a) H):=by
 intro pins s σ H x v vl vu lo hi sl Q I rx hs pl pu h
 obtain⟨a,xs,rfl,hx,hw,q⟩:=h
 cases rx
 obtain⟨its,r,ht,hz⟩:=I.tuple hx
 have hlen:its.toArray.size=xs.length:=by rw[Qg];exact r.length.symm
 refine⟨"tuple",_,Rc.lookup,ht.typeIs,?_⟩
 exact dY ht hs pl pu (by rw[hlen];exact hw) ⟨.ref a,H,I,rfl,q⟩
def cU (f:Ef)(lo hi:Of):Ef:=fun ρ=>(f ρ).bind fun d=>(lo ρ).bind fun l=>(hi ρ).bind fun u=>match d with | .tup ds=>some (.tup (zZS ds l u)) | _=>none
theorem zYL {lo hi:Option Expr}{fl fh:Of}{p2:Pos}(ha:PF X a fa)(hl:PFO X lo fl)(hh:PFO X hi fh):PF X (.Subscript a (.Slice lo hi none p2) pos) (cU fa fl fh):=by
 refine PE.to (zTm (zIS.or zLl) ha hl hh) ?_
 rintro σ H Q ⟨G0,H0,G,ρ,d,good,hf,k⟩
 unfold cU at hf
 obtain⟨x,h1,hf⟩:=Qq.mp hf
 obtain⟨l,h2,hf⟩:=Qq.mp hf
 obtain⟨u,h3,hf⟩:=Qq.mp hf
 cases x with
 | tup ds =>
   cases hf
   refine⟨G0,H0,G,ρ,_,good,h1,fun v H1 G1 s1 r1=>⟨G0,H0,G1,ρ,_,good.step s1,h2,fun H2 G2 s2=>⟨G0,H0,G2,ρ,_,(good.step s1).step s2,h3,fun H3 G3 s3=>?_⟩⟩⟩
   obtain⟨q,vs,rfl,hq,rs⟩:=yF.mp r1
   have s23:=s2.trans s3
   have hqq:SqT X.K H3 q vs:=(s1.sub.trans s23.hh).tup hq
   by_cases hw:HT.sIx vs.length 0 l=0/\HT.sIx vs.length vs.length u=vs.length
   · refine .inr ⟨q,vs,rfl,hqq,hw,?_⟩
     have e:zZS ds l u=ds:=by
       unfold zZS
       rw[rs.length,hw.1,hw.2,List.drop_zero,Nat.sub_zero,←rs.length,List.take_length]
     rw[e] at k
     exact k _ _ G3 (s1.trans s23) (yF.mpr ⟨q,vs,rfl,s23.gg.tup hq,rs.mono s23.gg⟩)
   · refine .inl ⟨q,vs,rfl,hqq,hw,fun p hp=>?_⟩
     have s4:=Step.laid (o:=.tup (zX1 vs l u)) s23.sub hp
     have e:Reps X.K G3 (zZS ds l u) (zX1 vs l u):=by
       unfold zX1 zZS
       rw[←rs.length]
       exact((rs.mono s23.gg).drop _).take _
     exact k _ _ _ ((s1.trans s23).trans s4) (yF.mpr ⟨p,_,rfl,.of yX,e.mono s4.gg⟩)
 | _=>cases hf
def zQk (i:Nat)(fb:Ef):Ef:=fun ρ=>match ρ[i]? with | some (.ow ds)=>(fb ρ).bind (fun y=>match y with | .int k=>atI ds k | _=>none) | _=>none
theorem zRB (i:Nat){x:Str}{p1:Pos}(hb:PF X b fb)(hN:X.N[i]?=some x:=by rfl)(hv:Vis X.env.scope x:=by first | exact Or.inl rfl | exact Or.inr (Or.inl rfl) | exact Or.inr (Or.inr rfl))(hd:(x==("__debug__":Str))=false:=by decide)(hcd:(x==("__classdict__":Str))=false:=by decide)(hs:dZ b:=by exact fun _ _=>rfl) :
   PF X (.Subscript (.Name x p1) b pos) (zQk i fb):=by
 refine PE.to (zUl zQW (lL hN hv hd hcd) hb hs) ?_
 rintro σ H Q ⟨G0,H0,G,ρ,d,good,hf,k⟩
 unfold zQk at hf
 split at hf
 · rename_i ds hi
   obtain⟨q,vs,e1,e2,e3,e4,e5⟩:=good.addr hi
   obtain⟨y,h2,hf⟩:=Qq.mp hf
   cases y with
   | int m =>
     refine⟨.ref q,e1,G0,H0,G,ρ,_,good,h2,fun v H2 G2 s2 r2=>?_⟩
     obtain⟨w,e,rw'⟩:=zYy (e5.mono s2.gg) hf
     exact⟨q,vs,m,w,rfl,zG.mp r2,.of (s2.hh _ _ e2),e,k _ _ G2 s2 rw'⟩
   | _=>cases hf
 · cases hf
end
end L2
namespace L2
open PySem PySem.Spec PyProof.Rows
section
variable {prog:Program} {w:World} {A:Around} {E:Value->Shared->Prop} {s:Shared}
theorem zSs:typeLookup (.type "list_reverseiterator") "__len__"=pure none:=by rw[Ud,Tb];kernel_rfl
theorem zMJ:typeLookup (.type "list_reverseiterator") "__length_hint__"=pure (some (.builtin "list_reverseiterator.__length_hint__")):=by rw[Ud,Tb];kernel_rfl
theorem zN7 {it l:Addr}{i:Int}{Q:Bool->Shared->Prop}(hit:s.heap.IsRevIter it l i)(h:Q false s):wpAny (model prog w) A (Builtin.List.listLengthHint (.ref it)) Q E s:=by
 unfold Builtin.List.listLengthHint
 refine Qe (Yf hit.typeIs zSs ?_)
 refine Tz (fun hab=>absurd hab (by decide)) (fun _=>?_)
 refine Tz (fun hab=>absurd hab (by decide)) (fun _=>?_)
 refine Qe (Yf hit.typeIs zMJ ?_)
 generalize hid:("list_reverseiterator.__length_hint__":String)=id0
 wp_delta
 rw[show splitId id0=some ("list_reverseiterator","__length_hint__") from by subst hid;decide +kernel]
 subst hid
 refine Qe (Uw (T:="list_reverseiterator") (b:=true) hit.typeIs (by rw[isSubtype_type];kernel_rfl) ?_)
 refine Tz (fun hab=>absurd hab (by decide)) (fun _=>?_)
 refine Tz (fun _=>?_) (fun hab=>absurd (by decide +kernel) hab)
 refine Tz (fun hab=>absurd hab (by decide +kernel)) (fun _=>?_)
 exact Qf h
theorem zS7 {R:Result->Shared->Prop}{it l S:Addr}{items:Array Value}{res:Value}{c₀:Nat}(hh:A.handled=none)(hit:s.heap.IsRevIter it l ((items.size:Int) - 1))(hl:s.heap.IsList l items)(hli:l≠it)(hSi:S≠it)(hSl:S≠l)(hlen:items.size<=sizeLine)
   (hS:s.heap.get? S=some { cls:=.type "list",data:=.seq #[] c₀ })
   (hR:∀h' tk acc' c',(∀b o,b≠S->b≠it->s.heap.get? b=some o->h'.get? b=some o)->h'.get? S=some { cls:=.type "list",dict:=none,data:=.seq acc' c',slots:=#[] } ->
     ItemsOf (fun i v=>items[items.size - 1 - i]?=some v) acc' items.size->R (.ok (.ret res)) { s with heap:=h',toks:=tk }) :
   wpAny (model prog w) A.in1 (Builtin.List.listExtendWith (.ref S) (.ref it) res)
     (fun fin s'=>match fin with | .done f=>R (.ok f) s' | .again c'=>c'.quiet=true/\codeAny (model prog w) A c' R s') (fun e s'=>R (.error e) s') s:=by
 have hSf:S∉[it,l]:=fun hm=>by
   rcases Qa.mp hm with e | hm
   · exact hSi e
   · exact hSl (Wk.mp hm)
 have W:=(Walks.listRev (prog:=prog) (w:=w) (A:=A.in1) hh it l hli items).toS
 unfold Builtin.List.listExtendWith
 refine Qe (Yg hit.typeIs ?_)
 have h1:Builtin.List.listSameRef (.ref S) (.ref it)=false:=by simp[Builtin.List.listSameRef,hSi]
 have h2:(Value.type "list_reverseiterator"==Value.type "list")=false:=by decide
 have h3:(Value.type "list_reverseiterator"==Value.type "tuple")=false:=by decide
 simp only[h1,h2,h3,Bool.or_false,Wo,Ro]
 refine Qe (wpAny_pyIter_revIter hit ?_)
 refine Qe (Ru (zN7 hit ?_))
 refine Tz (fun hab=>absurd hab (by decide +kernel)) (fun _=>Qf ⟨Rb F.plain_extend_loop _,?_⟩)
 refine codeAny_extend_loopS W hlen S hSf res items.size 0 _ #[] c₀ rfl (Td _) ⟨Td _,by simpa using hit,hl⟩ hS (ItemsOf.nil _) fun s' acc' c' hm hS' hacc=>?_
 rw[Moved.eq_with hm]
 refine hR s'.heap s'.toks acc' c' (fun b o hb hb' e=>hm.heap b o (fun hmem=>?_) e) hS' hacc
 rcases Qa.mp hmem with e' | hmem
 · exact hb e'
 · exact hb' (Wk.mp hmem)
theorem zXl {R:Result->Shared->Prop}{it l S:Addr}{items:Array Value}(hh:A.handled=none)(hit:s.heap.IsRevIter it l ((items.size:Int) - 1))(hl:s.heap.IsList l items)(hli:l≠it)(hSi:S≠it)(hSl:S≠l)(hlen:items.size<=sizeLine)
   (hS:s.heap.get? S=some { cls:=.type "list",data:=.seq #[] })
   (hR:∀h' tk acc' c',(∀b o,b≠S->b≠it->s.heap.get? b=some o->h'.get? b=some o)->h'.get? S=some { cls:=.type "list",dict:=none,data:=.seq acc' c',slots:=#[] } ->
     ItemsOf (fun i v=>items[items.size - 1 - i]?=some v) acc' items.size->R (.ok (.ret .none)) { s with heap:=h',toks:=tk }) :
   wpAny (model prog w) A.in1 (Builtin.«list.__init__» ⟨[.ref S,.ref it],[]⟩)
     (fun fin s'=>match fin with | .done f=>R (.ok f) s' | .again c'=>c'.quiet=true/\codeAny (model prog w) A c' R s') (fun e s'=>R (.error e) s') s:=by
 show wpAny _ _ (do let old ←Builtin.List.listItems (.ref S);Builtin.List.listUpdate (.ref S) (fun _=>#[]);letGo old.toList.reverse;Builtin.List.listExtendWith (.ref S) (.ref it) .none) _ _ s
 refine Qe ?_
 unfold Builtin.List.listItems
 refine Qe (Ez hS rfl (Qf ?_))
 show wpAny _ _ (updateSeq S (fun _=>#[]) >>= fun _=>letGo (#[]:Array Value).toList.reverse >>= fun _=>Builtin.List.listExtendWith (.ref S) (.ref it) .none) _ _ s
 refine Qe (Yd hS rfl ?_)
 have hS₂:=Rw (Obj.mapSeq (fun _=>(#[]:Array Value))) hS rfl
 have oth:∀b o,b≠S->s.heap.get? b=some o->(s.heap.update S (Obj.mapSeq (fun _=>(#[]:Array Value)))).get? b=some o :=
   fun b o hb e=>(Rf _ _ (Ne.symm hb)).trans e
 refine Qe (Oa ?_)
 refine zS7 hh (hit.at fun o e=>oth _ _ (Ne.symm hSi) e) (hl.at fun o e=>oth _ _ (Ne.symm hSl) e) hli hSi hSl hlen hS₂ fun h' tk acc' c' hk hS' hacc=>?_
 exact hR h' tk acc' c' (fun b o hb hb' e=>hk b o hb hb' (oth b o hb e)) hS' hacc
theorem zXn {Q:Value->Shared->Prop}{it l:Addr}{items:Array Value}(hh:A.handled=none)(hit:s.heap.IsRevIter it l ((items.size:Int) - 1))(hl:s.heap.IsList l items)(hli:l≠it)(hlen:items.size<=sizeLine)
   (hQ:∀h' tk acc' c',(∀b o,b≠it->s.heap.get? b=some o->h'.get? b=some o) ->
     h'.get? s.heap.objs.size=some { cls:=.type "list",dict:=none,data:=.seq acc' c',slots:=#[] }->ItemsOf (fun i v=>items[items.size - 1 - i]?=some v) acc' items.size->Q (.ref s.heap.objs.size) { s with heap:=h',toks:=tk }) :
   wpAny (model prog w) A (call (.type "list") [.ref it]) Q E s:=by
 refine callType_codes (Q₁:=fun obj s₁=>obj = .ref s.heap.objs.size/\s₁={ s with heap:=s.heap.push { cls:=.type "list",data:=.seq #[] } }) F.called_list (F.typeCall_list_1 _) F.entry_list_init
   (code_list_new _ ⟨rfl,rfl⟩) fun obj s₁ h₁=>?_
 obtain⟨rfl,rfl⟩:=h₁
 have hS:(s.heap.push { cls:=.type "list",data:=.seq #[] }).get? s.heap.objs.size=some { cls:=.type "list",data:=.seq #[] }:=Qk _ rfl
 have n1:s.heap.objs.size≠it:=fun z=>by obtain⟨o,e,_⟩:=hit;exact absurd (Qs e) (by rw[z];exact Wr _)
 have n2:s.heap.objs.size≠l:=fun z=>by obtain⟨o,e,_⟩:=hl;exact absurd (Qs e) (by rw[z];exact Wr _)
 refine⟨⟨_,hS,rfl⟩,F.args_list_init_2 _ _,zXl (A:=A.in1) hh (hit.at fun o e=>Qr _ e) (hl.at fun o e=>Qr _ e) hli n1 n2 hlen hS fun h' tk acc' c' hk hS' hacc=>?_⟩
 exact⟨rfl,hQ h' tk acc' c' (fun b o hb e=>hk b o (Wm (Qs e)) hb (Qr _ e)) hS' hacc⟩
theorem zP7 {its acc:List Value}(h:ItemsOf (fun i v=>its.toArray[its.toArray.size - 1 - i]?=some v) acc.toArray its.toArray.size):acc=its.reverse:=by
 obtain⟨h1,h2⟩:=h
 simp only[Qg] at h1 h2
 refine List.ext_getElem (by rw[h1,List.length_reverse]) fun i hi hi'=>?_
 have q:=h2 i acc[i] (by simp[hi])
 rw[List.getElem_reverse]
 simp only[List.getElem?_toArray] at q
 rw[Qu (by omega)] at q
 exact(Ep q).symm
theorem Reps.reverse {K:PySem.W.Frag}{G:Hp}:∀ {ds:List D} {vs:List V},Reps K G ds vs->Reps K G ds.reverse vs.reverse
 | [],_,h=>by rw[yV] at h;subst h;exact yV.mpr rfl
 | d::r,_,h=>by
   obtain⟨v,vr,rfl,h1,h2⟩:=zE.mp h
   rw[Yz,Yz]
   exact h2.reverse.snoc h1
variable {X:Cx} {a b e:Expr} {es:List Expr} {fa fb:Ef} {ga:Lf} {pos p:Pos}
def zRV (g:Lf):Lf:=fun ρ=>(g ρ).map List.reverse
theorem zRJ {p2 pos':Pos}(hc:X.calm=true)(hg:Gl X "list")(hm:X.mg "list"=none)(hg':Gl X "reversed")(hm':X.mg "reversed"=none)(h:zUB X a ga)(hs:starEach [a] X.env=[(false,eval a X.env)]:=by rfl)
   (hs3:starEach [Expr.Call (.Name "reversed" p2) [a] [] pos'] X.env=[(false,eval (.Call (.Name "reversed" p2) [a] [] pos') X.env)]:=by rfl) :
   PFr X (.Call (.Name "list" p) [.Call (.Name "reversed" p2) [a] [] pos'] [] pos) (zRV ga):=by
 intro pins s σ H Q I q
 obtain⟨G0,H0,G,ρ,es,good,hf,kk⟩:=q
 unfold zRV at hf
 obtain⟨ds,h1,rfl⟩:=Qt.mp hf
 have hA:=yY h yK (by rw[hs];rfl) pos' pins s σ H (fun vs H'=>∃l us G',vs=[.ref l]/\Step G H G' H'/\SqL X.K G' l us/\Reps X.K G' ds us) I
   ⟨G0,H0,G,ρ,_,good,h1,fun l us H1 G1 s1 q1 q2=>⟨l,us,G1,rfl,s1,q1,q2⟩⟩
 refine Call_ (qD I hg hm (by rfl) (Wj (rest:=[]) ?_ (by rw[hs3];rfl) (by rfl)))
 rw[hs3]
 refine Iy (Call_ (qD I hg' hm' (by rfl) (Wj (thn hA fun us s1 ⟨vs,H1,I1,r1,l,ws,G1,e1,st1,q1,q2⟩=>?_) (by rw[hs];rfl) (by rfl))))
 subst e1
 obtain⟨u,rfl,ru⟩:=qJ r1
 cases ru
 obtain⟨its,rv,p1,hz⟩:=I1.list (st1.sub.seq q1)
 have hll:l < s1.heap.objs.size:=by obtain⟨o,e,_⟩:=p1.isList;exact Qs e
 refine call_reversed_list p1.isList ?_
 refine Ij ?_
 have hrev:(s1.heap.push (revObj l ((its.toArray.size:Int) - 1))).IsRevIter s1.heap.objs.size l ((its.toArray.size:Int) - 1):=⟨_,Qk _ rfl,rfl,rfl⟩
 refine zXn (I.ok.hd hc) hrev (p1.isList.at fun o e=>Qr _ e) (Wm hll) (by rw[Qg];exact rv.length ▸ hz) fun h' tk acc c' hk hS hacc=>?_
 have hsz:(s1.heap.push (revObj l ((its.toArray.size:Int) - 1))).objs.size=s1.heap.objs.size+1:=Rx ..
 have hacc':acc.toList=its.reverse:=zP7 (acc:=acc.toList) (by simpa using hacc)
 have hT:s1.heap.objs.size<=(s1.heap.push (revObj l ((its.toArray.size:Int) - 1))).objs.size:=by rw[hsz];exact Yo _
 have fr:H1 (s1.heap.push (revObj l ((its.toArray.size:Int) - 1))).objs.size=none:=I1.hok.fresh hT
 have I3:=I1.laid (t':=tk) (h':=h') (a:=(s1.heap.push (revObj l ((its.toArray.size:Int) - 1))).objs.size) (o:=.lst ws.reverse) (fun b o e=>hk b o (Wm (Qs e)) (Qr _ e)) hT
   (show ObjOk X.prog X.w _ h' _ (.lst ws.reverse) from⟨by rw[List.length_reverse];exact hz,acc.toList,c',by rw[hacc'];exact rv.reverse,hS⟩)
 exact⟨.ref _,_,I3,rfl,kk _ ws.reverse _ G1 (st1.trans (Step.own st1.sub fr)) (st1.hh.free fr) yX (st1.sub.free fr) q2.reverse⟩
def zRg (i j:Int):Bool:=decide (Builtin.Int.intBits i<=2097152)&&decide (Builtin.Int.intBits j<=2097152)
abbrev zMT:=eI zRg (fun i j=>i*j)
theorem zKU (ha:PF X a fa)(hb:PF X b fb):PF X (.BinOp a .Mult b pos) (zMT fa fb):=zOZ zLU (fun i j h=>by
 unfold zRg at h
 simp only[Qx,Wh] at h
 exact mulOk_of_bits h.1 h.2 (by decide)) ha hb
end
section
variable {X:Cx}
theorem uJ {st:Stmt}:PFS X st (fun _=>none):=by
 intro pins s σ H D I q
 obtain⟨G0,H0,G,ρ,o,good,hf,k⟩:=q
 cases hf
end
end L2
namespace Att
open PySem PySem.W PySem.Spec PyProof.Rows
theorem zTD {ns:List Int}(h:WData.layableAll [WData.list (ns.map WData.int)]=true):∀n∈ns,Builtin.Int.intBits n<=1048576:=by
 unfold WData.layableAll WData.layable at h
 rw[Yr,List.all_nil,Bool.and_true,Qx,Wh] at h
 have hw:=h.2
 unfold WData.weight at hw
 have key:∀l:List Int,∀n∈l,Builtin.Int.intBits n<=WData.weightAll (l.map WData.int):=by
   intro l
   induction l with
   | nil=>intro n hn;cases hn
   | cons x r ih =>
     intro n hn
     rw[Qp]
     unfold WData.weightAll
     rcases Qa.mp hn with e | e
     · subst e
       have:WData.weight (WData.int n)=Builtin.Int.intBits n:=by unfold WData.weight Builtin.Int.intBits;rfl
       omega
     · have:=ih n e
       omega
 intro n hn
 have:=key ns n hn
 have e:(2:Nat)^20=1048576:=by decide
 omega
end Att
namespace Att
open PySem PySem.W PySem.Calls PyProof.Rows
theorem attach_bits {l:OpenLaw}{n:Nat}{q:Program}{loose:List Str}{XP:(Str->Option Value)->Heap->Prop}{YP:World->Heap->Prop}{d:DefRec}
   (hn:l.most=some n) (hdf:d.params.defaults=[])
   (run:∀(w:World) (s₀ s₁:Shared) (mg mb:Str->Option Value) (fa:Addr) (o:Obj) (pm cd doc:Value) (a:Addr) (vs:List Value) (ns:List Int),
     Ground q loose [] XP w s₀ mg mb s₁.heap->YP w s₁.heap ->
     s₁.heap.get? fa=some o->o.data = .func (docDef d.name d.params d.body d.scope pm cd doc)->s₁.heap.CodeRec cd d.name->mg d.name=some (.ref fa) ->
     s₁.heap.get? a=some { cls:=.type "list",data:=.seq vs.toArray }->IntsAre vs ns->ns.length<=n->(∀n∈ns,Builtin.Int.intBits n<=1048576)->s₁.gens=#[] ->
     codeAny (model l.prog w) callerA (.call (.ref fa) ⟨[.ref a],[]⟩) (fun r s'=>r = .ok (.ret (.bool true))/\OldK s₁.heap s'.heap/\s'.os=s₁.os/\AllBare s'.gens) s₁) :
   WalkO q loose XP YP l.row.toRowW d [] (fun f vs=>PySem.call f vs):=by
 intro w s₀ s₁ mg mb G Y fa o pm cd doc dV kV ho hd hcd hD hmg hg args vals as hpre hlay hrd hwl hlo
 obtain rfl:dV = .none:=Dflts.none hD hdf
 obtain rfl:kV = .none:=Dflts.noKw hD
 obtain⟨a,vs,ns,rfl,rfl,hobj,hints,hlen⟩:=zPm hn hpre hwl
 refine enter_call (Ix (run w s₀ s₁ mg mb fa o pm cd doc a vs ns G Y ho (fd_plain hd) hcd hmg hobj hints hlen (zTD hlay) hg) fun r s' hq=>?_)
 obtain⟨rfl,h2,h3,h4⟩:=hq
 exact⟨.inl ⟨.bool true,.bool true,[],rfl,fun _=>rfl,.bool true,zQr l _,fun _=>⟨List.Pairwise.nil,fun _ hm=>(nomatch hm)⟩⟩,h2,h3,h4⟩
end Att
namespace L2
open PySem PySem.Spec PyProof.Rows
theorem zPa {l:PySem.W.OpenLaw}{n k:Nat}{q:Program}{loose:List Str}{XP:(Str->Option Value)->Heap->Prop}{YP:World->Heap->Prop}{d:DefRec}{K:Params->PySem.W.Frag}{CX:World->CXT}{sp:World->Sp}{x:Str}
   (hn:l.most=some n) (hn2:n<=sizeLine) (hdf:d.params.defaults=[]) (hr:Room k callerA)
   (hY:∀(w:World) (h:Heap),YP w h->(K w.params).In h)
   (F:∀(w:World) (mg:Str->Option Value) (fa:Addr) (h:Heap),(K w.params).In h->h.Ns mainGlobals mg->mg d.name=some (.ref fa) ->
     ∃fd:FuncData,(∀(s:Shared) (u:Value),BindsTo s fd ⟨[u],[]⟩ [(x,u)]) /\
       ∀base:Heap,(K w.params).In base->base.Ns mainGlobals mg->FnOk l.prog w (K w.params) mg base (CX w) k fa fd [x] (sp w))
   (hsp:∀(w:World) (H:Hp) (a:Addr) (ns:List Int),ns.length<=n->(∀n∈ns,Builtin.Int.intBits n<=1048576)->zJj H->SqL (K w.params) H a (ns.map V.int)->sp w [.ref a] H (fun v _=>v = .bl true) fun _ _ _=>False)
   (hCX:∀(w:World) (H:Hp) (s:Shared) (e:Value) (s':Shared),CX w [] H s (fun _ _ _=>False) e s'->False) :
   PySem.W.WalkO q loose XP YP l.row.toRowW d [] (fun f vs=>PySem.call f vs):=by
 refine Att.attach_bits hn hdf fun w s₀ s₁ mg mb fa o pm cd doc a vs ns G Y ho hd hcd hmg hobj hints hlen hbits hg=>?_
 have KX:=hY w _ Y
 obtain⟨fd,hb,hF⟩:=F w mg fa _ KX G.T.g hmg
 exact zM7 KX G.T.g G.T.b G.T.builtins G.T.nolimit hg hobj hints (Ey hlen hn2) hr hF hb (fun H hO hS=>hsp w H a ns hlen hbits hO hS) fun H e s'=>hCX w H s₁ e s'
structure FlyV (h:Heap)(H:Hp)(h0:Heap)(C a:Addr)(od:Option Addr):Prop where
 ob:∃vs v,h.get? a=some { cls:=.ref C,dict:=od,data:=.fields vs,slots:=#[] }/\vs[1]?=some v/\zMD h a v/\∀T,v = .ref T->H T=none/\h0.get? T=none
 tr:H a=some (.ext (Xe C a od))
 new:h0.get? a=none
theorem zP8 {X:Cx}{st:Stmt}{rest:List Stmt}{B f g:Sf}(e:B=zP f g)(h1:PFS X st f)(h2:dX X rest g):dX X (st::rest) B:=by
 subst e
 exact wV h1 h2
theorem zV {X:Cx}{st:Stmt}{rest:List Stmt}(B:Sf){f g:Sf}(e:B=zP f g)(h1:PFS X st f)(h2:dX X rest g):dX X (st::rest) B:=zP8 e h1 h2
structure FnT (K:PySem.W.Frag)(mg:Str->Option Value)(x:Str)(st:Stmt)(ps:List Str) where
 f:Addr
 fd:FuncData
 F:Fun K x x st f fd
 b:Binds K fd ps []
 m:mg x=some (.ref f)
def w8 (K:PySem.W.Frag)(x:Str)(st:Stmt):Prop:=∃(f:Addr) (od an:Option Addr) (sl:Array (Option Value)) (oc kV dc pm cd ct:Value),PySem.W.nsIn K mainGlobals x=some (some (.ref f))/\K.lookup f=some ⟨oc,od,.func (PySem.W.fnOf x x (vC st) (wJ st) (zS st) .none kV dc pm an cd ct),sl⟩/\PySem.W.codeIn K cd x=true/\PySem.W.keepIn K (.ref f)=true
abbrev fnQ (x:Str)(st:Stmt)(kV dc pm:Value)(an:Option Addr)(cd ct:Value):FuncData:=PySem.W.fnOf x x (vC st) (wJ st) (zS st) .none kV dc pm an cd ct
def Bd (x:Str)(st:Stmt)(ps:List Str):Prop:=∀(kV doc pm:Value) (an:Option Addr) (cdv ct:Value) (us:List Value),us.length=ps.length->bindArgs (fnQ x st kV doc pm an cdv ct) ⟨us,[]⟩=pure (ps.zip us)
section
variable {x a b c d e:Str} {st:Stmt}
theorem bd1 (h:∀kV dc pm an cd ct u,bindArgs (fnQ x st kV dc pm an cd ct) ⟨[u],[]⟩=pure [(a,u)]):Bd x st [a]:=fun _ _ _ _ _ _ us hl=>match us,hl with | [_],_=>h _ _ _ _ _ _ _
theorem bd2 (h:∀kV dc pm an cd ct u v,bindArgs (fnQ x st kV dc pm an cd ct) ⟨[u,v],[]⟩=pure [(a,u),(b,v)]):Bd x st [a,b]:=fun _ _ _ _ _ _ us hl=>match us,hl with | [_,_],_=>h _ _ _ _ _ _ _ _
theorem bd3 (h:∀kV dc pm an cd ct u v z,bindArgs (fnQ x st kV dc pm an cd ct) ⟨[u,v,z],[]⟩=pure [(a,u),(b,v),(c,z)]):Bd x st [a,b,c]:=fun _ _ _ _ _ _ us hl=>match us,hl with | [_,_,_],_=>h _ _ _ _ _ _ _ _ _
theorem bd4 (h:∀kV dc pm an cd ct u v z w,bindArgs (fnQ x st kV dc pm an cd ct) ⟨[u,v,z,w],[]⟩=pure [(a,u),(b,v),(c,z),(d,w)]):Bd x st [a,b,c,d]:=fun _ _ _ _ _ _ us hl=>match us,hl with | [_,_,_,_],_=>h _ _ _ _ _ _ _ _ _ _
theorem bd5 (h:∀kV dc pm an cd ct u v z w y,bindArgs (fnQ x st kV dc pm an cd ct) ⟨[u,v,z,w,y],[]⟩=pure [(a,u),(b,v),(c,z),(d,w),(e,y)]):Bd x st [a,b,c,d,e]:=fun _ _ _ _ _ _ us hl=>match us,hl with | [_,_,_,_,_],_=>h _ _ _ _ _ _ _ _ _ _ _
variable {K:PySem.W.Frag} {h:Heap} {mg:Str->Option Value} {ps:List Str}
def vW (X:K.In h)(G:h.Ns mainGlobals mg)(g:w8 K x st)(hb:Bd x st ps):FnT K mg x st ps:=Classical.choice (by
 obtain⟨f,od,an,sl,oc,kV,dc,pm,cd,ct,a,l,c,k⟩:=g
 exact⟨⟨f,_,zXE l c k,(zXE l c k).binds hb,PySem.W.mg_of X G a⟩⟩)
theorem zKn {P:Program}{w:World}{k:Nat}{sp:Sp}{p:Str}{fa:Addr}(t:FnT K mg x st [p])(hb:Bd x st [p])(hfa:mg x=some (.ref fa))(ok:∀base:Heap,FnOk P w K mg base CX0 k t.f t.fd [p] sp) :
   ∃fd:FuncData,(∀(s:Shared) (v:Value),BindsTo s fd ⟨[v],[]⟩ [(p,v)])/\∀base:Heap,K.In base->base.Ns mainGlobals mg->FnOk P w K mg base CX0 k fa fd [p] sp:=by
 have e:=hfa.symm.trans t.m
 cases e
 refine⟨t.fd,fun s v=>?_,fun base _ _=>ok base⟩
 obtain⟨oc,od,kV,doc,pm,an,cdv,ct,osl,e,lk,hcd⟩:=t.F.ex
 rw[e]
 exact .of_eq (hb kV doc pm an cdv ct [v] rfl)
end
abbrev OkT (P:Program)(w:World)(base:Heap){K:PySem.W.Frag}{mg:Str->Option Value}{x:Str}{st:Stmt}{ps:List Str}(t:FnT K mg x st ps)(k n:Nat)(d:List D->Option D):Prop:=FnOk P w K mg base CX0 k t.f t.fd ps (spF K n d)
abbrev zPS (P:Program)(w:World)(base:Heap){K:PySem.W.Frag}{mg:Str->Option Value}{x:Str}{st:Stmt}{ps:List Str}(t:FnT K mg x st ps)(k n:Nat)(d:List D->Option (List D)):Prop:=FnOk P w K mg base CX0 k t.f t.fd ps (spL K n d)
section
variable {X:Cx} {e:Expr} {es:List Expr} {ga:Lf} {pos p:Pos} {x:Str} {st:Stmt} {ps:List Str}
theorem xJ {j k n:Nat}{t:FnT X.K X.mg x st ps}{fD:List D->Option D}(F:FnOk X.prog X.w X.K X.mg X.base CX0 j t.f t.fd ps (spF X.K n fD))(hr:Room k X.A)(ha:PFA X (e::es) ga)(hj:j<=k:=by omega)(hg:Gl X x:=by rfl)(hdb:(x==("__debug__":Str))=false:=by decide)(he:starEach (e::es) X.env=(false,eval e X.env)::starEach es X.env:=by rfl)(hpl:(backTo pos (starEach es X.env)).any (·.1)=false:=by rfl) :
   PF X (.Call (.Name x p) (e::es) [] pos) (zO n fD ga):=zVH F (hr.mono hj) t.m t.F.kp t.b hg ha hdb he hpl
theorem zV1 {j k n:Nat}{t:FnT X.K X.mg x st ps}{fD:List D->Option (List D)}(F:FnOk X.prog X.w X.K X.mg X.base CX0 j t.f t.fd ps (spL X.K n fD))(hr:Room k X.A)(ha:PFA X (e::es) ga)(hj:j<=k:=by omega)(hg:Gl X x:=by rfl)(hdb:(x==("__debug__":Str))=false:=by decide)(he:starEach (e::es) X.env=(false,eval e X.env)::starEach es X.env:=by rfl)(hpl:(backTo pos (starEach es X.env)).any (·.1)=false:=by rfl) :
   PFr X (.Call (.Name x p) (e::es) [] pos) (sV n fD ga):=zKE F (hr.mono hj) t.m t.F.kp t.b hg ha hdb he hpl
end
theorem xY {N P:List Str}{sc:Scope}(h:(sc.kind == .function && !sc.isCoroutine && !sc.isGenerator&&decide (N.take P.length=P)&&decide N.Nodup&&decide (∀x∈P,sc.names.lookup x=some .local∨sc.names.lookup x=some .cell)&&decide (∀y∈sc.names,y.2 ≠ .free))=true):FnScope N P sc:=by
 simp only[Qx,Wh,Bool.not_eq_true'] at h
 obtain⟨⟨⟨⟨⟨⟨h1,h2⟩,h3⟩,h4⟩,h5⟩,h6⟩,h7⟩:=h
 refine⟨?_,h2,h3,h5,h4,h6,h7⟩
 generalize sc.kind=k at h1
 cases k<;>first | rfl | cases h1
section
variable {X:Cx} {a e:Expr} {fa:Ef} {ga:Lf} {pos p:Pos}
theorem zPx:CallR X (.builtin "abs") (fun xs H Q=>∃i,xs=[.int i]/\Q (.int (if i < 0 then -i else i)) H):=by
 intro pins s σ H xs us Q I r h
 obtain⟨i,rfl,q⟩:=h
 obtain⟨u,rfl,t,rfl⟩:=qJ r
 exact call_abs_int fun u tk=>⟨.int _,H,I.kept (fun _ _ e=>e),⟨u,rfl⟩,q⟩
def zKh (fa:Ef):Ef:=fun ρ=>(fa ρ).bind fun x=>match x with | .int i=>some (.int (if i < 0 then -i else i)) | _=>none
theorem zKq (hg:Gl X "abs")(hm:X.mg "abs"=none)(h:PF X a fa)(hs:starEach [a] X.env=[(false,eval a X.env)]:=by rfl):PF X (.Call (.Name "abs" p) [a] [] pos) (zKh fa):=by
 refine PE.to (qV zPx hg hm (by rfl) (yY h yK (by rw[hs];rfl)) (by decide) (by decide) (by rw[hs];rfl) (by rfl)) ?_
 rintro σ H Q ⟨G0,H0,G,ρ,d,good,hf,k⟩
 unfold zKh at hf
 obtain⟨x,h1,hf⟩:=Qq.mp hf
 split at hf
 · rename_i i
   cases hf
   exact⟨G0,H0,G,ρ,_,good,h1,fun v H1 G1 s1 r1=>⟨i,by rw[zG.mp r1],k _ _ G1 s1 (zG.mpr rfl)⟩⟩
 · cases hf
theorem zPL (hc:X.calm=true):CallR X (.builtin "sum") (fun xs H Q=>∃(q:Addr) (ns:List Int),xs=[V.ref q]/\SqL X.K H q (ns.map V.int)/\Q (.int ns.sum) H):=by
 intro pins s σ H xs us Q I r h
 obtain⟨l,ns,rfl,hq,q⟩:=h
 obtain⟨u,rfl,ru⟩:=qJ r
 cases ru
 obtain⟨its,rv,pl,hz⟩:=I.list hq
 obtain⟨ps,rfl,rfl⟩:=zWJ rv
 have hit:s.heap.IsList l (intItems ps.toArray):=by
   have:=pl.isList
   unfold intItems
   rw[List.map_toArray]
   exact this
 refine sum_intListG (I.ok.hd hc) hit fun h' tk t' hk=>⟨.int _,H,I.kept hk,⟨t',rfl⟩,?_⟩
 have e:preSum (numAt ps.toArray) ps.toArray.size=(ps.map (·.1)).sum:=by
   have:=preSum_eq ps.toArray ps.toArray.size
   rw[this,List.take_of_length_le (by simp)]
 rw[e]
 exact q
def zOe (g:Lf):Ef:=fun ρ=>(g ρ).bind fun ds=>(zST ds).bind fun ns=>some (.int ns.sum)
theorem zLS (hcm:X.calm=true)(hg:Gl X "sum")(hm:X.mg "sum"=none)(h:zUB X a ga)(hs:starEach [a] X.env=[(false,eval a X.env)]:=by rfl):PF X (.Call (.Name "sum" p) [a] [] pos) (zOe ga):=by
 refine PE.to (qV (zPL hcm) hg hm (by rfl) (yY h yK (by rw[hs];rfl)) (by decide) (by decide) (by rw[hs];rfl) (by rfl)) ?_
 rintro σ H Q ⟨G0,H0,G,ρ,d,good,hf,k⟩
 unfold zOe at hf
 obtain⟨ds,h1,hf⟩:=Qq.mp hf
 obtain⟨ns,h2,hf⟩:=Qq.mp hf
 cases hf
 refine⟨G0,H0,G,ρ,ds,good,h1,fun q vs H1 G1 s1 e1 r1=>?_⟩
 rw[zZ2 h2 r1] at e1
 exact⟨q,ns,rfl,s1.sub.seq e1,k _ _ G1 s1 (zG.mpr rfl)⟩
end
inductive All2 {α β:Type}(R:α->β->Prop):List α->List β->Prop
 | nil:All2 R [] []
 | cons {a b l m}:R a b->All2 R l m->All2 R (a::l) (b::m)
theorem All2.length {α β:Type}{R:α->β->Prop}:∀ {l:List α} {m:List β},All2 R l m->l.length=m.length
 | _,_,.nil=>rfl
 | _,_,.cons _ t=>by rw[Qo,Qo,t.length]
theorem All2.imp {α β:Type}{R S:α->β->Prop}(h:∀a b,R a b->S a b):∀ {l:List α} {m:List β},All2 R l m->All2 S l m
 | _,_,.nil=>.nil
 | _,_,.cons q t=>.cons (h _ _ q) (t.imp h)
theorem All2.inj {α β:Type}{R:α->β->Prop}(h:∀a a' b,R a b->R a' b->a=a'):∀ {l l':List α} {m:List β},All2 R l m->All2 R l' m->l=l'
 | _,_,_,.nil,.nil=>rfl
 | _,_,_,.cons q t,.cons q' t'=>by rw[h _ _ _ q q',All2.inj h t t']
theorem All2.get {α β:Type}{R:α->β->Prop}:∀ {l:List α} {m:List β},All2 R l m->∀(j:Nat) (h1:j < l.length) (h2:j < m.length),R l[j] m[j]
 | _,_,.cons q t,0,_,_=>q
 | _,_,.cons q t,j+1,h1,h2=>t.get j (by simpa using h1) (by simpa using h2)
def fO:KT->Value->Prop
 | .int i,v=>(∃t,v = .int i t)∨∃b:Bool,v = .bool b/\i=(if b then 1 else 0)
 | .tup _,_=>False
def IsK (h:Heap):Nat->KT->Value->Prop
 | 0,k,v=>fO k v
 | n+1,.tup ks,v=>∃a items,v = .ref a/\h.IsTuple a items/\All2 (IsK h n) ks items.toList
 | _+1,.int i,v=>fO (.int i) v
theorem zVV {k k':KT}{v:Value}(h:fO k v)(h':fO k' v):k=k':=by
 cases k with
 | int i =>
   cases k' with
   | int j =>
     rcases h with⟨t,rfl⟩ | ⟨b,rfl,rfl⟩<;>rcases h' with⟨t',e⟩ | ⟨b',e,rfl⟩<;>cases e<;>rfl
   | tup l=>cases h'
 | tup l=>cases h
theorem zZr {k:KT}{a:Addr}(h:fO k (.ref a)):False:=by
 cases k with
 | int i=>rcases h with⟨t,e⟩ | ⟨b,e,_⟩<;>cases e
 | tup l=>cases h
theorem zTS {h:Heap}{n:Nat}{k:KT}{v:Value}(hk:∀l,k ≠ .tup l):IsK h n k v↔fO k v:=by
 cases n with
 | zero=>exact Op
 | succ n =>
   cases k with
   | tup l=>exact absurd rfl (hk l)
   | int i=>exact Op
theorem zZp {h:Heap}{a:Addr}{i j:Array Value}(x:h.IsTuple a i)(y:h.IsTuple a j):i=j:=by
 obtain⟨o,e,_,n,d⟩:=x
 obtain⟨o',e',_,n',d'⟩:=y
 rw[e] at e';cases e'
 rw[d] at d';cases d';rfl
theorem zVu {h:Heap}:∀(n:Nat) (k k':KT) (v:Value),IsK h n k v->IsK h n k' v->k=k'
 | 0,_,_,_,x,y=>zVV x y
 | n+1,.tup ks,k',v,x,y=>by
   obtain⟨a,items,rfl,t,al⟩:=x
   cases k' with
   | tup ls =>
     obtain⟨a',items',e,t',al'⟩:=y
     cases e
     have:=zZp t t'
     subst this
     rw[al.inj (fun p q r=>zVu n p q r) al']
   | int i=>exact(zZr (k:=.int i) y).elim
 | n+1,.int i,.tup ls,v,x,y=>by
   obtain⟨a',items',rfl,_⟩:=y
   exact(zZr (k:=.int i) x).elim
 | n+1,.int i,.int j,v,x,y=>zVV (k:=.int i) (k':=.int j) x y
theorem zW4 {h h':Heap}(hk:∀a items,h.IsTuple a items->h'.IsTuple a items):∀(n:Nat) (k:KT) (v:Value),IsK h n k v->IsK h' n k v
 | 0,_,_,x=>x
 | n+1,.tup ks,v,x=>by
   obtain⟨a,items,rfl,t,al⟩:=x
   exact⟨a,items,rfl,hk _ _ t,al.imp fun p q r=>zW4 hk n p q r⟩
 | n+1,.int i,v,x=>x
def dK':Nat->KT->Nat
 | n+1,.tup ks=>(ks.map (dK' n)).sum+1
 | _,_=>1
section
variable {prog:Program} {w:World} {E:Value->Shared->Prop}
theorem zWr {k:KT}{v:Value}{A:Around}{s:Shared}{Q:Int->Shared->Prop}(x:fO k v)(hu:A.units < cLine)(h:Q (zKB k) { s with toks:=s.toks+1 }):wpAny (model prog w) A (pyHash v) Q E s:=by
 cases k with
 | int i =>
   rcases x with⟨t,rfl⟩ | ⟨b,rfl,rfl⟩
   · exact wpAny_pyHash_int h
   · refine PySem.W.pyHash_slot (T:="bool") rfl F.slot_bool_hash entry_int_hash (args_int_hash _) (beq_builtin_none _) (.inr hu) ?_
     cases b
     · exact(show wpAny _ _ (do ret (←mkInt 0)) _ _ s from Qe (wpAny_mkInt (Qf ⟨_,_,rfl,h⟩)))
     · exact(show wpAny _ _ (do ret (←mkInt 1)) _ _ s from Qe (wpAny_mkInt (Qf ⟨_,_,rfl,h⟩)))
 | tup l=>cases x
theorem zMQ:∀(n:Nat) (k:KT) (v:Value) (A:Around) (s:Shared) (Q:Int->Shared->Prop),IsK s.heap n k v->A.units+n < cLine->Q (hK n k) { s with toks:=s.toks+dK' n k }->wpAny (model prog w) A (pyHash v) Q E s
 | 0,k,v,A,s,Q,x,hu,h=>by
   cases k with
   | tup l=>cases x
   | int i=>exact zWr (k:=.int i) x (by omega) h
 | n+1,.int i,v,A,s,Q,x,hu,h=>zWr (k:=.int i) x (by omega) h
 | n+1,.tup ks,v,A,s,Q,x,hu,h=>by
   obtain⟨a,items,rfl,t,al⟩:=x
   obtain⟨o,ho,hc,m,hd⟩:=id t
   refine PySem.W.pyHash_slot (T:="tuple") ⟨_,ho,hc⟩ F.slot_tuple_hash F.entry_tuple_hash (F.args_tuple_hash_1 _) (beq_builtin_none _) (.inr (by omega)) ?_
   show wpAny _ _ (Builtin.Tuple.tupleItemsOf (.ref a) >>= _) _ _ s
   refine Qe (wpAny_tupleItemsOf ho hd ?_)
   refine Qe ?_
   rw[←Yh]
   refine wpAny_forIn_list _
     (fun rest (b:Array Int) s'=>∃done left,ks=done++left/\All2 (IsK s.heap n) left rest/\b.toList=done.map (hK n)/\s'={ s with toks:=s.toks+(done.map (dK' n)).sum })
     _ ?_ ?_ _ _ ⟨[],ks,rfl,al,rfl,rfl⟩
   · rintro x rest b s' ⟨done,left,rfl,hl,hb,rfl⟩
     cases hl with
     | @cons k _ ks' _ h1 hl' =>
       refine Qe (zMQ n k x A.in1 _ _ h1 (by show A.units+1+n < cLine;omega) ?_)
       first
         | exact Qf ⟨done++[k],ks',by simp,hl',by simp[hb],by simp[Nat.add_assoc]⟩
         | exact Qe (Qf (Qf ⟨done++[k],ks',by simp,hl',by simp[hb],by simp[Nat.add_assoc]⟩))
   · rintro b s' ⟨done,left,rfl,hl,hb,rfl⟩
     cases hl
     rw[Er] at h
     show wpAny _ _ (retInt (Builtin.Tuple.tupleHashOf b.toList)) _ _ _
     rw[hb]
     exact Qe (wpAny_mkInt (Qf ⟨_,_,rfl,by simpa [hK,dK',Nat.add_assoc] using h⟩))
theorem gS {a b:KT}{p:Bool}(h:p=true↔a=b):p=decide (a=b):=by
 by_cases e:a=b
 · rw[Qi e];exact h.mpr e
 · rw[Qz e];cases p with
   | false=>rfl
   | true=>exact absurd (h.mp rfl) e
theorem zQX {k k':KT}{v v':Value}{A:Around}{s:Shared}(x:fO k v)(y:fO k' v'):SeqAt.EqAt A s v v' (decide (k=k')):=by
 cases k with
 | int i =>
   cases k' with
   | int j =>
     rcases x with⟨t,rfl⟩ | ⟨b,rfl,rfl⟩<;>rcases y with⟨t',rfl⟩ | ⟨b',rfl,rfl⟩
     · rw[←gS (p:=i==j) (by simp)];exact Iu _ _ _ _
     · rw[←gS (p:=i==(if b' then 1 else 0)) (by simp)];exact SeqAt.EqAt.int_bool _ _ _
     · rw[←gS (p:=(if b then 1 else 0)==j) (by simp)];exact SeqAt.EqAt.bool_int _ _ _
     · rw[←gS (p:=b==b') (by cases b<;>cases b'<;>simp)];exact Uv _ _
   | tup l=>cases y
 | tup l=>cases x
theorem zZk {k:KT}{v:Value}{A:Around}{s:Shared}{a:Addr}{items:Array Value}(t:s.heap.IsTuple a items)(hu:A.units < cLine)(y:fO k v):SeqAt.EqAt A s (.ref a) v false/\SeqAt.EqAt A s v (.ref a) false:=by
 cases k with
 | int i =>
   rcases y with⟨t',rfl⟩ | ⟨b',rfl,_⟩
   · exact⟨SeqAt.EqAt.tuple_int _ _ t hu,SeqAt.EqAt.int_tuple _ _ t hu⟩
   · exact⟨SeqAt.EqAt.tuple_bool _ t hu,SeqAt.EqAt.bool_tuple _ t hu⟩
 | tup l=>cases y
theorem zL3 {ks ls:List KT}:((List.range (min ks.length ls.length)).all (fun j=>decide (ks[j]?=ls[j]?))&&ks.length==ls.length)=decide (KT.tup ks=KT.tup ls):=by
 refine gS ?_
 rw[Qx,Qv,Ul]
 constructor
 · rintro⟨h1,h2⟩
   congr 1
   refine List.ext_getElem? fun j=>?_
   by_cases hj:j < min ks.length ls.length
   · exact Ew (h1 j (Rz.mpr hj))
   · rw[Yq (by omega),Yq (by omega)]
 · intro e
   cases e
   exact⟨fun j _=>Qi rfl,rfl⟩
theorem zHM:∀(n:Nat) (k k':KT) (v v':Value) (A:Around) (s:Shared),IsK s.heap n k v->IsK s.heap n k' v'->A.units+n < cLine->SeqAt.EqAt A s v v' (decide (k=k'))
 | 0,k,k',v,v',A,s,x,y,hu=>zQX x y
 | n+1,.tup ks,.tup ls,v,v',A,s,x,y,hu=>by
   obtain⟨a,items,rfl,t,al⟩:=x
   obtain⟨b,jtems,rfl,t',al'⟩:=y
   by_cases hab:a=b
   · subst hab
     have e:=zZp t t'
     subst e
     have e:=al.inj (fun p q r=>zVu n p q r) al'
     subst e
     rw[Qi rfl]
     exact Ya _
   · refine .of_refs hab ?_
     have l1:=al.length
     have l2:=al'.length
     have R:=SeqAt.RcAt.tuples (A:=A) (e:=fun j=>decide (ks[j]?=ls[j]?)) t t' (by omega) fun j h1 h2=>by
       have b1:j < ks.length:=by rw[l1];simpa using h1
       have b2:j < ls.length:=by rw[l2];simpa using h2
       have q:=zHM n ks[j] ls[j] items[j] jtems[j] A.in1 s (al.get j b1 (by simpa using h1)) (al'.get j b2 (by simpa using h2)) (by show A.units+1+n < cLine;omega)
       have e:decide (ks[j]?=ls[j]?)=decide (ks[j]=ls[j]):=by
         refine gS ?_
         rw[decide_eq_true_iff,Qu b1,Qu b2,Option.some_inj]
       rw[e]
       exact q
     have e:=zL3 (ks:=ks) (ls:=ls)
     rw[l1,l2,Ex,Ex] at e
     rw[←e]
     exact R
 | n+1,.tup ks,.int i,v,v',A,s,x,y,hu=>by
   obtain⟨a,items,rfl,t,al⟩:=x
   rw[←gS (p:=false) (by simp)]
   exact(zZk (k:=.int i) t (by omega) y).1
 | n+1,.int i,.tup ks,v,v',A,s,x,y,hu=>by
   obtain⟨a,items,rfl,t,al⟩:=y
   rw[←gS (p:=false) (by simp)]
   exact(zZk (k:=.int i) t (by omega) x).2
 | n+1,.int i,.int j,v,v',A,s,x,y,hu=>zQX (k:=.int i) (k':=.int j) x y
theorem zYr {k:KT}{v:Value}(m:Nat)(x:fO k v):eqIsQuiet m v=pure true:=by
 refine eqIsQuiet_byValue m ?_
 cases k with
 | int i=>rcases x with⟨t,rfl⟩ | ⟨b,rfl,_⟩<;>rfl
 | tup l=>cases x
theorem zRu:∀(n:Nat) (k:KT) (v:Value) (m:Nat) (A:Around) (s:Shared) (Q:Bool->Shared->Prop),n<=m->IsK s.heap n k v->Q true s->wpAny (model prog w) A (eqIsQuiet m v) Q E s
 | 0,k,v,m,A,s,Q,hm,x,h=>by rw[zYr m x];exact Qf h
 | n+1,.int i,v,m,A,s,Q,hm,x,h=>by rw[zYr (k:=.int i) m x];exact Qf h
 | n+1,.tup ks,v,0,A,s,Q,hm,x,h=>absurd hm (by omega)
 | n+1,.tup ks,v,m+1,A,s,Q,hm,x,h=>by
   obtain⟨a,items,rfl,t,al⟩:=x
   obtain⟨o,ho,hc,m',hd⟩:=id t
   have hT:s.TypeIs (.ref a) "tuple":=⟨_,ho,hc⟩
   unfold eqIsQuiet
   refine Qe (Yf hT F.slot_tuple_eq.lookup ?_)
   show wpAny _ _ (isInstance (.ref a) (.type "tuple") >>= _) _ _ s
   refine Qe (Uw hT isSubtype_tuple_tuple ?_)
   simp only[Yt,Wo,Ro]
   refine Qe (Ez ho hd ?_)
   refine Qe ?_
   show wpAny _ _ (forIn items _ _) _ _ s
   rw[←Yh]
   refine wpAny_forIn_list _ (fun rest r s'=>r.1=none/\s'=s/\∃left,All2 (IsK s.heap n) left rest) _ ?_ ?_ _ _ ⟨rfl,rfl,ks,al⟩
   · rintro v rest r s' ⟨hr,rfl,left,hall⟩
     cases hall with
     | cons h1 h2 =>
       refine Qe (zRu n _ v m A s' _ (by omega) h1 ?_)
       simp only[Yt,Wo,Ro]
       exact Qf ⟨rfl,rfl,_,h2⟩
   · rintro⟨r1,r2⟩ s' ⟨hr,rfl,_⟩
     simp only at hr
     subst hr
     exact Qf h
end
theorem zWL {h h':Heap}{d:Addr}{o:Obj}{es ep}(ho:h.get? d=some o)(hd:o.data = .dict es ep)(hs:Heap.SameBut d h h')(a:Addr)(items:Array Value)(t:h.IsTuple a items):h'.IsTuple a items:=by
 obtain⟨o',ho',hc,n,hd'⟩:=t
 have hne:a≠d:=by
   rintro rfl
   rw[ho] at ho';cases ho'
   rw[hd] at hd';cases hd'
 exact⟨o',(hs.2 a hne).trans ho',hc,n,hd'⟩
def aF (prog:Program)(w:World):HeapKind prog w KT where
 is:=fun h k a=>IsK h 8 k (.ref a)
 hash:=hK 8
 draws:=dK' 8
 room:=fun A=>A.units+8 < cLine
 inj:=fun hx hy=>zVu 8 _ _ _ hx hy
 keeps:=fun x ho hd hs=>zW4 (zWL ho hd hs) 8 _ _ x
 pyHash:=fun hu hk h=>zMQ 8 _ _ _ _ _ hk hu h
 eqBool:=fun hu hx hy h=>zHM 8 _ _ _ _ _ _ hx hy hu _ _ _ _ h
 quiet:=fun hk h=>zRu 8 _ _ 8 _ _ _ (by omega) hk h
section
variable {X:Cx} {pins:List (Addr×Obj)} {σ:St} {G H:Hp} {s:Shared}
theorem zUs {ds:List D}{ks:List KT}{n:Nat}(f:∀(d:D) (v:V) (u:Value) (k:KT),ktD n d=some k->Rep X.K G d v->RelV v u->IsK s.heap n k u):∀ {ds:List D} {ks:List KT} {vs:List V} {us:List Value},zZL (ktD n) ds=some ks->Reps X.K G ds vs->Vals vs us->All2 (IsK s.heap n) ks us
 | [],ks,vs,us,h,r,w=>by
   rw[yV] at r;subst r
   cases h;cases w;exact .nil
 | d::ds,ks,vs,us,h,r,w=>by
   obtain⟨v,vr,rfl,r1,r2⟩:=zE.mp r
   unfold zZL at h
   obtain⟨k,h1,h⟩:=Qq.mp h
   obtain⟨ks',h2,rfl⟩:=Qt.mp h
   cases w with
   | cons w1 w2=>exact .cons (f d v _ k h1 r1 w1) (zUs (ds:=ds) (ks:=ks') f h2 r2 w2)
theorem zVP (I:Inv X pins σ H s)(sub:Same G H):∀(n:Nat) (d:D) (v:V) (u:Value) (k:KT),ktD n d=some k->Rep X.K G d v->RelV v u->IsK s.heap n k u:=by
 have leaf:∀(n:Nat) (d:D) (v:V) (u:Value) (k:KT),(∀ds,d ≠ .tup ds)->ktD n d=some k->Rep X.K G d v->RelV v u->IsK s.heap n k u:=fun n d v u k hd h r ru=>by
   cases d with
   | int i =>
     have e:k = .int i:=by cases n<;>(cases h;rfl)
     subst e
     rw[zG] at r;subst r
     obtain⟨t,rfl⟩:=ru
     exact(zTS (fun l z=>by cases z)).mpr (.inl ⟨t,rfl⟩)
   | bl b =>
     have e:k = .int (if b then 1 else 0):=by cases n<;>(cases h;rfl)
     subst e
     rw[w6] at r;subst r
     cases ru
     exact(zTS (fun l z=>by cases z)).mpr (.inr ⟨b,rfl,rfl⟩)
   | tup ds=>exact absurd rfl (hd ds)
   | _=>cases n<;>cases h
 intro n
 induction n with
 | zero =>
   intro d v u k h r ru
   cases d with
   | tup ds=>cases h
   | _=>exact leaf 0 _ v u k (fun _ z=>by cases z) h r ru
 | succ n ih =>
   intro d v u k h r ru
   cases d with
   | tup ds =>
     unfold ktD at h
     obtain⟨ks,h1,rfl⟩:=Qt.mp h
     obtain⟨p,vs,rfl,q1,q2⟩:=yF.mp r
     cases ru
     obtain⟨its,w1,t1,_⟩:=I.tuple (sub.tup q1)
     exact⟨p,its.toArray,rfl,t1,zUs (ds:=ds) (ks:=ks) ih h1 q2 w1⟩
   | _=>exact leaf (n+1) _ v u k (fun _ z=>by cases z) h r ru
def qS:List KT->List Addr->List Value->List (KT×Addr×Value)
 | k::ks,a::as,u::us=>(k,a,u)::qS ks as us
 | _,_,_=>[]
theorem zYu (P:Program)(w:World):∀(ks:List KT) (as:List Addr) (us:List Value),zZx ks as us=(qS ks as us).map (entryOfKey (aF P w))
 | k::ks,a::as,u::us=>by rw[zZx,qS,Qp,zYu P w ks as us];rfl
 | [],_,_=>by simp[zZx,qS]
 | _::_,[],_=>by simp[zZx,qS]
 | _::_,_::_,[]=>by simp[zZx,qS]
theorem gO:∀ {ks:List KT} {as:List Addr} {us:List Value},ks.length=as.length->ks.length=us.length->(qS ks as us).map (·.1)=ks
 | [],[],[],_,_=>rfl
 | k::ks,a::as,u::us,h1,h2=>by rw[qS,Qp,gO (by simpa using h1) (by simpa using h2)]
 | [],_::_,_,h,_=>by simp at h
 | [],[],_::_,_,h=>by simp at h
 | _::_,[],_,h,_=>by simp at h
 | _::_,_::_,[],_,h=>by simp at h
theorem zLR {ks:List KT}{as:List Addr}{us:List Value}(h1:ks.length=as.length)(h2:ks.length=us.length):(qS ks as us).length=ks.length:=by
 have:=Ea List.length (gO h1 h2)
 rwa[Qy] at this
theorem zT7:∀ {ks:List KT} {as:List Addr} {us:List Value} (k:KT) (a:Addr) (u:Value),ks.length=as.length->ks.length=us.length->qS ks as us++[(k,a,u)]=qS (ks++[k]) (as++[a]) (us++[u])
 | [],[],[],k,a,u,_,_=>rfl
 | k'::ks,a'::as,u'::us,k,a,u,h1,h2=>by
   show(k',a',u')::(qS ks as us++[(k,a,u)])=_
   rw[zT7 k a u (by simpa using h1) (by simpa using h2)]
   rfl
 | [],_::_,_,_,_,_,h,_=>by simp at h
 | [],[],_::_,_,_,_,_,h=>by simp at h
 | _::_,[],_,_,_,_,h,_=>by simp at h
 | _::_,_::_,[],_,_,_,_,h=>by simp at h
theorem ODs.lens {K:PySem.W.Frag}:∀ {kvs ks as vs},ODs K G kvs ks as vs->ks.length=as.length/\ks.length=vs.length/\kvs.length=ks.length
 | _,_,_,_,.nil=>⟨rfl,rfl,rfl⟩
 | _,_,_,_,.cons _ _ _ h=>by
   obtain⟨a,b,c⟩:=ODs.lens h
   simp only[Qo]
   omega
theorem ODs.keys {K:PySem.W.Frag}:∀ {kvs ks as vs},ODs K G kvs ks as vs->(kvs.map fun p=>ktD 8 p.1)=ks.map some
 | _,_,_,_,.nil=>rfl
 | _,_,_,_,.cons h1 _ _ h=>by rw[Qp,Qp,h1,ODs.keys h]
theorem ODs.snoc {K:PySem.W.Frag}{d e:D}{k:KT}{a:Addr}{v:V}(h1:ktD 8 d=some k)(h2:Rep K G d (.ref a))(h3:Rep K G e v):∀ {kvs ks as vs},ODs K G kvs ks as vs->ODs K G (kvs++[(d,e)]) (ks++[k]) (as++[a]) (vs++[v])
 | _,_,_,_,.nil=>.cons h1 h2 h3 .nil
 | _,_,_,_,.cons a1 a2 a3 h=>.cons a1 a2 a3 (ODs.snoc h1 h2 h3 h)
theorem zNe (I:Inv X pins σ H s)(sub:Same G H):∀ {kvs ks as vs} {us:List Value},ODs X.K G kvs ks as vs->Vals vs us->∀x∈qS ks as us,IsK s.heap 8 x.1 (.ref x.2.1)
 | _,_,_,_,_,.nil,_=>fun x hx=>by simp[qS] at hx
 | _,_,_,_,_,.cons h1 h2 h3 h,w=>by
   cases w with
   | cons w1 w2 =>
     intro x hx
     rcases Qa.mp hx with rfl | hx
     · exact zVP I sub 8 _ _ _ _ h1 h2 rfl
     · exact zNe I sub h w2 x hx
theorem zRf (I:Inv X pins σ H s)(sub:Same G H){a:Addr}{kvs ks as vs}(hp:H a=some (.ext (kX a ks as vs)))(od:ODs X.K G kvs ks as vs)(nd:ks.Nodup):∃us,Vals vs us/\ks.length=us.length/\s.heap.DictOfH (aF X.prog X.w) a (qS ks as us):=by
 obtain⟨⟨us,w,o,es,ep,h1,h2,h3,h4⟩,_⟩:=(show ObjOk X.prog X.w H s.heap a (.ext (kX a ks as vs)) from I.hok a _ hp)
 obtain⟨l1,l2,_⟩:=od.lens
 have l3:ks.length=us.length:=l2.trans w.length
 refine⟨us,w,l3,o,es,ep,h1,h2,h3,?_,zNe I sub od w,?_⟩
 · rw[h4];exact zYu X.prog X.w ks as us
 · rw[gO l1 l3];exact nd
theorem zQC {P:Program}{w:World}{H':Hp}{h':Heap}{a:Addr}{ks as}{vs:List V}{us:List Value}(hv:Vals vs us){o es ep}(h1:h'.get? a=some o)(h2:o.ExactDict)(h3:o.data = .dict es ep)(h4:es.toList=zZx ks as us):ObjOk P w H' h' a (.ext (kX a ks as vs)) :=
 ⟨⟨us,hv,o,es,ep,h1,h2,h3,h4⟩,⟨o,h1⟩,fun g1 g2 ⟨us,hv,o,es,ep,e1,e2,e3,e4⟩ k=>⟨us,hv,o,es,ep,k o e1,e2,e3,e4⟩⟩
theorem zYe {ks:List KT}{as:List Addr}{us:List Value}(h1:ks.length=as.length)(h2:ks.length=us.length)(k:KT):(atKey (qS ks as us) k).isSome=decide (k∈ks):=by
 unfold atKey
 rw[Option.isSome_map]
 by_cases hm:k∈ks
 · rw[Qi hm,List.find?_isSome]
   rw[←gO h1 h2] at hm
   obtain⟨x,hx,e⟩:=Wa.mp hm
   exact⟨x,hx,Qi e⟩
 · rw[Qz hm]
   cases hf:List.find? (fun x:KT×Addr×Value=>decide (x.1=k)) (qS ks as us) with
   | none=>rfl
   | some x =>
     refine absurd ?_ hm
     rw[←gO h1 h2]
     have hx:=List.find?_some hf
     exact Wa.mpr ⟨x,List.mem_of_find?_eq_some hf,Ew hx⟩
theorem Paired.upd {α β:Type}{F F':α->β->Prop}{b':β}:∀ {l:List α} {r:List β} (i:Nat),Paired F l r->(∀(j:Nat) (a:α) (b:β),j≠i->l[j]?=some a->r[j]?=some b->F a b->F' a b)->(∀a,l[i]?=some a->F' a b')->Paired F' l (r.set i b')
 | _,_,_,.nil,_,_=>.nil
 | _,_,0,.cons q t,h1,h2=>by
   rw[List.set_cons_zero]
   refine .cons (h2 _ rfl) ?_
   have tl:∀ {l:List α} {r:List β} (n:Nat),Paired F l r->(∀(j:Nat) (a:α) (b:β),l[j]?=some a->r[j]?=some b->F a b->F' a b)->Paired F' l r:=by
     intro l r n p
     induction p with
     | nil=>intro _;exact .nil
     | cons q t ih=>intro h;exact .cons (h 0 _ _ rfl rfl q) (ih fun j a b e1 e2=>h (j+1) a b (by simpa using e1) (by simpa using e2))
   exact tl 0 t fun j a b e1 e2=>h1 (j+1) a b (by omega) (by simpa using e1) (by simpa using e2)
 | _,_,i+1,.cons q t,h1,h2=>by
   rw[List.set_cons_succ]
   exact .cons (h1 0 _ _ (by omega) rfl rfl q) (Paired.upd i t (fun j a b hj e1 e2=>h1 (j+1) a b (by omega) (by simpa using e1) (by simpa using e2)) fun a e=>h2 a (by simpa using e))
def zIE:B->Bool | .od _=>true | _=>false
def zQJ (i:Nat)(ρ:List B):Bool:=(List.range ρ.length).all fun j=>j==i || !(zIE (ρ.getD j .no))
theorem zMR {i j:Nat}{ρ:List B}{b:B}(h:zQJ i ρ=true)(hj:j≠i)(e:ρ[j]?=some b):zIE b=false:=by
 unfold zQJ at h
 have hl:=(Qm.mp e).1
 have:=Qv.mp h j (Rz.mpr hl)
 rw[Wu,e] at this
 simpa [hj] using this
variable {K:PySem.W.Frag} {G0 H0:Hp} {ρ:List B}
theorem Good.dict {i:Nat}{kvs:List (D×D)}(g:Good K G0 H0 G H σ ρ)(h:ρ[i]?=some (.od kvs)):∃a ks as vs,σ[i]?=some (some (.ref a))/\H a=some (.ext (kX a ks as vs))/\G a=none/\H0 a=none/\ODs K G kvs ks as vs/\ks.Nodup/\(a==sysModules)=false:=by
 obtain⟨o,e,r⟩:=Paired.get g.vals h
 cases r with
 | od h1 h2 h3 h4 h5 h6=>exact⟨_,_,_,_,e,h1,h2,h3,h4,h5,h6⟩
theorem eB {i j:Nat}{kvs:List (D×D)}{ds:List D}(h:(ρ.set i (.od kvs))[j]?=some (.ow ds)):j≠i/\ρ[j]?=some (.ow ds):=by
 by_cases e:j=i
 · subst e
   rw[Ik] at h
   split at h
   · split at h<;>cases h
   · rename_i z;exact absurd rfl z
 · rw[Wb (Ne.symm e)] at h
   exact⟨e,h⟩
theorem Good.setD {a:Addr}{ks as vs}{kvs:List (D×D)}(g:Good K G0 H0 G H σ ρ)(i:Nat)(ha:H a=some (.ext (kX a ks as vs)))(ga:G a=none)(h0:H0 a=none)(od:ODs K G kvs ks as vs)(nd:ks.Nodup)(hm:(a==sysModules)=false):Good K G0 H0 G H (σ.set i (some (.ref a))) (ρ.set i (.od kvs)):=by
 refine⟨g.st,Paired.set (.od ha ga h0 od nd hm) i g.vals,fun j k b d1 d2 h1 h2 h3 h4=>?_⟩
 obtain⟨n1,e1⟩:=eB h1
 obtain⟨n2,e2⟩:=eB h2
 rw[Wb (Ne.symm n1)] at h3
 rw[Wb (Ne.symm n2)] at h4
 exact g.apart j k b d1 d2 e1 e2 h3 h4
theorem Good.wrD {a:Addr}{ks as vs}{kvs kvs':List (D×D)}{i:Nat}(g:Good K G0 H0 G H σ ρ)(ho:zQJ i ρ=true)(hi:ρ[i]?=some (.od kvs))(hs:σ[i]?=some (some (.ref a)))(od:ODs K G kvs' ks as vs)(nd:ks.Nodup) :
   Good K G0 H0 G (upd H a (.ext (kX a ks as vs))) σ (ρ.set i (.od kvs')):=by
 obtain⟨a',ks0,as0,vs0,h1,h2,h3,h4,_,_,hm⟩:=g.dict hi
 rw[hs] at h1;cases h1
 refine⟨⟨fun b o e=>?_,g.st.gg,fun b o e=>?_,g.st.new⟩,?_,fun j k b d1 d2 e1 e2 e3 e4=>?_⟩
 · rw[yI (xR e h4)];exact g.st.hh b o e
 · rw[yI (xR e h3)];exact g.st.sub b o e
 · refine Paired.upd i g.vals (fun j x b hj e1 e2 q=>?_) fun x e=>?_
   · cases q with
     | no=>exact .no
     | fz r=>exact .fz r
     | @ow c us ds c1 c2 c3 c4 =>
       have:c≠a:=fun z=>by rw[z,h2] at c1;cases c1
       exact .ow (by rw[yI this];exact c1) c2 c3 c4
     | od _ _ _ _ _ _=>exact absurd (zMR ho hj e2) (by intro z;cases z)
   · rw[hs] at e;cases e
     exact .od yX h3 h4 od nd hm
 · obtain⟨n1,f1⟩:=eB e1
   obtain⟨n2,f2⟩:=eB e2
   exact g.apart j k b d1 d2 f1 f2 e3 e4
variable {a b c e:Expr} {fa fb:Ef} {pos p p1 p2:Pos} {k:Nat}
theorem Inv.big' {pins:List (Addr×Obj)}{σ:St}{H:Hp}{s:Shared}(I:Inv X pins σ H s):sysModules < s.heap.objs.size:=by
 have h:mainGlobals < s.heap.objs.size:=(I.mod.glob.keeps I.bk).lt
 exact Nat.lt_trans (by decide) h
def zI4:TE:=fun _ H Q=>∀p,H p=none->(p==sysModules)=false->Q (.ref p) (upd H p (.ext (kX p [] [] [])))
theorem zLP:PE X (.Dict [] [] pos) zI4:=fun pins s σ H Q I h =>
 wpAny_Dict_empty ⟨.ref s.heap.objs.size,_,I.laid (a:=s.heap.objs.size) (o:=.ext (kX s.heap.objs.size [] [] [])) (t':=s.toks) (fun _ _ q=>Qr _ q) (Ql _) (zQC .nil (Qk _ rfl) ⟨rfl,rfl,rfl⟩ rfl rfl),rfl,
   h _ (I.hok.fresh (Ql _)) (Es.mpr (Ne.symm (Wm I.big')))⟩
def zND (i:Nat):Sf:=fun ρ=>some (.nx (ρ.set i (.od [])))
theorem zQL (i:Nat){x:Str}{pos':Pos}(hN:X.N.Nodup)(hi:X.N[i]?=some x:=by rfl)(hx:Loc X.env.scope x:=by first | exact .inl rfl | exact .inr rfl)(hs:swapsWith (.Dict [] [] p) (some (.Name x pos')) pos.line X.env=pure false:=by rfl)
   (hf:X.fn x=true∨X.env.scope.names.lookup x=some .local:=by first | exact .inl rfl | exact .inr rfl):PFS X (.Assign [.Name x pos'] (.Dict [] [] p) pos) (zND i):=by
 refine PS.to (zU7 hN hi hx zLP hs hf) ?_
 rintro D σ H ⟨G0,H0,G,ρ,o,good,hf,k⟩
 cases hf
 intro q hq hm
 have s1:=Step.own (o:=.ext (kX q [] [] [])) good.st.sub hq
 exact k _ _ G s1.gg ((good.step s1).setD i yX (good.st.sub.free hq) (good.st.hh.free hq) .nil List.nodup_nil hm)
theorem zJD (hu:X.A.units+10 < cLine):OpR X (compareOp .In) (fun x y H Q=>∃G a b d kt kvs ks as vs,x = .ref b/\y = .ref a/\Same G H/\ktD 8 d=some kt/\Rep X.K G d (.ref b)/\H a=some (.ext (kX a ks as vs))/\ODs X.K G kvs ks as vs/\ks.Nodup/\(a==sysModules)=false/\Q (.bl (decide (kt∈ks))) H):=by
 intro pins s σ H x y v u Q I rx ry ⟨G,a,b,d,kt,kvs,ks,as,vs,e1,e2,sub,hk,rd,hp,od,nd,hm,q⟩
 subst e1 e2
 cases rx
 cases ry
 obtain⟨us,hv,hl,dd⟩:=zRf I sub hp od nd
 refine wpAny_in_heap (knd:=aF X.prog X.w) (show X.A.units+1+8 < cLine by omega) (zVP I sub 8 _ _ _ _ hk rd rfl) hm dd ?_
 rw[zYe od.lens.1 hl]
 exact⟨.bl _,H,I.tok _,rfl,q⟩
def zN1:D->Option KT | .tup ds=>ktD 8 (.tup ds) | _=>none
theorem zTs {K:PySem.W.Frag}{G:Hp}{d:D}{kt:KT}{v:V}(h:zN1 d=some kt)(r:Rep K G d v):ktD 8 d=some kt/\∃b,v = .ref b:=by
 cases d with
 | tup ds=>obtain⟨p,vs,rfl,_⟩:=yF.mp r;exact⟨h,p,rfl⟩
 | _=>cases h
def zVd (i:Nat)(fk:Ef):Tf:=fun ρ=>(fk ρ).bind fun d=>(zN1 d).bind fun k=>match ρ[i]? with | some (.od kvs)=>some (decide (some k∈kvs.map fun p=>ktD 8 p.1)) | _=>none
theorem zMW {K:PySem.W.Frag}{G:Hp}{kvs ks as vs}(od:ODs K G kvs ks as vs)(k:KT):decide (some k∈kvs.map fun p=>ktD 8 p.1)=decide (k∈ks):=by
 rw[od.keys]
 by_cases h:k∈ks
 · rw[Qi h,Qi (Wa.mpr ⟨k,h,rfl⟩)]
 · rw[Qz h,Qz fun z=>by obtain⟨x,hx,e⟩:=Wa.mp z;cases e;exact h hx]
theorem zNQ (i:Nat){x:Str}(hr:Room k X.A)(ha:PF X a fa)(hN:X.N[i]?=some x:=by rfl)(hv:Vis X.env.scope x:=by first | exact Or.inl rfl | exact Or.inr (Or.inl rfl) | exact Or.inr (Or.inr rfl))(hd:(x==("__debug__":Str))=false:=by decide)(hcd:(x==("__classdict__":Str))=false:=by decide)
   (hm:behindInMarks .In (.Name x p)=false:=by first | exact zZ3 _ | (with_unfolding_all rfl)):PFT X (.Compare a [.In] [.Name x p] pos) (zVd i fa):=by
 have hu:=hr.un
 refine PT.to (bA (zJD (by omega)) ha (lL hN hv hd hcd) hm) ?_
 rintro σ H Q ⟨G0,H0,G,ρ,c,good,hf,kk⟩
 unfold zVd at hf
 obtain⟨d,h1,hf⟩:=Qq.mp hf
 obtain⟨kt,h2,hf⟩:=Qq.mp hf
 split at hf
 · rename_i kvs hi
   cases hf
   refine⟨G0,H0,G,ρ,_,good,h1,fun u H1 G1 s1 r1=>?_⟩
   obtain⟨q,ks,as,vs,e1,e2,e3,e4,e5,e6,e7⟩:=(good.step s1).dict hi
   obtain⟨hk,b,rfl⟩:=zTs h2 r1
   refine⟨.ref q,e1,G1,q,b,d,kt,kvs,ks,as,vs,rfl,rfl,s1.sub,hk,r1,e2,e5,e6,e7,_,rfl,?_⟩
   rw[←zMW e5]
   exact kk _ G1 s1
 · cases hf
def zH4 (X:Cx):V->V->V->Hp->(Hp->Prop)->Prop:=fun o i v H Q=>∃G a b d kt kvs ks as vs,o = .ref a/\i = .ref b/\Same G H/\ktD 8 d=some kt/\Rep X.K G d (.ref b)/\H a=some (.ext (kX a ks as vs))/\ODs X.K G kvs ks as vs/\ks.Nodup/\kt∉ks/\kvs.length<=lim/\Q (upd H a (.ext (kX a (ks++[kt]) (as++[b]) (vs++[v]))))
theorem zWs:∀ {vs:List V} {us:List Value} {v:V} {u:Value},Vals vs us->RelV v u->Vals (vs++[v]) (us++[u])
 | _,_,_,_,.nil,h=>.cons h .nil
 | _,_,_,_,.cons a t,h=>.cons a (zWs t h)
theorem zMr (hu:X.A.units+10 < cLine):zJS X (zH4 X):=by
 intro pins s σ H o i v ov iv u Q I ro ri rv h
 obtain⟨G,a,b,d,kt,kvs,ks,as,vs,rfl,rfl,sub,hk,rd,hp,od,nd,hn,hl,q⟩:=h
 cases ro
 cases ri
 obtain⟨us,hv,hl2,dd⟩:=zRf I sub hp od nd
 obtain⟨l1,l2,l3⟩:=od.lens
 have hz:(qS ks as us).length<=sizeLine:=by rw[zLR l1 hl2];exact Wx (vO (by omega))
 refine wpAny_setItem_heap (knd:=aF X.prog X.w) (hsz:=hz) (show X.A.units+1+8 < cLine by omega) (zVP I sub 8 _ _ _ _ hk rd rfl) dd fun h' dd' hs=>⟨_,?_,q⟩
 have hnone:atKey (qS ks as us) kt=none:=by
   have:=zYe l1 hl2 kt
   rw[Qz hn] at this
   exact Option.isSome_eq_false_iff.mp this |> fun z=>by simpa using z
 rw[storedH_new hnone,zT7 kt b u l1 hl2] at dd'
 obtain⟨o',es,ep,g1,g2,g3,g4,_⟩:=dd'
 refine I.write (x:=a) (e:=a) (by rw[hp];trivial) (.inl rfl) (fun c w' hc z=>(hs.2 c hc).trans z) ⟨o',g1⟩ (zQC (zWs hv rv) g1 g2 g3 ?_)
 rw[g4];exact(zYu X.prog X.w _ _ _).symm
def zZq (i:Nat)(fk fv:Ef):Sf:=fun ρ=>(fv ρ).bind fun e=>(fk ρ).bind fun d=>(zN1 d).bind fun k=>match ρ[i]? with
 | some (.od kvs)=>if kvs.length<=lim/\zQJ i ρ=true/\some k∉kvs.map (fun p=>ktD 8 p.1) then some (.nx (ρ.set i (.od (kvs++[(d,e)])))) else none
 | _=>none
theorem zRo (i:Nat){x:Str}(hr:Room k X.A)(he:PF X e fa)(hb:PF X b fb)(hN:X.N[i]?=some x:=by rfl)(hv:Vis X.env.scope x:=by first | exact Or.inl rfl | exact Or.inr (Or.inl rfl) | exact Or.inr (Or.inr rfl))(hd:(x==("__debug__":Str))=false:=by decide)(hcd:(x==("__classdict__":Str))=false:=by decide)
   (ha:∀v,assign (.Subscript (.Name x p1) b p2) X.env v=(do
     let ov ←holding [v] (eval (.Name x p1) X.env)
     let iv ←holding [v,ov] (eval b X.env)
     standAt p2
     holding [v,ov,iv] (setItem ov iv v)
     release [v,ov,iv] []):=by intro _;rfl)
   (hs:swapsWithSole [.Subscript (.Name x p1) b p2] e pos.line X.env=pure false:=by rfl) (hw:swappedStores [.Subscript (.Name x p1) b p2] e X.env=pure none:=by rfl)
   (h1:(assignEach [.Subscript (.Name x p1) b p2] X.env).map (·.2)=[assign (.Subscript (.Name x p1) b p2) X.env]:=by rfl):PFS X (.Assign [.Subscript (.Name x p1) b p2] e pos) (zZq i fb fa):=by
 have hu:=hr.un
 refine PS.to (zSd he (zNi (lL hN hv hd hcd) hb (zMr (by omega)) ha) hs hw h1) ?_
 rintro D σ H ⟨G0,H0,G,ρ,o,good,hf,kk⟩
 unfold zZq at hf
 obtain⟨de,g1,hf⟩:=Qq.mp hf
 obtain⟨d,g2,hf⟩:=Qq.mp hf
 obtain⟨kt,g3,hf⟩:=Qq.mp hf
 split at hf
 · rename_i kvs hi
   split at hf
   · rename_i hc
     obtain⟨hl,ho,hn⟩:=hc
     cases hf
     refine⟨G0,H0,G,ρ,_,good,g1,fun v H1 G1 s1 r1=>?_⟩
     obtain⟨q,ks,as,vs,e1,e2,e3,e4,e5,e6,e7⟩:=(good.step s1).dict hi
     refine⟨.ref q,e1,G0,H0,G1,ρ,_,good.step s1,g2,fun u H2 G2 s2 r2=>?_⟩
     obtain⟨q',ks',as',vs',f1,f2,f3,f4,f5,f6,f7⟩:=((good.step s1).step s2).dict hi
     rw[e1] at f1;cases f1
     obtain⟨hk,b',rfl⟩:=zTs g3 r2
     have hnk:kt∉ks':=fun z=>hn (by rw[f5.keys];exact Wa.mpr ⟨kt,z,rfl⟩)
     refine⟨G2,q,b',d,kt,kvs,ks',as',vs',rfl,rfl,s2.sub,hk,r2,f2,f5,f6,hnk,hl,?_⟩
     refine kk _ _ G2 (s1.gg.trans s2.gg) (((good.step s1).step s2).wrD ho hi e1 (f5.snoc hk r2 (r1.mono s2.gg)) ?_)
     exact Yc.mpr ⟨f6,by simp,fun x hx y hy=>by rw[Wk] at hy;subst hy;intro z;exact hnk (z ▸ hx)⟩
   · cases hf
 · cases hf
end
section
variable {prog:Program} {w:World} {A:Around} {E:Value->Shared->Prop} {s:Shared}
theorem zV3 {id:String}{b:Builtin}{args:List Value}{kw:List (Str×Value)}{Q:Value->Shared->Prop}(hk:builtinKind id=none)(hp:plainId id=true)
   (hb:entryFor table id=some b) (ha:argsOk id ⟨args,kw⟩)
   (hc:wpAny (model prog w) A.in1 (b ⟨args,kw⟩) (fun fin s'=>match fin with
     | .done f=>(match (Except.ok f:Result) with | .ok (.ret v)=>Q v s' | .ok _=>False | .error e=>E e s')
     | .again c'=>c'.quiet=true/\codeAny (model prog w) A c' (fun r s'=>match r with | .ok (.ret v)=>Q v s' | .ok _=>False | .error e=>E e s') s') E s) :
   wpAny (model prog w) A (call (.builtin id) args kw) Q E s:=by
 refine wpAny_call (codeAny_call_builtin hp hb ?_)
 simp only[checkBuiltinCall,hk]
 cases hsig:Manifest.signature? id with
 | none=>exact Qf hc
 | some sig =>
   have h2:Bind.checkArgs id sig ⟨args,kw⟩=pure ():=by simpa only [argsOk,hsig] using ha
   show wpAny _ A.in1 (Bind.checkArgs id sig ⟨args,kw⟩) _ _ s
   rw[h2];exact Qf hc
theorem zOK (a d:Value):argsOk "min" ⟨[a],[("default",d)]⟩:=by unfold argsOk;kernel_rfl
theorem zLv {l:Addr}{d:Value}{Q:Value->Shared->Prop}(hh:A.handled=none)(hl:s.heap.IsList l #[])(h:∀h' tk,(∀b o,s.heap.get? b=some o->h'.get? b=some o)->Q d { s with heap:=h',toks:=tk }) :
   wpAny (model prog w) A (call (.builtin "min") [.ref l] [("default",d)]) Q E s:=by
 have hname:(toString "min"++toString ".loop":String)="min.loop":=by decide
 refine zV3 F.kind_min F.plain_min F.entry_min (zOK _ _) ?_
 show wpAny _ A.in1 (Builtin.Builtins.bindParams "min" ["key","default"] 0 ⟨[],[("default",d)]⟩ >>= _) _ _ s
 refine Qe (wpAny_of_eq (show Builtin.Builtins.bindParams "min" ["key","default"] 0 ⟨[],[("default",d)]⟩=pure [none,some d] from rfl) ?_)
 refine Qe (Qf ?_)
 refine Qe (Yk hl ?_)
 refine Qe (Eb ?_)
 rw[hname]
 have hne:l≠s.heap.objs.size:=by obtain⟨_,e,_⟩:=hl;exact Wm (Qs e)
 refine Qf ⟨Rb F.plain_min_loop _,Rv F.entry_min_loop ?_⟩
 rw[En F.plain_min_loop _]
 show wpAny _ A.in1 (seqItems? (.ref _) >>= _) _ _ _
 refine Qe (Ez (Qk _ rfl) rfl ?_)
 have W:=Walks.list (prog:=prog) (w:=w) (A:=A.in1) hh s.heap.objs.size l hne #[]
 refine Qe (wpAny_tryCatch (W.done _ _ _ ⟨⟨_,Qr _ (Qk _ rfl),rfl,rfl⟩,(hl.push _).push _⟩ fun h' tk hk=>?_))
 refine Qe (Ux ?_)
 refine Qf (h h' tk fun b o e=>hk b o ?_ (Qr _ (Qr _ e)))
 intro hm
 rcases Qa.mp hm with z | z
 · exact absurd (z ▸ Qs e) (Wr _)
 · cases z
variable {X:Cx} {a:Expr} {ga:Lf} {pos p:Pos}
def zUj (g:Lf):Ef:=fun ρ=>(g ρ).bind fun ds=>if ds.isEmpty=true then some .non else none
theorem zMm {kp:Pos}{j}{p2:Pos}(hc:X.calm=true)(hg:Gl X "min")(hm:X.mg "min"=none)(h:zUB X a ga)(hs:starEach [a] X.env=[(false,eval a X.env)]:=by rfl) :
   PF X (.Call (.Name "min" p) [a] [⟨some "default",.Constant .none j p2,kp⟩] pos) (zUj ga):=by
 refine PE.to (t:=fun σ H Q=>zMg X.K ga σ H fun v H1=>∃q,v = .ref q/\SqL X.K H1 q []/\Q .non H1) ?_ ?_
 · intro pins s σ H Q I h0
   refine Tg (qD I hg hm (u:=.builtin "min") (by rfl) ?_ (by decide) (by decide))
   refine callWith_kw ?_ (by rw[hs];rfl) (by rw[hs];rfl) (by rfl) (by rfl)
   refine spliced_more (thn (h pins s σ H _ I h0) fun u s1 ⟨v,H1,I1,rv,q,e,sq,q1⟩=>?_) (by rw[hs];rfl)
   subst e
   cases rv
   refine spliced_none ?_
   refine kws_cons (thn (zOC (X:=X) (j:=j) (pos:=p2) pins s1 σ H1 _ I1 (show tC .non σ H1 (fun v H2=>v = .non/\H2=H1) from⟨rfl,rfl⟩)) fun u2 s2 ⟨v2,H2,I2,rv2,e2,e3⟩=>?_)
   subst e2 e3
   cases rv2
   refine kws_nil ?_
   obtain⟨its,rl,pl,_⟩:=I2.list sq
   cases rl
   exact zLv (I2.ok.hd hc) pl.isList fun h' tk hk=>⟨.non,H2,I2.kept hk,rfl,q1⟩
 · rintro σ H Q ⟨G0,H0,G,ρ,d,good,hf,k⟩
   unfold zUj at hf
   obtain⟨ds,h1,hf⟩:=Qq.mp hf
   split at hf
   · rename_i he
     cases hf
     refine⟨G0,H0,G,ρ,ds,good,h1,fun q vs H1 G1 s1 e1 r1=>⟨q,rfl,?_,k _ _ G1 s1 (uO.mpr rfl)⟩⟩
     have:ds=[]:=by simpa using he
     subst this
     rw[yV] at r1;subst r1
     exact s1.sub.seq e1
   · cases hf
end
mutual
def zHq:D->Bool
 | .non=>true
 | .bl _=>true
 | .int _=>true
 | .str _=>true
 | .tup ds=>zKA ds
 | _=>false
def zKA:List D->Bool
 | []=>true
 | d::r=>zHq d&&zKA r
end
abbrev Jf:=List B->Option Str
end L2
namespace L2
open PySem PySem.Spec PyProof.Rows
open PySem.Builtin PySem.Builtin.Str
theorem zWg:∀l:List (Str×Tok),Vals ((l.map (·.1)).map V.str) (strValues l)
 | []=>.nil
 | (x,t)::r=>.cons ⟨t,rfl⟩ (zWg r)
section
variable {X:Cx} {e c:Expr} {fa fb:Ef} {p:Pos}
def zO8:V->List V->Hp->VK->Prop:=fun x vs H Q=>∃z y,x = .str z/\vs=[.str y]/\1<=y.length/\z.length<=100000/\∀p,H p=none->Q (.ref p) (upd H p (.lst ((Txt.split z y).map V.str)))
theorem zX8:MtR X "str.split" zO8:=by
 intro pins s σ H x xs v us Q I rx rv h
 obtain⟨z,y,rfl,rfl,hy1,hz,q⟩:=h
 obtain⟨t,rfl⟩:=rx
 obtain⟨w,rfl,u,rfl⟩:=rv.one
 have hy:(y.length==0)=false:=by rw[Es];omega
 have hsl:sizeLine=sizeLine:=rfl
 have hlen:=split_le z y
 have go:∀(l:List (Str×Tok)) (k:Nat),l.map (·.1)=Txt.split z y->EP X pins σ Q (.ref s.heap.objs.size) { s with toks:=k,heap:=s.heap.push { cls:=.type "list",data:=.seq (strValues l).toArray } }:=by
   intro l k hl
   refine⟨.ref s.heap.objs.size,_,I.laid (o:=.lst ((Txt.split z y).map V.str)) (fun b o e=>Qr _ e) (Ql _) ?_,rfl,q _ I.fresh⟩
   exact⟨by rw[Qy,Yv];omega,_,_,by rw[←hl];exact zWg l,Qk _ rfl⟩
 have hn:(partsBetween z (occurrences z y 0 z.length (z.length+1)) y.length).length<=sizeLine:=by
   have e1:=StrLaws.occ_length_le z y 0 z.length (z.length+1)
   rw[length_partsBetween,Yv];omega
 cases h1:(decide (z.length < y.length)||decide (strKind z < strKind y))
 · cases hf:(occurrences z y 0 z.length (z.length+1)).isEmpty
   · refine Yu F.slot_str_split (Uz _ _ _) F.entry_str_split (F.args_str_split_2 _ _) (meets_str_split_sep z y t u h1 hy hf (by rw[Yv];omega) hn) ?_
     show wants _ _ _ { s with toks:=_,heap:=s.heap.push { cls:=.type "list",data:=.seq (strsFrom s.toks (partsBetween z (occurrences z y 0 z.length (z.length+1)) y.length)).toArray } }
     rw[strsFrom_eq]
     exact go (PySem.numbered s.toks _) _ ((numbered_texts _ _).trans ((Ws (Ir h1)).trans (Ws (Ir hf))).symm)
   · exact Yu F.slot_str_split (Uz _ _ _) F.entry_str_split (F.args_str_split_2 _ _) (meets_str_split_not_found z y t u h1 hy hf) (go [(z,t)] s.toks ((Ws (Ir h1)).trans (Qb hf)).symm)
 · exact Yu F.slot_str_split (Uz _ _ _) F.entry_str_split (F.args_str_split_2 _ _) (meets_str_split_cannot_occur z y t u h1) (go [(z,t)] s.toks (Qb h1).symm)
theorem zWx {K:PySem.W.Frag}{G:Hp}:∀ys:List Str,Reps K G (ys.map D.str) (ys.map V.str)
 | []=>by rw[Wv,Wv,yV]
 | y::r=>by rw[Qp,Qp];exact zE.mpr ⟨_,_,rfl,yM.mpr rfl,zWx r⟩
def lM (x y:D):Option (List D):=match x,y with | .str z,.str m=>if 1<=m.length/\z.length<=100000 then some ((Txt.split z m).map D.str) else none | _,_=>none
def jA (fa fb:Ef):Lf:=fun ρ=>(fa ρ).bind fun x=>(fb ρ).bind fun y=>lM x y
theorem zYo (ht:PE X c (tBM X.K "str" zO8 (tF X.K fa) (zY7 (tF X.K fb) zSb))):PFr X c (jA fa fb):=by
 refine PE.toR ht ?_
 rintro σ H Q ⟨G0,H0,G,ρ,d,good,hf,k⟩
 unfold jA at hf
 obtain⟨x,h1,hf⟩:=Qq.mp hf
 obtain⟨y,h2,hf⟩:=Qq.mp hf
 unfold lM at hf
 split at hf
 · split at hf
   · rename_i hz
     cases hf
     refine⟨G0,H0,G,ρ,_,good,h1,fun u H1 G1 s1 r1=>?_⟩
     have r1:=yM.mp r1
     subst r1
     refine⟨rfl,G0,H0,G1,ρ,_,good.step s1,h2,fun v H2 G2 s2 r2=>?_⟩
     have r2:=yM.mp r2
     subst r2
     refine⟨_,_,rfl,rfl,hz.1,hz.2,fun l hl=>?_⟩
     exact k l _ _ G2 ((s1.trans s2).trans (Step.own s2.sub hl)) ((s1.trans s2).hh.free hl) yX (s2.sub.free hl) (zWx _)
   · cases hf
 · cases hf
end
theorem zWu {c:Nat}:∀ {x x' r r':List Nat},c∉x->c∉x'->x++c::r=x'++c::r'->x=x'/\r=r'
 | [],[],_,_,_,_,h=>⟨rfl,(Ip h).2⟩
 | [],b::x',_,_,_,h2,h=>absurd (by rw[(Ip h).1];exact Qh) h2
 | a::x,[],_,_,h1,_,h=>absurd (by rw[←(Ip h).1];exact Qh) h1
 | a::x,b::x',_,_,h1,h2,h=>by
   obtain⟨e1,e2⟩:=Ip h
   obtain⟨e3,e4⟩:=zWu (fun z=>h1 (Qd _ z)) (fun z=>h2 (Qd _ z)) e2
   exact⟨by rw[e1,e3],e4⟩
def wK (c:Nat)(y:Str):Prop:=c∉y.cps.toList
theorem qP (c:Nat)(x y:Str)(r:List Str):(Str.join ⟨#[c]⟩ (x::y::r)).cps.toList=x.cps.toList++c::(Str.join ⟨#[c]⟩ (y::r)).cps.toList:=by
 show(x++⟨#[c]⟩++Str.join ⟨#[c]⟩ (y::r)).cps.toList=_
 rw[Str.cps_append,Str.cps_append]
 simp
theorem dJ {c:Nat}{x:Str}{z y:Str}{r:List Str}(hx:wK c x):x≠Str.join ⟨#[c]⟩ (z::y::r):=fun e=>by
 have:=Ea (fun q:Str=>q.cps.toList) e
 rw[qP] at this
 exact hx (by rw[this];simp)
theorem zTP {c:Nat}:∀ {xs ys:List Str},(∀x∈xs,wK c x)->(∀y∈ys,wK c y)->xs≠[]->ys≠[]->Str.join ⟨#[c]⟩ xs=Str.join ⟨#[c]⟩ ys->xs=ys
 | [],_,_,_,h,_,_=>absurd rfl h
 | _,[],_,_,_,h,_=>absurd rfl h
 | [x],[y],_,_,_,_,h=>by rw[show x=y from h]
 | [x],y::z::r,hx,_,_,_,h=>absurd h (dJ (hx x Qh))
 | x::z::r,[y],_,hy,_,_,h=>absurd h.symm (dJ (hy y Qh))
 | x::z::r,y::w::q,hx,hy,_,_,h=>by
   have e:=Ea (fun q:Str=>q.cps.toList) h
   rw[qP,qP] at e
   obtain⟨e1,e2⟩:=zWu (hx x Qh) (hy y Qh) e
   have e3:x=y:=by cases x;cases y;simp at e1;rw[e1]
   have e4:Str.join ⟨#[c]⟩ (z::r)=Str.join ⟨#[c]⟩ (w::q):=by
     generalize Str.join ⟨#[c]⟩ (z::r)=u at e2
     generalize Str.join ⟨#[c]⟩ (w::q)=v at e2
     cases u;cases v;simp at e2;rw[e2]
   rw[e3,zTP (fun x h=>hx x (Qd _ h)) (fun x h=>hy x (Qd _ h)) (Tq _ _) (Tq _ _) e4]
theorem qA (c:Nat)(ys:List Str)(hy:∀y∈ys,wK c y)(hn:ys≠[]):Txt.split (Str.join ⟨#[c]⟩ ys) ⟨#[c]⟩=ys:=by
 refine zTP (fun x hx=>StrLaws.split_free _ c x hx) hy (fun z=>?_) hn (StrLaws.join_split _ _)
 have:=split_pos (Str.join ⟨#[c]⟩ ys) ⟨#[c]⟩
 rw[z] at this
 simp at this
end L2
namespace L2
open PySem PySem.Spec PyProof.Rows
open PySem.Builtin PySem.Builtin.Str
end L2
namespace L2
open PySem PySem.Spec PyProof.Rows
def nM:Value->Option D
 | .none=>some .non
 | .bool b=>some (.bl b)
 | .int i _=>some (.int i)
 | .str x _=>some (.str x)
 | _=>none
theorem zUw {u:Value}{d:D}(h:nM u=some d):∃v,RelV v u/\∀K G,Rep K G d v:=by
 cases u<;>first | cases h | skip
 · exact⟨.non,rfl,fun _ _=>uO.mpr rfl⟩
 · exact⟨.bl _,rfl,fun _ _=>w6.mpr rfl⟩
 · exact⟨.int _,⟨_,rfl⟩,fun _ _=>zG.mpr rfl⟩
 · exact⟨.str _,⟨_,rfl⟩,fun _ _=>yM.mpr rfl⟩
def zZ5 (P:Params)(l:List (Str×Tok×Value)):List DictEntry:=l.map fun p=>⟨PyData.keyHash P p.1,.str p.1 p.2.1,p.2.2⟩
def kvC (l:List (Str×Tok×Value)):List (Str×D):=l.map fun p=>(p.1,(nM p.2.2).getD .non)
structure DictC (w:World)(K:PySem.W.Frag)(a:Addr)(kvs:List (Str×D)):Prop where
 sys:(a==sysModules)=false
 at':∃(l:List (Str×Tok×Value)) (n:Nat),K.lookup a=some ⟨.type "dict",none,.dict (zZ5 w.params l).toArray n,#[]⟩/\kvs=kvC l/\(l.all fun p=>(nM p.2.2).isSome)=true
theorem zVg {P:Params}:∀l:List (Str×Tok×Value),PySem.W.KeysLit P (zZ5 P l)
 | []=>trivial
 | (x,t,v)::r=>⟨⟨x,t,rfl,rfl⟩,zVg r⟩
theorem zM8 {P:Params}(x:Str):∀l:List (Str×Tok×Value),(l.all fun p=>(nM p.2.2).isSome)=true ->
   match (kvC l).lookup x with
   | some d=>∃u,findBy Value.isStrOf (zZ5 P l).toArray x=some u/\nM u=some d
   | none=>findBy Value.isStrOf (zZ5 P l).toArray x=none
 | [],_=>rfl
 | (y,t,v)::r,h=>by
   have h':=Wt.mp (by simpa using h:((nM v).isSome&&(r.all fun p=>(nM p.2.2).isSome))=true)
   have ih:=zM8 (P:=P) x r h'.2
   show match ((y,(nM v).getD .non)::kvC r).lookup x with | some d=>_ | none=>_
   unfold findBy at ih ⊢
   rw[Ia] at ih ⊢
   show match ((y,(nM v).getD .non)::kvC r).lookup x with
     | some d=>∃u,(((⟨PyData.keyHash P y,.str y t,v⟩:DictEntry)::zZ5 P r).find? fun e=>Value.isStrOf x e.key).map (·.val)=some u/\nM u=some d
     | none=>(((⟨PyData.keyHash P y,.str y t,v⟩:DictEntry)::zZ5 P r).find? fun e=>Value.isStrOf x e.key).map (·.val)=none
   by_cases e:y=x
   · subst e
     have q:Value.isStrOf y (.str y t)=true:=Rh y
     rw[Eo,Rh,Tx]
     rw[show(Value.isStrOf y (⟨PyData.keyHash P y,.str y t,v⟩:DictEntry).key)=true from q]
     obtain⟨d,hd⟩:=Ec.mp h'.1
     exact⟨v,rfl,by rw[hd];rfl⟩
   · have q:Value.isStrOf x (.str y t)=false:=Es.mpr e
     have q2:(x==y)=false:=Es.mpr (Ne.symm e)
     rw[Eo,q2,Tx,show(Value.isStrOf x (⟨PyData.keyHash P y,.str y t,v⟩:DictEntry).key)=false from q]
     exact ih
section
variable {X:Cx} {a b:Expr} {fa fb:Ef} {pos p:Pos} {x:Str} {da:Addr} {kvs:List (Str×D)}
variable {pins:List (Addr×Obj)} {σ:St} {H:Hp} {s:Shared}
theorem DictC.map (h:DictC X.w X.K da kvs)(I:Inv X pins σ H s):∃f:Str->Option Value,s.heap.MapOf (strKind X.prog X.w) da f/\∀y,match kvs.lookup y with | some d=>∃u,f y=some u/\nM u=some d | none=>f y=none:=by
 obtain⟨l,n,h1,h2,h3⟩:=h.at'
 subst h2
 exact⟨_,PySem.W.mapOf_K I.kIn h1 (by simpa using zVg l),fun y=>zM8 y l h3⟩
def zKr (X:Cx)(kvs:List (Str×D))(da:Addr)(c:Bool):R2:=fun v y H Q=>∃z,v = .str z/\y = .ref da/\Q (.bl (c==(kvs.lookup z).isSome)) H
theorem zPP (h:DictC X.w X.K da kvs):OpR X (compareOp .NotIn) (zKr X kvs da false):=by
 intro pins s σ H x y v u Q I rx ry ⟨z,e1,e2,q⟩
 subst e1 e2
 obtain⟨t,rfl⟩:=rx
 cases ry
 obtain⟨f,hm,hf⟩:=h.map I
 refine wpAny_notIn_of (strKind_is X.prog X.w z t) h.sys hm ?_
 have e:(!(f z).isSome)=(false==(kvs.lookup z).isSome):=by
   have:=hf z
   cases hk:kvs.lookup z with
   | none=>rw[hk] at this;rw[this];rfl
   | some d=>rw[hk] at this;obtain⟨u,hu,_⟩:=this;rw[hu];rfl
 rw[e]
 exact⟨.bl _,H,I.tok _,rfl,q⟩
def zVR (c:Bool)(kvs:List (Str×D))(fa:Ef):Tf:=fun ρ=>(fa ρ).bind fun d=>match d with | .str z=>some (c==(kvs.lookup z).isSome) | _=>none
theorem zOf {c:Bool}{σ:St}{H:Hp}{Q:Bool->Hp->Prop}(q:tFT X.K (zVR c kvs fa) σ H Q):zK4 (tOp (zKr X kvs da c) (tF X.K fa) (tC (.ref da))) σ H Q:=by
 obtain⟨G0,H0,G,ρ,c',good,hf,kk⟩:=q
 unfold zVR at hf
 obtain⟨d,h1,hf⟩:=Qq.mp hf
 split at hf
 · rename_i z
   cases hf
   refine⟨G0,H0,G,ρ,_,good,h1,fun u H1 G1 s1 r1=>?_⟩
   exact⟨z,yM.mp r1,rfl,_,rfl,kk _ G1 s1⟩
 · cases hf
theorem zWa (h:DictC X.w X.K da kvs)(hg:Gl X x)(hx:X.mg x=some (.ref da))(ha:PF X a fa)(hd:(x==("__debug__":Str))=false:=by decide)
   (hm:behindInMarks .NotIn (.Name x p)=false:=by first | exact zZ3 _ | (with_unfolding_all rfl)):PFT X (.Compare a [.NotIn] [.Name x p] pos) (zVR false kvs fa) :=
 PT.to (bA (zPP h) ha (kF (v:=.ref da) hg hx rfl hd) hm) fun _ _ _=>zOf
def zIp (X:Cx)(kvs:List (Str×D))(da:Addr):R2:=fun v y H Q=>∃z d,v = .ref da/\y = .str z/\kvs.lookup z=some d/\∀o,(∀G,Rep X.K G d o)->Q o H
theorem zGW (h:DictC X.w X.K da kvs):IxR X (zIp X kvs da):=by
 intro value slice pins s σ H x y v u Q I rx ry ⟨z,d,e1,e2,e3,q⟩ hs
 subst e1 e2
 cases rx
 obtain⟨t,rfl⟩:=ry
 obtain⟨f,hm,hf⟩:=h.map I
 have:=hf z
 rw[e3] at this
 obtain⟨u,hu,hd⟩:=this
 obtain⟨o,ro,rep⟩:=zUw hd
 exact Oi hm.typeIs slot_dict_getitem.lookup (Ot (strKind_is X.prog X.w z t) hm hu ⟨o,H,I.tok _,ro,q o fun G=>rep _ G⟩) hs
def cM (kvs:List (Str×D))(fb:Ef):Ef:=fun ρ=>(fb ρ).bind fun d=>match d with | .str z=>kvs.lookup z | _=>none
theorem zNL (h:DictC X.w X.K da kvs)(hg:Gl X x)(hx:X.mg x=some (.ref da))(hb:PF X b fb)(hd:(x==("__debug__":Str))=false:=by decide)(hs:dZ b:=by exact fun _ _=>rfl):PF X (.Subscript (.Name x p) b pos) (cM kvs fb):=by
 refine PE.to (zUl (zGW h) (kF (v:=.ref da) hg hx rfl hd) hb hs) ?_
 rintro σ H Q ⟨G0,H0,G,ρ,d,good,hf,k⟩
 unfold cM at hf
 obtain⟨y,h1,hf⟩:=Qq.mp hf
 split at hf
 · rename_i z
   refine⟨G0,H0,G,ρ,_,good,h1,fun u H1 G1 s1 r1=>⟨z,d,rfl,yM.mp r1,hf,fun o ho=>k _ _ G1 s1 (ho _)⟩⟩
 · cases hf
theorem zSR {w:World}{K:PySem.W.Frag}{n:Nat}(l:List (Str×Tok×Value))(h:K.lookup da=some ⟨.type "dict",none,.dict (zZ5 w.params l).toArray n,#[]⟩)(hs:(da==sysModules)=false)(hl:(l.all fun p=>(nM p.2.2).isSome)=true:=by rfl):DictC w K da (kvC l) :=
 ⟨hs,l,n,h,rfl,hl⟩
end
def zUU (l:List (Int×Tok×Value)):List DictEntry:=l.map fun p=>⟨hashInt p.1,.int p.1 p.2.1,p.2.2⟩
def kvN (l:List (Int×Tok×Value)):List (Int×D):=l.map fun p=>(p.1,(nM p.2.2).getD .non)
structure DictN (K:PySem.W.Frag)(a:Addr)(kvs:List (Int×D)):Prop where
 at':∃(l:List (Int×Tok×Value)) (n:Nat),K.lookup a=some ⟨.type "dict",none,.dict (zUU l).toArray n,#[]⟩/\kvs=kvN l/\(l.all fun p=>(nM p.2.2).isSome)=true
theorem zNz (x:Int):∀l:List (Int×Tok×Value),(l.all fun p=>(nM p.2.2).isSome)=true ->
   match (kvN l).lookup x with
   | some d=>∃u,findBy Value.isInt (zUU l).toArray x=some u/\nM u=some d
   | none=>findBy Value.isInt (zUU l).toArray x=none
 | [],_=>rfl
 | (y,t,v)::r,h=>by
   have h':=Wt.mp (by simpa using h:((nM v).isSome&&(r.all fun p=>(nM p.2.2).isSome))=true)
   have ih:=zNz x r h'.2
   show match ((y,(nM v).getD .non)::kvN r).lookup x with | some d=>_ | none=>_
   unfold findBy at ih ⊢
   rw[Ia] at ih ⊢
   show match ((y,(nM v).getD .non)::kvN r).lookup x with
     | some d=>∃u,(((⟨hashInt y,.int y t,v⟩:DictEntry)::zUU r).find? fun e=>Value.isInt x e.key).map (·.val)=some u/\nM u=some d
     | none=>(((⟨hashInt y,.int y t,v⟩:DictEntry)::zUU r).find? fun e=>Value.isInt x e.key).map (·.val)=none
   by_cases e:y=x
   · subst e
     have q:Value.isInt y (.int y t)=true:=by simp[Value.isInt]
     rw[Eo,Rh,Tx]
     rw[show(Value.isInt y (⟨hashInt y,.int y t,v⟩:DictEntry).key)=true from q]
     obtain⟨d,hd⟩:=Ec.mp h'.1
     exact⟨v,rfl,by rw[hd];rfl⟩
   · have q:Value.isInt x (.int y t)=false:=by simp[Value.isInt];omega
     have q2:(x==y)=false:=Es.mpr (Ne.symm e)
     rw[Eo,q2,Tx,show(Value.isInt x (⟨hashInt y,.int y t,v⟩:DictEntry).key)=false from q]
     exact ih
section
variable {X:Cx} {b:Expr} {fb:Ef} {pos p:Pos} {x:Str} {da:Addr} {kvs:List (Int×D)}
variable {pins:List (Addr×Obj)} {σ:St} {H:Hp} {s:Shared}
theorem DictN.map (h:DictN X.K da kvs)(I:Inv X pins σ H s):∃f:Int->Option Value,s.heap.MapOf (intKind X.prog X.w) da f/\∀y,match kvs.lookup y with | some d=>∃u,f y=some u/\nM u=some d | none=>f y=none:=by
 obtain⟨l,n,h1,h2,h3⟩:=h.at'
 subst h2
 refine⟨fun k=>findBy Value.isInt (zUU l).toArray k,⟨_,(zUU l).toArray,n,I.kIn _ _ h1,⟨rfl,rfl,rfl⟩,rfl,fun e he=>?_,fun _=>rfl⟩,fun y=>zNz y l h3⟩
 have he':e∈zUU l:=by simpa using he
 obtain⟨q,_,rfl⟩:=Wa.mp he'
 exact⟨q.1,intKind_is X.prog X.w q.1 q.2.1,rfl⟩
def zHm (X:Cx)(kvs:List (Int×D))(da:Addr):R2:=fun v y H Q=>∃z d,v = .ref da/\y = .int z/\kvs.lookup z=some d/\∀o,(∀G,Rep X.K G d o)->Q o H
theorem zH1 (h:DictN X.K da kvs):IxR X (zHm X kvs da):=by
 intro value slice pins s σ H x y v u Q I rx ry ⟨z,d,e1,e2,e3,q⟩ hs
 subst e1 e2
 cases rx
 obtain⟨t,rfl⟩:=ry
 obtain⟨f,hm,hf⟩:=h.map I
 have:=hf z
 rw[e3] at this
 obtain⟨u,hu,hd⟩:=this
 obtain⟨o,ro,rep⟩:=zUw hd
 exact Oi hm.typeIs slot_dict_getitem.lookup (Ot (intKind_is X.prog X.w z t) hm hu ⟨o,H,I.tok _,ro,q o fun G=>rep _ G⟩) hs
def zJH (kvs:List (Int×D))(fb:Ef):Ef:=fun ρ=>(fb ρ).bind fun d=>match d with | .int z=>kvs.lookup z | _=>none
theorem zJn (h:DictN X.K da kvs)(hg:Gl X x)(hx:X.mg x=some (.ref da))(hb:PF X b fb)(hd:(x==("__debug__":Str))=false:=by decide)(hs:dZ b:=by exact fun _ _=>rfl):PF X (.Subscript (.Name x p) b pos) (zJH kvs fb):=by
 refine PE.to (zUl (zH1 h) (kF (v:=.ref da) hg hx rfl hd) hb hs) ?_
 rintro σ H Q ⟨G0,H0,G,ρ,d,good,hf,k⟩
 unfold zJH at hf
 obtain⟨y,h1,hf⟩:=Qq.mp hf
 split at hf
 · rename_i z
   refine⟨G0,H0,G,ρ,_,good,h1,fun u H1 G1 s1 r1=>⟨z,d,rfl,zG.mp r1,hf,fun o ho=>k _ _ G1 s1 (ho _)⟩⟩
 · cases hf
theorem zMK {K:PySem.W.Frag}{n:Nat}(l:List (Int×Tok×Value))(h:K.lookup da=some ⟨.type "dict",none,.dict (zUU l).toArray n,#[]⟩)(hl:(l.all fun p=>(nM p.2.2).isSome)=true:=by rfl):DictN K da (kvN l) :=
 ⟨l,n,h,rfl,hl⟩
end
def zRL (K:PySem.W.Frag)(u:Value)(d:D):Prop:=∃v,RelV v u/\∀G,Rep K G d v
theorem zVW:∀l:List (Str×Tok),Vals (l.map fun p=>V.str p.1) (l.map fun p=>Value.str p.1 p.2)
 | []=>.nil
 | (x,t)::r=>.cons ⟨t,rfl⟩ (zVW r)
theorem zWG {K:PySem.W.Frag}{G:Hp}:∀l:List (Str×Tok),Reps K G (l.map fun p=>D.str p.1) (l.map fun p=>V.str p.1)
 | []=>yV.mpr rfl
 | (x,t)::r=>zE.mpr ⟨_,_,rfl,yM.mpr rfl,zWG r⟩
theorem uY {K:PySem.W.Frag}{a:Addr}{n:Nat}(l:List (Str×Tok))(h:K.lookup a=some ⟨.type "tuple",none,.seq (l.map fun p=>Value.str p.1 p.2).toArray n,#[]⟩)(hl:l.length<=1000:=by exact Nat.le_of_ble_eq_true rfl):zRL K (.ref a) (.tup (l.map fun p=>.str p.1)):=by
 refine⟨.ref a,rfl,fun G=>yF.mpr ⟨a,_,rfl,.inr ⟨_,_,n,h,rfl,rfl,?_,?_⟩,zWG l⟩⟩
 · rw[Qg,Qy,Yv];omega
 · exact zVW l
structure DictX (w:World)(K:PySem.W.Frag)(a:Addr)(kvs:List (Str×D)):Prop where
 sys:(a==sysModules)=false
 at':∃(l:List (Str×Tok×Value)) (n:Nat),K.lookup a=some ⟨.type "dict",none,.dict (zZ5 w.params l).toArray n,#[]⟩/\Paired (fun(p:Str×Tok×Value) (q:Str×D)=>p.1=q.1/\zRL K p.2.2 q.2) l kvs
theorem zJm {P:Params}{K:PySem.W.Frag}(x:Str){l:List (Str×Tok×Value)}{kvs:List (Str×D)}(h:Paired (fun(p:Str×Tok×Value) (q:Str×D)=>p.1=q.1/\zRL K p.2.2 q.2) l kvs) :
   match kvs.lookup x with
   | some d=>∃u,findBy Value.isStrOf (zZ5 P l).toArray x=some u/\zRL K u d
   | none=>findBy Value.isStrOf (zZ5 P l).toArray x=none:=by
 induction h with
 | nil=>rfl
 | @cons p q r kvs hpq h ih =>
   obtain⟨y,t,v⟩:=p
   obtain⟨y',d⟩:=q
   obtain⟨e0,hv⟩:=hpq
   have e0:y=y':=e0
   subst e0
   unfold findBy at ih ⊢
   rw[Ia] at ih ⊢
   show match ((y,d)::kvs).lookup x with
     | some d=>∃u,(((⟨PyData.keyHash P y,.str y t,v⟩:DictEntry)::zZ5 P r).find? fun e=>Value.isStrOf x e.key).map (·.val)=some u/\zRL K u d
     | none=>(((⟨PyData.keyHash P y,.str y t,v⟩:DictEntry)::zZ5 P r).find? fun e=>Value.isStrOf x e.key).map (·.val)=none
   by_cases e:y=x
   · subst e
     rw[Eo,Rh,Tx,show(Value.isStrOf y (⟨PyData.keyHash P y,.str y t,v⟩:DictEntry).key)=true from Rh y]
     exact⟨v,rfl,hv⟩
   · have q2:(x==y)=false:=Es.mpr (Ne.symm e)
     rw[Eo,q2,Tx,show(Value.isStrOf x (⟨PyData.keyHash P y,.str y t,v⟩:DictEntry).key)=false from Es.mpr e]
     exact ih
section
variable {X:Cx} {a b:Expr} {fa fb:Ef} {pos p:Pos} {x:Str} {da:Addr} {kvs:List (Str×D)}
variable {pins:List (Addr×Obj)} {σ:St} {H:Hp} {s:Shared}
theorem DictX.map (h:DictX X.w X.K da kvs)(I:Inv X pins σ H s):∃f:Str->Option Value,s.heap.MapOf (strKind X.prog X.w) da f/\∀y,match kvs.lookup y with | some d=>∃u,f y=some u/\zRL X.K u d | none=>f y=none:=by
 obtain⟨l,n,h1,h2⟩:=h.at'
 exact⟨_,PySem.W.mapOf_K I.kIn h1 (by simpa using zVg l),fun y=>zJm y h2⟩
theorem zPA (h:DictX X.w X.K da kvs):OpR X (compareOp .NotIn) (zKr X kvs da false):=by
 intro pins s σ H x y v u Q I rx ry ⟨z,e1,e2,q⟩
 subst e1 e2
 obtain⟨t,rfl⟩:=rx
 cases ry
 obtain⟨f,hm,hf⟩:=h.map I
 refine wpAny_notIn_of (strKind_is X.prog X.w z t) h.sys hm ?_
 have e:(!(f z).isSome)=(false==(kvs.lookup z).isSome):=by
   have:=hf z
   cases hk:kvs.lookup z with
   | none=>rw[hk] at this;rw[this];rfl
   | some d=>rw[hk] at this;obtain⟨u,hu,_⟩:=this;rw[hu];rfl
 rw[e]
 exact⟨.bl _,H,I.tok _,rfl,q⟩
theorem zPd (h:DictX X.w X.K da kvs)(hg:Gl X x)(hx:X.mg x=some (.ref da))(ha:PF X a fa)(hd:(x==("__debug__":Str))=false:=by decide)
   (hm:behindInMarks .NotIn (.Name x p)=false:=by first | exact zZ3 _ | (with_unfolding_all rfl)):PFT X (.Compare a [.NotIn] [.Name x p] pos) (zVR false kvs fa) :=
 PT.to (bA (zPA h) ha (kF (v:=.ref da) hg hx rfl hd) hm) fun _ _ _=>zOf
theorem zH0 (h:DictX X.w X.K da kvs):IxR X (zIp X kvs da):=by
 intro value slice pins s σ H x y v u Q I rx ry ⟨z,d,e1,e2,e3,q⟩ hs
 subst e1 e2
 cases rx
 obtain⟨t,rfl⟩:=ry
 obtain⟨f,hm,hf⟩:=h.map I
 have:=hf z
 rw[e3] at this
 obtain⟨u,hu,o,ro,rep⟩:=this
 exact Oi hm.typeIs slot_dict_getitem.lookup (Ot (strKind_is X.prog X.w z t) hm hu ⟨o,H,I.tok _,ro,q o rep⟩) hs
theorem zOl (h:DictX X.w X.K da kvs)(hg:Gl X x)(hx:X.mg x=some (.ref da))(hb:PF X b fb)(hd:(x==("__debug__":Str))=false:=by decide)(hs:dZ b:=by exact fun _ _=>rfl):PF X (.Subscript (.Name x p) b pos) (cM kvs fb):=by
 refine PE.to (zUl (zH0 h) (kF (v:=.ref da) hg hx rfl hd) hb hs) ?_
 rintro σ H Q ⟨G0,H0,G,ρ,d,good,hf,k⟩
 unfold cM at hf
 obtain⟨y,h1,hf⟩:=Qq.mp hf
 split at hf
 · rename_i z
   refine⟨G0,H0,G,ρ,_,good,h1,fun u H1 G1 s1 r1=>⟨z,d,rfl,yM.mp r1,hf,fun o ho=>k _ _ G1 s1 (ho _)⟩⟩
 · cases hf
end
theorem zNt {w:World}{K:PySem.W.Frag}{da:Addr}{n:Nat}{kvs:List (Str×D)}(l:List (Str×Tok×Value))(h:K.lookup da=some ⟨.type "dict",none,.dict (zZ5 w.params l).toArray n,#[]⟩)(hs:(da==sysModules)=false)(hp:Paired (fun(p:Str×Tok×Value) (q:Str×D)=>p.1=q.1/\zRL K p.2.2 q.2) l kvs):DictX w K da kvs:=⟨hs,l,n,h,hp⟩
def IsSq (t:Bool)(h:Heap)(l:Addr)(xs:Array Value):Prop:=∃o,h.get? l=some o/\o.cls = .type (cond t "tuple" "list")/\∃n,o.data = .seq xs n
def IsIr (t:Bool)(h:Heap)(i l:Addr)(k:Nat):Prop:=∃o,h.get? i=some o/\o.cls = .type (cond t "tuple_iterator" "list_iterator")/\o.data = .fields #[.ref l,.int k 0]
theorem IsSq.extBut {t:Bool}{h h':Heap}{a b:Addr}{xs:Array Value}(x:IsSq t h a xs)(e:Heap.ExtBut b h h')(n:a≠b):IsSq t h' a xs:=let ⟨o,q,r⟩:=x;⟨o,e a o n q,r⟩
theorem IsIr.extBut {t:Bool}{h h':Heap}{a b l:Addr}{k:Nat}(x:IsIr t h a l k)(e:Heap.ExtBut b h h')(n:a≠b):IsIr t h' a l k:=let ⟨o,q,r⟩:=x;⟨o,e a o n q,r⟩
def SqB (t:Bool)(K:PySem.W.Frag)(H:Hp)(b:Addr)(ys:List V):Prop:=match t with | true=>SqT K H b ys | false=>SqL K H b ys
theorem zQ9 {t:Bool}{K:PySem.W.Frag}{H H':Hp}{b:Addr}{ys:List V}(e:Same H H')(h:SqB t K H b ys):SqB t K H' b ys:=by
 cases t
 · exact e.seq h
 · exact e.tup h
section
variable {X:Cx} {pins:List (Addr×Obj)} {σ:St} {H:Hp} {s:Shared} {t:Bool} {b:Addr} {ys zs:List V}
theorem zSu (I:Inv X pins σ H s)(h:SqB t X.K H b ys):∃its:List Value,Vals ys its/\IsSq t s.heap b its.toArray:=by
 cases t
 · obtain⟨its,v,p,_⟩:=I.list h
   exact⟨its,v,p.isList⟩
 · obtain⟨its,v,p,_⟩:=I.tuple h
   exact⟨its,v,p⟩
theorem zKf (I:Inv X pins σ H s)(h:SqB t X.K H b ys)(h':SqB t X.K H b zs):ys=zs:=by
 cases t
 · exact I.list_inj h h'
 · exact I.tuple_inj h h'
theorem zNC {c:Addr}(I:Inv X pins σ H s)(hf:mX X pins H c)(hd:SqB t X.K H b ys):b≠c:=fun z=>by
 have e:=hf.1
 cases t<;>(
   rcases hd with(hd | ⟨ob,hd⟩) | hd
   · rw[z,e] at hd;cases hd
   · rw[z,e] at hd;cases hd
   · obtain⟨ob,_,_,hk,_⟩:=hd
     have e3:=I.ok.mod.kin b ob hk
     obtain⟨_,q1,_,q3,_⟩:=hf
     rcases q3 with q3 | q3
     · exact I.ok.noex b ob e3 (z ▸ q3)
     · exact absurd (We (Qs (I.ok.bs b ob e3).1) (z ▸ q3)) (Wr _))
variable {prog:Program} {w:World} {A:Around} {E:Value->Shared->Prop}
theorem zS6 {it l:Addr}{i:Nat}{items:Array Value}{x:Value}{Q:Value->Shared->Prop}(hit:IsIr t s.heap it l i)(hl:IsSq t s.heap l items)(hx:items[i]?=some x)
   (hQ:∀h',IsIr t h' it l (i+1)->Heap.SameBut it s.heap h'->Q x { s with heap:=h' }):wpAny (model prog w) A (Builtin.SmallTypes.nextOf (.ref it)) Q E s:=by
 cases t
 · exact Tv hit hl hx hQ
 · exact jW hit hl hx hQ
theorem zPE {it l:Addr}{i:Nat}{items:Array Value}{Q:Value->Shared->Prop}(hh:A.handled=none)(hit:IsIr t s.heap it l i)(hl:IsSq t s.heap l items)(hx:items[i]?=none)
   (hE:∀h' e,Heap.ExtBut it s.heap h'->(∃o,h'.get? e=some o/\o.cls = .type "StopIteration")->E (.ref e) { s with heap:=h' }):wpAny (model prog w) A (Builtin.SmallTypes.nextOf (.ref it)) Q E s:=by
 cases t
 · exact Us hh hit hl hx hE
 · exact zZE hh hit hl hx hE
theorem zP1 {t:Bool}{z TI TO i1 i2 l1 l2:Addr}{k:Nat}{xs ys:Array Value}{x y a b:Value}{Q:Value->Shared->Prop}(D:ZApart z TI TO i1 i2 l1 l2)(hz:IsZip s.heap z TI TO .none)(hTI:IsPair s.heap TI (.ref i1) (.ref i2))(hTO:IsPair s.heap TO a b)
   (h1:s.heap.IsTupleIter i1 l1 k) (h2:IsIr t s.heap i2 l2 k) (hl1:s.heap.IsTuple l1 xs) (hl2:IsSq t s.heap l2 ys) (hx:xs[k]?=some x) (hy:ys[k]?=some y)
   (hQ:∀h',IsZip h' z TI TO (rawInt s.heap.objs.size)->IsPair h' TO x y->h'.IsTupleIter i1 l1 (k+1)->IsIr t h' i2 l2 (k+1)->IsPair h' s.heap.objs.size x y ->
     (∀c o,c≠z->c≠TO->c≠i1->c≠i2->s.heap.get? c=some o->h'.get? c=some o)->Q (.ref s.heap.objs.size) { s with heap:=h' }) :
   wpAny (model prog w) A (Builtin.«zip.__next__» ⟨[.ref z],[]⟩) (fun fin s'=>∃v,fin = .done (.ret v)/\Q v s') E s:=by
 change wpAny _ _ (field (.ref z) 2 >>= _) _ _ _
 refine Qe (Ed hz rfl (x:=.bool false) rfl ?_)
 change wpAny _ _ (field (.ref z) 3 >>= _) _ _ _
 refine Qe (Ed hz rfl (x:=.ref TI) rfl (Qe (Ez hTI rfl ?_)))
 change wpAny _ _ (Builtin.SmallTypes.ownedTupleIsFree (.ref z) >>= _) _ _ _
 refine Qe ?_
 unfold Builtin.SmallTypes.ownedTupleIsFree
 refine Qe (Ed hz rfl (x:=.none) rfl (Qf ?_))
 simp only[Rq]
 refine Qe (Ux (Qe (Ed hz rfl (x:=.ref TO) rfl (Qe (Rk hz (by simp) fun g1 z1 t1=>?_)))))
 have z1:IsZip g1 z TI TO .ellipsis:=z1
 refine Qe ?_
 simp only[Ue,List.zipIdx_nil,Ys,Iq]
 refine Qe (Qe (Ig ?_))
 change wpAny _ _ (Builtin.SmallTypes.nextOf (.ref i1) >>= _) _ _ _
 refine Qe (jW (h1.extBut t1.extBut D.a3) (hl1.extBut t1.extBut D.b2) hx fun g2 u1 t2=>Qf ?_)
 have o2:IsPair g2 TO a b:=t2.extBut _ _ D.a8 (t1.extBut _ _ D.a2 hTO)
 refine Qe (Ez o2 rfl (Qe (Ub o2 fun g3 o3 t3=>?_)))
 have o3:IsPair g3 TO x b:=o3
 refine Qe (Oa (Qf (Qe (Qe (Ig ?_)))))
 change wpAny _ _ (Builtin.SmallTypes.nextOf (.ref i2) >>= _) _ _ _
 refine Qe (zS6 (((h2.extBut t1.extBut D.a4).extBut t2.extBut D.b1.symm).extBut t3.extBut D.a9.symm) (((hl2.extBut t1.extBut D.b6).extBut t2.extBut D.b8).extBut t3.extBut D.b7) hy fun g4 u2 t4=>Qf ?_)
 have o4:IsPair g4 TO x b:=t4.extBut _ _ D.a9 o3
 refine Qe (Ez o4 rfl (Qe (Ub o4 fun g5 o5 t5=>?_)))
 have o5:IsPair g5 TO x y:=o5
 refine Qe (Oa (Qf (Qf (Qe (Ez o5 rfl (Qe (wpAny_newTuple ?_)))))))
 have esz:g5.objs.size=s.heap.objs.size:=by rw[t5.1,t4.1,t3.1,t2.1,t1.1]
 have z5:IsZip g5 z TI TO .ellipsis:=t5.extBut _ _ D.a2.symm (t4.extBut _ _ D.a4.symm (t3.extBut _ _ D.a2.symm (t2.extBut _ _ D.a3.symm z1)))
 have k5:∀c o,c≠z->c≠TO->c≠i1->c≠i2->s.heap.get? c=some o->g5.get? c=some o:=fun c o c1 c2 c3 c4 e=>t5.extBut _ _ c2 (t4.extBut _ _ c4 (t3.extBut _ _ c2 (t2.extBut _ _ c3 (t1.extBut _ _ c1 e))))
 have p1:g5.IsTupleIter i1 l1 (k+1):=((u1.extBut t3.extBut D.a8.symm).extBut t4.extBut D.b1).extBut t5.extBut D.a8.symm
 have p2:IsIr t g5 i2 l2 (k+1):=u2.extBut t5.extBut D.a9.symm
 have lz:z < g5.objs.size:=Qs z5
 change wpAny _ _ (Builtin.SmallTypes.ownedTupleHandOut (.ref z) (.ref g5.objs.size) >>= _) _ _ _
 refine Qe ?_
 unfold Builtin.SmallTypes.ownedTupleHandOut
 have z6:IsZip (g5.push { cls:=.type "tuple",data:=.seq #[x,y] }) z TI TO .ellipsis:=Qr _ z5
 refine Qe (Rk z6 (by simp) fun g7 z7 t7=>?_)
 have z7:IsZip g7 z TI TO (rawInt g5.objs.size):=z7
 refine Rk z7 (by simp) fun g8 z8 t8=>?_
 have z8:IsZip g8 z TI TO (rawInt g5.objs.size):=z8
 have up:∀c o,c≠z->g5.get? c=some o->g8.get? c=some o:=fun c o c1 e=>t8.extBut _ _ c1 (t7.extBut _ _ c1 (Qr _ e))
 have n8:IsPair g8 g5.objs.size x y:=t8.extBut _ _ (Nat.ne_of_gt lz) (t7.extBut _ _ (Nat.ne_of_gt lz) (Qk _ rfl))
 rw[esz] at z8 n8
 refine Qf ⟨_,rfl,?_⟩
 change Q (.ref g5.objs.size) _
 rw[esz]
 obtain⟨q1,r1,w1⟩:=p1
 obtain⟨q2,r2,w2⟩:=p2
 exact hQ g8 z8 (up _ _ D.a2 o5) ⟨q1,up _ _ D.a3 r1,w1⟩ ⟨q2,up _ _ D.a4 r2,w2⟩ n8 fun c o c1 c2 c3 c4 e=>up c o c1 (k5 c o c1 c2 c3 c4 e)
theorem zM1 {t:Bool}{z TI TO i1 i2 l1 l2:Addr}{k:Nat}{xs ys:Array Value}{a b:Value}{Q:Fin->Shared->Prop}(hh:A.handled=none)(D:ZApart z TI TO i1 i2 l1 l2)(hz:IsZip s.heap z TI TO .none)(hTI:IsPair s.heap TI (.ref i1) (.ref i2))(hTO:IsPair s.heap TO a b)
   (h1:s.heap.IsTupleIter i1 l1 k) (h2:IsIr t s.heap i2 l2 k) (hl1:s.heap.IsTuple l1 xs) (hl2:IsSq t s.heap l2 ys) (hend:xs[k]?=none∨ys[k]?=none)
   (hE:∀h' e,(∀c o,c≠z->c≠TO->c≠i1->c≠i2->s.heap.get? c=some o->h'.get? c=some o)->(∃o,h'.get? e=some o/\o.cls = .type "StopIteration")->E (.ref e) { s with heap:=h' }) :
   wpAny (model prog w) A (Builtin.«zip.__next__» ⟨[.ref z],[]⟩) Q E s:=by
 change wpAny _ _ (field (.ref z) 2 >>= _) _ _ _
 refine Qe (Ed hz rfl (x:=.bool false) rfl ?_)
 change wpAny _ _ (field (.ref z) 3 >>= _) _ _ _
 refine Qe (Ed hz rfl (x:=.ref TI) rfl (Qe (Ez hTI rfl ?_)))
 change wpAny _ _ (Builtin.SmallTypes.ownedTupleIsFree (.ref z) >>= _) _ _ _
 refine Qe ?_
 unfold Builtin.SmallTypes.ownedTupleIsFree
 refine Qe (Ed hz rfl (x:=.none) rfl (Qf ?_))
 simp only[Rq]
 refine Qe (Ux (Qe (Ed hz rfl (x:=.ref TO) rfl (Qe (Rk hz (by simp) fun g1 z1 t1=>?_)))))
 have z1:IsZip g1 z TI TO .ellipsis:=z1
 refine Qe ?_
 simp only[Ue,List.zipIdx_nil,Ys,Iq]
 refine Qe (Qe (Ig ?_))
 change wpAny _ _ (Builtin.SmallTypes.nextOf (.ref i1) >>= _) _ _ _
 cases hx:xs[k]? with
 | none =>
   refine Qe (zZE hh (h1.extBut t1.extBut D.a3) (hl1.extBut t1.extBut D.b2) hx fun g2 e t2 he=>?_)
   obtain⟨oe,he1,he2⟩:=he
   have z2:IsZip g2 z TI TO .ellipsis:=t2 _ _ D.a3.symm z1
   have ne:e≠z:=fun q=>by subst q;rw[z2] at he1;cases he1;simp at he2
   exact Rk z2 (by simp) fun g3 _ t3=>hE g3 e (fun c o c1 _ c3 _ q=>t3.extBut _ _ c1 (t2 _ _ c3 (t1.extBut _ _ c1 q))) ⟨oe,t3.extBut _ _ ne he1,he2⟩
 | some x =>
   have hy:ys[k]?=none:=by
     rcases hend with q | q
     · rw[hx] at q;cases q
     · exact q
   refine Qe (jW (h1.extBut t1.extBut D.a3) (hl1.extBut t1.extBut D.b2) hx fun g2 u1 t2=>Qf ?_)
   have o2:IsPair g2 TO a b:=t2.extBut _ _ D.a8 (t1.extBut _ _ D.a2 hTO)
   refine Qe (Ez o2 rfl (Qe (Ub o2 fun g3 o3 t3=>?_)))
   refine Qe (Oa (Qf (Qe (Qe (Ig ?_)))))
   change wpAny _ _ (Builtin.SmallTypes.nextOf (.ref i2) >>= _) _ _ _
   refine Qe (zPE hh (((h2.extBut t1.extBut D.a4).extBut t2.extBut D.b1.symm).extBut t3.extBut D.a9.symm) (((hl2.extBut t1.extBut D.b6).extBut t2.extBut D.b8).extBut t3.extBut D.b7) hy fun g4 e t4 he=>?_)
   obtain⟨oe,he1,he2⟩:=he
   have z4:IsZip g4 z TI TO .ellipsis:=t4 _ _ D.a4.symm (t3.extBut _ _ D.a2.symm (t2.extBut _ _ D.a3.symm z1))
   have ne:e≠z:=fun q=>by subst q;rw[z4] at he1;cases he1;simp at he2
   exact Rk z4 (by simp) fun g5 _ t5=>hE g5 e (fun c o c1 c2 c3 c4 q=>t5.extBut _ _ c1 (t4 _ _ c4 (t3.extBut _ _ c2 (t2.extBut _ _ c3 (t1.extBut _ _ c1 q))))) ⟨oe,t5.extBut _ _ ne he1,he2⟩
end
abbrev zM2 (t:Bool)(h:Heap)(l1 l2:Addr):Heap:=(zT1 h l1).push { cls:=.type (cond t "tuple_iterator" "list_iterator"),data:=.fields #[.ref l2,.int 0 0] }
abbrev zM3 (t:Bool)(h:Heap)(l1 l2:Addr):Heap:=(zM2 t h l1 l2).push { cls:=.type "tuple",data:=.seq #[.ref h.objs.size,.ref (zT1 h l1).objs.size] }
abbrev zM4 (t:Bool)(h:Heap)(l1 l2:Addr):Heap:=(zM3 t h l1 l2).push { cls:=.type "tuple",data:=.seq #[.none,.none] }
abbrev zM5 (t:Bool)(h:Heap)(l1 l2:Addr):Heap:=(zM4 t h l1 l2).push { cls:=.type "zip",data:=.fields #[.none,.bool false,.bool false,.ref (zM2 t h l1 l2).objs.size,.ref (zM3 t h l1 l2).objs.size] }
theorem zNs (t:Bool)(l1 l2:Addr)(xs ys:Array Value) :
   Meets (Builtin.«zip.__new__» ⟨[.type "zip",.ref l1,.ref l2],[]⟩) (fun _ R s=>s.heap.IsTuple l1 xs/\IsSq t s.heap l2 ys/\R (.ok (.ret (.ref (zM4 t s.heap l1 l2).objs.size))) { s with heap:=zM5 t s.heap l1 l2 }) :=
 .of_wp fun prog w A R s h=>by
   obtain⟨hp,g,d,tk,os⟩:=s;obtain⟨q1,q2,h⟩:=h
   have hsub:=sub_zip
   have L1:Heap.IsTuple (Shared.heap ⟨hp,g,d,tk,os⟩) l1 xs:=q1
   cases t with
   | true =>
     have L2:Heap.IsTuple (Shared.heap ⟨hp.push { cls:=.type "tuple_iterator",data:=.fields #[.ref l1,.int 0 0] },g,d,tk,os⟩) l2 ys:=Heap.IsTuple.push q2 _
     wp_walk using Tw L1,Tw L2
     exact⟨_,rfl,h⟩
   | false =>
     have L2:Heap.IsList (Shared.heap ⟨hp.push { cls:=.type "tuple_iterator",data:=.fields #[.ref l1,.int 0 0] },g,d,tk,os⟩) l2 ys:=Heap.IsList.push q2 _
     wp_walk using Tw L1,Yk L2
     exact⟨_,rfl,h⟩
section
variable {prog:Program} {w:World} {A:Around} {E:Value->Shared->Prop} {s:Shared}
theorem zQx {t:Bool}{l1 l2:Addr}{xs ys:Array Value}{Q:Value->Shared->Prop}(q1:s.heap.IsTuple l1 xs)(q2:IsSq t s.heap l2 ys)
   (h:∀h',IsZip h' (s.heap.objs.size+4) (s.heap.objs.size+2) (s.heap.objs.size+3) .none->IsPair h' (s.heap.objs.size+2) (.ref s.heap.objs.size) (.ref (s.heap.objs.size+1))->IsPair h' (s.heap.objs.size+3) .none .none ->
     h'.IsTupleIter s.heap.objs.size l1 0->IsIr t h' (s.heap.objs.size+1) l2 0->(∀c o,s.heap.get? c=some o->h'.get? c=some o)->Q (.ref (s.heap.objs.size+4)) { s with heap:=h' }):wpAny (model prog w) A (call (.type "zip") [.ref l1,.ref l2]) Q E s:=by
 refine callType_new F.called_zip (by decide) (F.typeCall_zip_2 _ _) (F.newCall_zip_2 _ _) (fun obj=>F.args_object_init_3 obj _ _) F.entry_zip_new (zNs t l1 l2 xs ys) ⟨q1,q2,?_⟩
 have y1:(zT1 s.heap l1).objs.size=s.heap.objs.size+1:=Rx ..
 have y2:(zM2 t s.heap l1 l2).objs.size=s.heap.objs.size+2:=by rw[Rx,y1]
 have y3:(zM3 t s.heap l1 l2).objs.size=s.heap.objs.size+3:=by rw[Rx,y2]
 have y4:(zM4 t s.heap l1 l2).objs.size=s.heap.objs.size+4:=by rw[Rx,y3]
 have f5:(zM5 t s.heap l1 l2).get? (zM4 t s.heap l1 l2).objs.size=some _:=Qk _ rfl
 have f4:(zM5 t s.heap l1 l2).get? (zM3 t s.heap l1 l2).objs.size=some _:=Qr _ (Qk _ rfl)
 have f3:(zM5 t s.heap l1 l2).get? (zM2 t s.heap l1 l2).objs.size=some _:=Qr _ (Qr _ (Qk _ rfl))
 have f2:(zM5 t s.heap l1 l2).get? (zT1 s.heap l1).objs.size=some _:=Qr _ (Qr _ (Qr _ (Qk _ rfl)))
 have f1:(zM5 t s.heap l1 l2).get? s.heap.objs.size=some _:=Qr _ (Qr _ (Qr _ (Qr _ (Qk _ rfl))))
 change _/\_
 rw[y2,y3,y4] at f5
 rw[y1,y2] at f3
 rw[y3] at f4
 rw[y1] at f2
 rw[y4]
 exact⟨⟨_,f5,rfl⟩,h _ f5 f3 f4 ⟨_,f1,rfl,rfl⟩ ⟨_,f2,rfl,rfl⟩ fun c o x=>Qr _ (Qr _ (Qr _ (Qr _ (Qr _ x))))⟩
end
def zIC (t:Bool)(K:PySem.W.Frag)(a b:Addr):It :=
 ⟨fun i H=>∃xs ys x y,SqT K H a xs/\SqB t K H b ys/\xs[i]?=some x/\ys[i]?=some y,fun i H x H'=>∃p v u,H p=none/\x = .ref p/\H'=upd H p (.tup [v,u])/\(∀xs,SqT K H a xs->xs[i]?=some v)/\∀ys,SqB t K H b ys->ys[i]?=some u,
   fun i H=>∃xs ys,SqT K H a xs/\SqB t K H b ys/\(xs.length<=i∨ys.length<=i)⟩
theorem zXy {t:Bool}{prog:Program}{w:World}{A:Around}{E:Value->Shared->Prop}{s:Shared}{z TI TO i1 i2 l1 l2:Addr}{k:Nat}{xs ys:Array Value}{x y a b:Value}{Q:Option Value->Shared->Prop}(D:ZApart z TI TO i1 i2 l1 l2)(hz:IsZip s.heap z TI TO .none)(hTI:IsPair s.heap TI (.ref i1) (.ref i2))(hTO:IsPair s.heap TO a b)
   (h1:s.heap.IsTupleIter i1 l1 k) (h2:IsIr t s.heap i2 l2 k) (hl1:s.heap.IsTuple l1 xs) (hl2:IsSq t s.heap l2 ys) (hx:xs[k]?=some x) (hy:ys[k]?=some y)
   (hQ:∀h',IsZip h' z TI TO (rawInt s.heap.objs.size)->IsPair h' TO x y->h'.IsTupleIter i1 l1 (k+1)->IsIr t h' i2 l2 (k+1)->IsPair h' s.heap.objs.size x y ->
     (∀c o,c≠z->c≠TO->c≠i1->c≠i2->s.heap.get? c=some o->h'.get? c=some o)->Q (some (.ref s.heap.objs.size)) { s with heap:=h' }):wpAny (model prog w) A (pyNext (.ref z)) Q E s:=by
 have hT:s.TypeIs (.ref z) "zip":=⟨_,hz,rfl⟩
 unfold pyNext
 exact Qe (Ii (El (name:=Str.ofString "__next__") hT F.slot_zip_next (Rg F.slot_zip_next hT F.entry_zip_next (zP1 D hz hTI hTO h1 h2 hl1 hl2 hx hy fun h' a1 a2 a3 a4 a5 a6=>Qf (hQ h' a1 a2 a3 a4 a5 a6)) (F.args_zip_next_1 _))))
theorem zWO {t:Bool}{prog:Program}{w:World}{A:Around}{E:Value->Shared->Prop}{s:Shared}{z TI TO i1 i2 l1 l2:Addr}{k:Nat}{xs ys:Array Value}{a b:Value}{Q:Option Value->Shared->Prop}(hh:A.handled=none)(D:ZApart z TI TO i1 i2 l1 l2)(hz:IsZip s.heap z TI TO .none)(hTI:IsPair s.heap TI (.ref i1) (.ref i2))(hTO:IsPair s.heap TO a b)
   (h1:s.heap.IsTupleIter i1 l1 k) (h2:IsIr t s.heap i2 l2 k) (hl1:s.heap.IsTuple l1 xs) (hl2:IsSq t s.heap l2 ys) (hend:xs[k]?=none∨ys[k]?=none)
   (hQ:∀h',(∀c o,c≠z->c≠TO->c≠i1->c≠i2->s.heap.get? c=some o->h'.get? c=some o)->Q none { s with heap:=h' }):wpAny (model prog w) A (pyNext (.ref z)) Q E s:=by
 have hT:s.TypeIs (.ref z) "zip":=⟨_,hz,rfl⟩
 unfold pyNext
 refine Qe (Ii (El (name:=Str.ofString "__next__") hT F.slot_zip_next (Rg F.slot_zip_next hT F.entry_zip_next (zM1 hh D hz hTI hTO h1 h2 hl1 hl2 hend fun h' e hk he=>?_) (F.args_zip_next_1 _))))
 obtain⟨o,q1,q2⟩:=he
 exact Qe (Uw (T:="StopIteration") (b:=true) ⟨o,q1,q2⟩ isSubtype_stop (Qf (hQ _ hk)))
theorem zQv (t:Bool){P:Program}{w:World}{K:PySem.W.Frag}{elts:List Expr}{k:Nat}{pos:Pos}(a b n:Addr):Turn P w K (.Tuple elts k pos) (zIC t K a b) [n+4,n+2,n+3,n,n+1] (n+4)
   (fun i h=>IsZip h (n+4) (n+2) (n+3) .none/\IsPair h (n+2) (.ref n) (.ref (n+1))/\(∃p q,IsPair h (n+3) p q)/\h.IsTupleIter n a i/\IsIr t h (n+1) b i) where
 mem:=by simp
 obj:=fun i h st c hc=>by
   obtain⟨h1,h2,⟨p,q,h3⟩,⟨o1,e1,_,d1⟩,⟨o2,e2,_,d2⟩⟩:=st
   simp only[Qa,Wi,Rr] at hc
   rcases hc with z | z | z | z | z
   · subst z;exact⟨_,h1,fun v q=>nomatch q⟩
   · subst z;exact⟨_,h2,fun v q=>nomatch q⟩
   · subst z;exact⟨_,h3,fun v q=>nomatch q⟩
   · subst z;exact⟨o1,e1,fun v q=>by rw[d1] at q;cases q⟩
   · subst z;exact⟨o2,e2,fun v q=>by rw[d2] at q;cases q⟩
 keep:=fun i h h' st kk=>by
   obtain⟨h1,h2,⟨p,q,h3⟩,⟨o1,e1,r1⟩,⟨o2,e2,r2⟩⟩:=st
   exact⟨kk _ (by simp) _ h1,kk _ (by simp) _ h2,⟨p,q,kk _ (by simp) _ h3⟩,⟨o1,kk _ (by simp) _ e1,r1⟩,⟨o2,kk _ (by simp) _ e2,r2⟩⟩
 item:=by
   intro X hP hw hK hc i pins s σ H E I hf st hg
   subst hP hw hK
   obtain⟨xs,ys,x,y,hq,hq',hx,hy⟩:=hg
   obtain⟨its,rv,p1,hz⟩:=I.tuple hq
   obtain⟨jts,rv',p2⟩:=zSu I hq'
   obtain⟨u,hu,ru⟩:=rv.get hx
   obtain⟨u',hu',ru'⟩:=rv'.get hy
   obtain⟨h1,h2,⟨p,q,h3⟩,h4,h5⟩:=st
   have apart:∀u:Bool,∀c∈[n+4,n+2,n+3,n,n+1],∀v:List V,∀d:Addr,SqB u X.K H d v->d≠c:=fun u c hc v d hd=>zNC I (hf c hc) hd
   have D:ZApart (n+4) (n+2) (n+3) n (n+1) a b:=⟨zne 2 4 (by decide),zne 3 4 (by decide),zne 0 4 (by decide),zne 1 4 (by decide),zne 2 3 (by decide),zne 2 0 (by decide),zne 2 1 (by decide),zne 3 0 (by decide),zne 3 1 (by decide),zne 0 1 (by decide),apart true _ (by simp) xs a hq,apart true _ (by simp) xs a hq,apart true _ (by simp) xs a hq,apart true _ (by simp) xs a hq,apart t _ (by simp) ys b hq',apart t _ (by simp) ys b hq',apart t _ (by simp) ys b hq',apart t _ (by simp) ys b hq'⟩
   refine zXy D h1 h2 h3 h4 h5 (show s.heap.IsTuple a its.toArray from p1) p2 (x:=u) (y:=u') (by simpa using hu) (by simpa using hu') fun g g1 g2 g3 g4 g5 hk=>?_
   have hk':∀c o,c∉[n+4,n+2,n+3,n,n+1]->s.heap.get? c=some o->g.get? c=some o:=fun c o hc e=>hk c o (fun z=>hc (by simp[z])) (fun z=>hc (by simp[z])) (fun z=>hc (by simp[z])) (fun z=>hc (by simp[z])) e
   have I1:Inv X pins σ (upd H s.heap.objs.size (.tup [x,y])) { s with heap:=g }:=I.turnedNew (t':=s.toks) hk' hf (Ql _) ⟨by show 2<=sizeLine;exact Wx (vO (by decide)),[u,u'],.cons ru (.cons ru' .nil),⟨_,g5,rfl,_,rfl⟩⟩
   refine⟨_,rfl,wpAny_letOwnedTupleGo_zip g1 fun g' z' t'=>?_⟩
   have t':Heap.SameBut (n+4) g g':=t'
   have neT:∀c∈[n+4,n+2,n+3,n,n+1],c≠s.heap.objs.size:=fun c hc z=>by
     have lt:c < s.heap.objs.size:=by
       obtain⟨o1,e1,_⟩:=h4
       obtain⟨o2,e2,_⟩:=h5
       simp only[Qa,Wi,Rr] at hc
       rcases hc with q | q | q | q | q
       · rw[q];exact Qs h1
       · rw[q];exact Qs h2
       · rw[q];exact Qs h3
       · rw[q];exact Qs e1
       · rw[q];exact Qs e2
     rw[z] at lt
     exact Wr _ lt
   have hf1:∀c∈[n+4,n+2,n+3,n,n+1],mX X pins (upd H s.heap.objs.size (.tup [x,y])) c:=fun c hc=>⟨by rw[yI (neT c hc)];exact(hf c hc).1,(hf c hc).2⟩
   have I2:=I1.turnedL (h':=g') (t':=s.toks) (fp:=[n+4,n+2,n+3,n,n+1]) (fun c o hc e=>(t'.2 c (fun z=>hc (by simp[z]))).trans e) hf1
   have g2':IsPair g (n+2) (.ref n) (.ref (n+1)):=hk _ _ D.a1 D.a5 D.a6 D.a7 h2
   obtain⟨o3,e3,r3⟩:=g3
   obtain⟨o4,e4,r4⟩:=g4
   exact⟨.ref s.heap.objs.size,_,I2,rfl,⟨s.heap.objs.size,x,y,I.fresh,rfl,rfl,fun zs hs=>by rw[I.tuple_inj hs hq];exact hx,fun zs hs=>by rw[zKf I hs hq'];exact hy⟩,
     ⟨z',(t'.2 _ D.a1).trans g2',⟨_,_,(t'.2 _ D.a2).trans g2⟩,⟨o3,(t'.2 _ D.a3).trans e3,r3⟩,⟨o4,(t'.2 _ D.a4).trans e4,r4⟩⟩,fun c hc=>(hf1 c hc).1⟩
 done:=by
   intro X hP hw hK hc i pins s σ H E I hf st hg
   subst hP hw hK
   obtain⟨xs,ys,hq,hq',hx⟩:=hg
   obtain⟨its,rv,p1,hz⟩:=I.tuple hq
   obtain⟨jts,rv',p2⟩:=zSu I hq'
   obtain⟨h1,h2,⟨p,q,h3⟩,h4,h5⟩:=st
   have apart:∀u:Bool,∀c∈[n+4,n+2,n+3,n,n+1],∀v:List V,∀d:Addr,SqB u X.K H d v->d≠c:=fun u c hc v d hd=>zNC I (hf c hc) hd
   have D:ZApart (n+4) (n+2) (n+3) n (n+1) a b:=⟨zne 2 4 (by decide),zne 3 4 (by decide),zne 0 4 (by decide),zne 1 4 (by decide),zne 2 3 (by decide),zne 2 0 (by decide),zne 2 1 (by decide),zne 3 0 (by decide),zne 3 1 (by decide),zne 0 1 (by decide),apart true _ (by simp) xs a hq,apart true _ (by simp) xs a hq,apart true _ (by simp) xs a hq,apart true _ (by simp) xs a hq,apart t _ (by simp) ys b hq',apart t _ (by simp) ys b hq',apart t _ (by simp) ys b hq',apart t _ (by simp) ys b hq'⟩
   have l1:=rv.length
   have l2:=rv'.length
   refine zWO (I.ok.hd hc) D h1 h2 h3 h4 h5 (show s.heap.IsTuple a its.toArray from p1) p2 ?_ fun g hk=>⟨rfl,I.turnedL (t':=s.toks) (fp:=[n+4,n+2,n+3,n,n+1]) (fun c o hc e=>hk c o (fun z=>hc (by simp[z])) (fun z=>hc (by simp[z])) (fun z=>hc (by simp[z])) (fun z=>hc (by simp[z])) e) hf⟩
   rcases hx with q | q
   · exact .inl (by simp;omega)
   · exact .inr (by simp;omega)
 self:=fun _ _ _ _ _ st h=>Oe st.1 h
theorem zU1 (t:Bool){K:PySem.W.Frag}{G:Hp}{a b:Addr}{vs us:List V}{ds es:List D}(h:SqT K G a vs)(r:Reps K G ds vs)(h':SqB t K G b us)(r':Reps K G es us):hV K (zIC t K a b) G (sU ds es):=by
 intro i G2 H2 s1 s2
 have q:SqT K H2 a vs:=(s1.trans s2).tup h
 have q':SqB t K H2 b us:=zQ9 (s1.trans s2) h'
 refine⟨fun d hd=>?_,fun hi=>⟨vs,us,q,q',?_⟩⟩
 · obtain⟨x,y,h1,h2,rfl⟩:=zYA hd
   obtain⟨v,e1,rv⟩:=r.get h1
   obtain⟨u,e2,ru⟩:=r'.get h2
   refine⟨⟨vs,us,v,u,q,q',e1,e2⟩,fun x' H3 yy=>?_⟩
   obtain⟨p,v',u',hp,rfl,rfl,y1,y2⟩:=yy
   have f1:=y1 vs q
   rw[e1] at f1;cases f1
   have f2:=y2 us q'
   rw[e2] at f2;cases f2
   have s3:=Step.laid (o:=.tup [v,u]) s2 hp
   exact⟨_,s3,yF.mpr ⟨p,_,rfl,.of yX,zE.mpr ⟨_,_,rfl,(rv.mono s1).mono s3.gg,zE.mpr ⟨_,_,rfl,(ru.mono s1).mono s3.gg,yV.mpr rfl⟩⟩⟩⟩
 · rw[zYp] at hi
   rw[←r.length,←r'.length]
   omega
section
variable {X:Cx} {a b:Expr} {fa fb:Ef} {pos p:Pos}
def zXO (t:Bool)(f g:Ef):Lf:=fun ρ=>(f ρ).bind fun x=>(g ρ).bind fun y=>match t,x,y with | true,.tup xs,.tup ys=>some (sU xs ys) | false,.tup xs,.lst ys=>some (sU xs ys) | _,_,_=>none
def zUh (f g:Ef):Lf:=zXO false f g
def sqD (t:Bool)(ys:List D):D:=cond t (.tup ys) (.lst ys)
theorem zKc {t:Bool}{K:PySem.W.Frag}{G:Hp}{ys:List D}{y:V}(h:Rep K G (sqD t ys) y):∃b ws,y = .ref b/\SqB t K G b ws/\Reps K G ys ws:=by
 cases t
 · exact xH.mp h
 · exact yF.mp h
theorem zQj {t:Bool}{f g:Ef}{ρ:List B}{ds:List D}(h:zXO t f g ρ=some ds):∃xs ys,f ρ=some (.tup xs)/\g ρ=some (sqD t ys)/\ds=sU xs ys:=by
 unfold zXO at h
 obtain⟨x,h1,h⟩:=Qq.mp h
 obtain⟨y,h2,h⟩:=Qq.mp h
 cases t<;>cases x<;>(try cases h)<;>cases y<;>(try cases h)<;>exact⟨_,_,h1,h2,rfl⟩
theorem zRn (t:Bool){elts:List Expr}{k:Nat}{pos':Pos}(hg:Gl X "zip")(hm:X.mg "zip"=none)(ha:PF X a fa)(hb:PF X b fb)(hs:starEach [a,b] X.env=[(false,eval a X.env),(false,eval b X.env)]:=by rfl)(hs2:starEach [b] X.env=[(false,eval b X.env)]:=by rfl) :
   PFI X (.Tuple elts k pos') (.Call (.Name "zip" p) [a,b] [] pos) (zXO t fa fb):=by
 intro pins s σ H R I q
 obtain⟨G0,H0,G,ρ,ds,good,hf,kk⟩:=q
 obtain⟨xs,ys,h1,h2,rfl⟩:=zQj hf
 have hA:=yY ha (yY hb yK (by rw[hs2];rfl)) (by rw[hs,hs2]) pos pins s σ H (fun vs H'=>∃a b us ws G',vs=[.ref a,.ref b]/\Step G H G' H'/\SqT X.K G' a us/\Reps X.K G' xs us/\SqB t X.K G' b ws/\Reps X.K G' ys ws) I
   ⟨G0,H0,G,ρ,_,good,h1,fun v H1 G1 s1 r1=>⟨G0,H0,G1,ρ,_,good.step s1,h2,fun u H2 G2 s2 r2=>by
     obtain⟨a,us,rfl,q1,q2⟩:=yF.mp (r1.mono s2.gg)
     obtain⟨b,ws,rfl,q3,q4⟩:=zKc r2
     exact⟨a,b,us,ws,G2,rfl,s1.trans s2,q1,q2,q3,q4⟩⟩⟩
 refine Call_ (qD I hg hm (by rfl) (Wj (thn hA fun us s1 ⟨vs,H1,I1,r1,l1,l2,ws,zs,G1,e1,st1,q1,q2,q3,q4⟩=>?_) (by rw[hs,hs2]) (by rw[hs2];rfl)))
 subst e1
 obtain⟨u,u',rfl,ru,ru'⟩:=zT4 r1
 cases ru
 cases ru'
 obtain⟨its,rv,p1,_⟩:=I1.tuple (st1.sub.tup q1)
 obtain⟨jts,rv',p2⟩:=zSu I1 (zQ9 st1.sub q3)
 refine zQx (show s1.heap.IsTuple l1 its.toArray from p1) p2 fun h' z1 z2 z3 z4 z5 hk=>?_
 have I2:Inv X pins σ H1 { s1 with heap:=h' }:=I1.kept (t':=s1.toks) hk
 refine Oe z1 ?_
 refine⟨_,[s1.heap.objs.size+4,s1.heap.objs.size+2,s1.heap.objs.size+3,s1.heap.objs.size,s1.heap.objs.size+1],_,_,H1,rfl,I2,zQv t l1 l2 s1.heap.objs.size,⟨z1,z2,⟨_,_,z3⟩,z4,z5⟩,fun b hb=>?_,kk _ H1 G1 st1 (zU1 t q1 q2 q3 q4)⟩
 have hb':s1.heap.objs.size<=b:=by
   simp only[Qa,Wi,Rr] at hb
   rcases hb with z | z | z | z | z<;>(rw[z];first | exact Ql _ | exact Nat.le_add_right _ _)
 exact I1.fpOk hb' (I1.hok.fresh hb')
theorem zL1 (f g:Ef):zNR f g=zXO true f g:=by
 funext ρ
 unfold zNR zXO
 cases f ρ with
 | none=>rfl
 | some x =>
   cases g ρ with
   | none=>rfl
   | some y=>cases x<;>cases y<;>rfl
theorem zRs {elts:List Expr}{k:Nat}{pos':Pos}(hg:Gl X "zip")(hm:X.mg "zip"=none)(ha:PF X a fa)(hb:PF X b fb)(hs:starEach [a,b] X.env=[(false,eval a X.env),(false,eval b X.env)]:=by rfl)(hs2:starEach [b] X.env=[(false,eval b X.env)]:=by rfl) :
   PFI X (.Tuple elts k pos') (.Call (.Name "zip" p) [a,b] [] pos) (zNR fa fb):=by
 rw[zL1]
 exact zRn true hg hm ha hb hs hs2
theorem zLT {elts:List Expr}{k:Nat}{pos':Pos}(hg:Gl X "zip")(hm:X.mg "zip"=none)(ha:PF X a fa)(hb:PF X b fb)(hs:starEach [a,b] X.env=[(false,eval a X.env),(false,eval b X.env)]:=by rfl)(hs2:starEach [b] X.env=[(false,eval b X.env)]:=by rfl) :
   PFI X (.Tuple elts k pos') (.Call (.Name "zip" p) [a,b] [] pos) (zUh fa fb):=zRn false hg hm ha hb hs hs2
theorem zQn:CallR X (.type "str") (fun xs H Q=>∃x,xs=[.str x]/\Q (.str x) H):=by
 intro pins s σ H xs us Q I r h
 obtain⟨x,rfl,q⟩:=h
 obtain⟨u,rfl,t,rfl⟩:=qJ r
 exact P.str_of_str ⟨.str x,H,I,⟨_,rfl⟩,q⟩
def zHN:D->Option D
 | .int i=>if i.natAbs.log2 < 1920 then some (.str (Str.ofString (toString i))) else none
 | .str x=>some (.str x)
 | _=>none
def zMq (f:Ef):Ef:=fun ρ=>(f ρ).bind zHN
theorem zKI (hg:Gl X "str")(hm:X.mg "str"=none)(h:PF X a fa)(hs:starEach [a] X.env=[(false,eval a X.env)]:=by rfl):PF X (.Call (.Name "str" p) [a] [] pos) (zMq fa):=by
 refine PE.to (qC (aJ.or zQn) hg hm (by rfl) (yY h yK (by rw[hs];rfl)) (by decide) (by decide) (by rw[hs];rfl) (by rfl)) ?_
 rintro σ H Q ⟨G0,H0,G,ρ,d,good,hf,k⟩
 unfold zMq at hf
 obtain⟨x,h1,hf⟩:=Qq.mp hf
 refine⟨G0,H0,G,ρ,_,good,h1,fun v H1 G1 s1 r1=>?_⟩
 cases x with
 | int i =>
   simp only[zHN] at hf
   split at hf
   · rename_i hz
     cases hf
     exact .inl ⟨i,by rw[zG.mp r1],hz,k _ _ G1 s1 (yM.mpr rfl)⟩
   · cases hf
 | str x =>
   cases hf
   exact .inr ⟨x,by rw[yM.mp r1],k _ _ G1 s1 (yM.mpr rfl)⟩
 | _=>cases hf
end
end L2
namespace L2
open PySem PySem.Spec PyProof.Rows
open AutoSeq1 (wpAny_loadPart')
theorem zNH {prog:Program}{w:World}{A:Around}(hh:A.handled=none)(it l:Addr)(ne:l≠it)(items:Array Value)(n:Nat)(hn:items.size<=n) :
   Draws prog w A it [it,l] n (fun i v=>items[i]?=some v) (fun i h=>h.IsTupleIter it l i/\h.IsTuple l items/\(items.size < n->n<=i)) where
 live:=fun _ _ ⟨⟨o,q,_⟩,_⟩=>⟨o,q⟩
 frame:=fun _ _ _ ⟨⟨o,q,r⟩,⟨u,z,y⟩,k⟩ hk=>⟨⟨o,hk it (by simp) o q,r⟩,⟨u,hk l (by simp) u z,y⟩,k⟩
 item:=fun i s Q E hi ⟨q1,q2,q3⟩ hQ=>by
   have hs:i < items.size:=by
     by_cases z:items.size < n
     · have:=q3 z;omega
     · omega
   exact jW q1 q2 (x:=items[i]) (by simp[hs]) fun h' a b=>hQ _ h' s.toks (by simp[hs]) ⟨a,q2.extBut b.extBut ne,fun z=>by have:=q3 z;omega⟩ b
 done:=fun s Q E ⟨q1,q2,_⟩ hE=>zZE hh q1 q2 (by simp[hn]) hE
abbrev eT1 (h:Heap)(l:Addr):Heap:=h.push { cls:=.type "tuple_iterator",data:=.fields #[.ref l,.int 0 0] }
abbrev eT2 (h:Heap)(l:Addr):Heap:=(eT1 h l).push { cls:=.type "enumerate",data:=.fields #[.none,.bool false,.ref h.objs.size,rawInt 0,.none,.none] }
theorem zPj (l:Addr)(xs:Array Value)(n:Nat)(dc:Option Addr)(sl:Array (Option Value)) :
   Meets (Builtin.«enumerate.__new__» ⟨[.type "enumerate",.ref l],[]⟩) (fun _ R s=>s.heap.get? l=some { cls:=.type "tuple",dict:=dc,data:=.seq xs n,slots:=sl }/\R (.ok (.ret (.ref (eT1 s.heap l).objs.size))) { s with heap:=eT2 s.heap l }) :=
 .of_wp fun prog w A R s h=>by
   obtain⟨hp,g,d,tk,os⟩:=s
   obtain⟨hl,h⟩:=h
   have hsub:=sub_enumerate
   have hT:Heap.IsTuple (Shared.heap ⟨hp,g,d,tk,os⟩) l xs:=⟨_,hl,rfl,n,rfl⟩
   wp_walk using wpAny_loadPart' hl
   refine wpAny_stack_any fun z=>(Qf ?_)
   split
   · rename_i c _ _ _ _ _
     cases (c==Value.type "enumerate")<;>(wp_walk using wpAny_loadPart' hl,Tw hT;exact⟨_,rfl,h⟩)
   · (wp_walk using wpAny_loadPart' hl,Tw hT;exact⟨_,rfl,h⟩)
theorem zRI {prog:Program}{w:World}{A:Around}{E:Value->Shared->Prop}{s:Shared}{l:Addr}{xs:Array Value}{Q:Value->Shared->Prop}(hL:s.heap.IsTuple l xs)
   (h:∀h',IsEnum h' (s.heap.objs.size+1) s.heap.objs.size 0 .none->h'.IsTupleIter s.heap.objs.size l 0->(∀b o,s.heap.get? b=some o->h'.get? b=some o)->Q (.ref (s.heap.objs.size+1)) { s with heap:=h' }) :
   wpAny (model prog w) A (call (.type "enumerate") [.ref l]) Q E s:=by
 obtain⟨⟨c,dc,dt,sl⟩,hl,hc,n,hd⟩:=hL
 have hc:c = .type "tuple":=hc
 have hd:dt = .seq xs n:=hd
 subst hc hd
 refine callType_new F.called_enumerate (by decide) (F.typeCall_enumerate_1 _) (F.newCall_enumerate_1 _) (fun obj=>F.args_object_init_2 obj _) F.entry_enumerate_new (zPj l xs n dc sl) ⟨hl,?_⟩
 have y1:(eT1 s.heap l).objs.size=s.heap.objs.size+1:=Rx ..
 have he:IsEnum (eT2 s.heap l) (s.heap.objs.size+1) s.heap.objs.size 0 .none:=by
   have q:=Qk (eT1 s.heap l) (o:={ cls:=.type "enumerate",data:=.fields #[.none,.bool false,.ref s.heap.objs.size,rawInt 0,.none,.none] }) rfl
   rw[y1] at q;exact q
 show _/\_
 rw[y1]
 exact⟨⟨_,he,rfl⟩,h _ he ⟨_,Qr _ (Qk _ rfl),rfl,rfl⟩ fun b o x=>Qr _ (Qr _ x)⟩
def zHF (K:PySem.W.Frag)(a:Addr):It :=
 ⟨fun i H=>∃xs x,SqT K H a xs/\xs[i]?=some x,fun i H x H'=>∃p v,H p=none/\x = .ref p/\H'=upd H p (.tup [.int (i:Nat),v])/\∀xs,SqT K H a xs->xs[i]?=some v,fun i H=>∃xs,SqT K H a xs/\xs.length<=i⟩
theorem zR6 {P:Program}{w:World}{K:PySem.W.Frag}{elts:List Expr}{k:Nat}{pos:Pos}(a e it:Addr)(hei:e≠it):Turn P w K (.Tuple elts k pos) (zHF K a) [e,it] e (fun i h=>(∃old,IsEnum h e it (i:Nat) old)/\h.IsTupleIter it a i) where
 mem:=by simp
 obj:=fun i h st b hb=>by
   obtain⟨⟨old,he⟩,o,h1,h2,h3⟩:=st
   rcases Qa.mp hb with z | z
   · subst z;exact⟨_,he,fun v q=>nomatch q⟩
   · rcases Qa.mp z with z | z
     · subst z;exact⟨o,h1,fun v q=>by rw[h3] at q;cases q⟩
     · cases z
 keep:=fun i h h' st kk=>by
   obtain⟨⟨old,he⟩,o,q,r⟩:=st
   exact⟨⟨old,kk e (by simp) _ he⟩,o,kk it (by simp) o q,r⟩
 item:=by
   intro X hP hw hK hc i pins s σ H E I hf st hg
   subst hP hw hK
   obtain⟨xs,x,hq,hx⟩:=hg
   obtain⟨its,rv,p,hz⟩:=I.tuple hq
   obtain⟨u,hu,ru⟩:=rv.get hx
   obtain⟨⟨old,he⟩,hit⟩:=st
   have apart:∀c∈[e,it],a≠c:=fun c hc z=>by
     have e:=(hf c hc).1
     rcases hq with(hd | ⟨ob,hd⟩) | hd
     · rw[z,e] at hd;cases hd
     · rw[z,e] at hd;cases hd
     · obtain⟨ob,_,_,hk,_⟩:=hd
       have e3:=I.ok.mod.kin a ob hk
       obtain⟨_,q1,_,q3,_⟩:=hf c hc
       rcases q3 with q3 | q3
       · exact I.ok.noex a ob e3 (z ▸ q3)
       · exact absurd (We (Qs (I.ok.bs a ob e3).1) (z ▸ q3)) (Wr _)
   refine wpAny_pyNext_enum_itemD (zNH (A:=X.A.in1) (I.ok.hd hc) it a (apart it (by simp)) its.toArray _ (Ql _)) he ⟨hit,(show s.heap.IsTuple a its.toArray from p),fun z=>absurd z (Wr _)⟩ (by have:=(Qm.mp hu).1;simpa using this) hei (by
     intro z
     rcases Qa.mp z with z | z
     · exact hei z
     · rcases Qa.mp z with z | z
       · exact apart e (by simp) z.symm
       · cases z) fun x' h1 tk hx' ho hst hT hsz hk=>?_
   obtain⟨hit1,_⟩:=hst
   have ex:x'=u:=by
     have e1:its[i]?=some x':=by simpa using hx'
     rw[hu] at e1;cases e1;rfl
   subst ex
   have I1:Inv X pins σ (upd H s.heap.objs.size (.tup [.int (i:Nat),x])) { s with heap:=h1,toks:=tk+1 }:=I.turnedNew (fun b o hb e=>hk b o (fun z=>hb (by simp[z])) (fun z=>hb (by simp[z])) e) hf (Ql _)
     ⟨by show 2<=sizeLine;exact Wx (vO (by decide)),[.int (i:Nat) tk,x'],.cons ⟨_,rfl⟩ (.cons ru .nil),⟨_,hT,rfl,_,rfl⟩⟩
   refine⟨_,rfl,Og ho fun h2 he2 hs2=>?_⟩
   have hs2:Heap.SameBut e h1 h2:=hs2
   have neT:∀b∈[e,it],b≠s.heap.objs.size:=fun b hb z=>by
     obtain⟨o,h1,h2,h3⟩:=hit
     rcases Qa.mp hb with q | q
     · exact absurd (Qs he) (by rw[←q,z];exact Wr _)
     · rcases Qa.mp q with q | q
       · exact absurd (Qs h1) (by rw[←q,z];exact Wr _)
       · cases q
   have hf1:∀b∈[e,it],mX X pins (upd H s.heap.objs.size (.tup [.int (i:Nat),x])) b:=fun b hb=>⟨by rw[yI (neT b hb)];exact(hf b hb).1,(hf b hb).2⟩
   have I2:=I1.turnedL (h':=h2) (t':=tk+1) (fp:=[e,it]) (fun b o hb q=>(hs2.2 b (fun z=>hb (by simp[z]))).trans q) hf1
   obtain⟨o,q,r⟩:=hit1
   refine⟨.ref s.heap.objs.size,_,I2,rfl,⟨s.heap.objs.size,x,I.fresh,rfl,rfl,fun ys hy=>by rw[I.tuple_inj hy hq];exact hx⟩,⟨⟨_,by simpa using he2⟩,o,(hs2.2 it hei.symm).trans q,r⟩,fun b hb=>(hf1 b hb).1⟩
 done:=by
   intro X hP hw hK hc i pins s σ H E I hf st hg
   subst hP hw hK
   obtain⟨xs,hq,hx⟩:=hg
   obtain⟨its,rv,p,hz⟩:=I.tuple hq
   obtain⟨⟨old,he⟩,hit⟩:=st
   have hl:=rv.length
   have ne:a≠it:=fun z=>by
     have e:=(hf it (by simp)).1
     rcases hq with(hd | ⟨ob,hd⟩) | hd
     · rw[z,e] at hd;cases hd
     · rw[z,e] at hd;cases hd
     · obtain⟨ob,_,_,hk,_⟩:=hd
       have e3:=I.ok.mod.kin a ob hk
       obtain⟨_,q1,_,q3,_⟩:=hf it (by simp)
       rcases q3 with q3 | q3
       · exact I.ok.noex a ob e3 (z ▸ q3)
       · exact absurd (We (Qs (I.ok.bs a ob e3).1) (z ▸ q3)) (Wr _)
   exact wpAny_pyNext_enum_endD (zNH (A:=X.A.in1) (I.ok.hd hc) it a ne its.toArray i (by simp;omega)) he ⟨hit,(show s.heap.IsTuple a its.toArray from p),fun _=>Ql _⟩ fun h' eb=>⟨rfl,I.turnedL (t':=s.toks) (fp:=[e,it]) (fun b o hb q=>eb b o (fun z=>hb (by simp[z])) q) hf⟩
 self:=fun _ _ _ _ _ st h=>Yx st.1.choose_spec h
theorem zU9 {K:PySem.W.Frag}{G:Hp}{a:Addr}{vs:List V}{ds:List D}(h:SqT K G a vs)(r:Reps K G ds vs):hV K (zHF K a) G (numbered ds):=by
 intro i G2 H2 s1 s2
 have q:SqT K H2 a vs:=(s1.trans s2).tup h
 unfold numbered
 refine⟨fun d hd=>?_,fun hi=>⟨vs,q,by rw[←r.length];simpa using hi⟩⟩
 rw[Wp,List.getElem?_zipIdx] at hd
 obtain⟨⟨d0,j⟩,hd2,hd3⟩:=Qt.mp hd
 obtain⟨d1,hd1,e⟩:=Qt.mp hd2
 cases e
 subst hd3
 obtain⟨v,e,rv⟩:=r.get hd1
 refine⟨⟨vs,v,q,e⟩,fun x H3 y=>?_⟩
 obtain⟨p,u,hp,rfl,rfl,y⟩:=y
 have e2:=y vs q
 rw[e] at e2;cases e2
 have s3:=Step.laid (o:=.tup [.int (i:Nat),v]) s2 hp
 exact⟨_,s3,yF.mpr ⟨p,_,rfl,.of yX,zE.mpr ⟨_,_,rfl,zG.mpr (by simp),zE.mpr ⟨_,_,rfl,(rv.mono s1).mono s3.gg,yV.mpr rfl⟩⟩⟩⟩
section
variable {X:Cx} {a:Expr} {fa:Ef} {pos p:Pos}
theorem zNb {elts:List Expr}{k:Nat}{pos':Pos}(hg:Gl X "enumerate")(hm:X.mg "enumerate"=none)(h:PF X a fa)(hs:starEach [a] X.env=[(false,eval a X.env)]:=by rfl):PFI X (.Tuple elts k pos') (.Call (.Name "enumerate" p) [a] [] pos) (bF (iT fa)):=by
 intro pins s σ H R I q
 obtain⟨G0,H0,G,ρ,ds,good,hf,kk⟩:=q
 unfold bF at hf
 obtain⟨es,h1,rfl⟩:=Qt.mp hf
 unfold iT at h1
 obtain⟨d,h0,h1⟩:=Qq.mp h1
 cases d with
 | tup ys =>
   cases h1
   have h2:=yY h yK (by rw[hs];rfl) pos pins s σ H (fun vs H'=>∃a us G',vs=[.ref a]/\Step G H G' H'/\SqT X.K G' a us/\Reps X.K G' es us) I ⟨G0,H0,G,ρ,_,good,h0,fun v H' G' s' r=>by
     obtain⟨a,us,rfl,q1,q2⟩:=yF.mp r
     exact⟨a,us,G',rfl,s',q1,q2⟩⟩
   refine Call_ (qD I hg hm (by rfl) (Wj (thn h2 fun us s1 ⟨vs,H1,I1,r1,l,ws,G1,e1,st1,hq,rs⟩=>?_) hs rfl))
   subst e1
   obtain⟨u,rfl,ru⟩:=qJ r1
   cases ru
   obtain⟨its,rv,pl,hz⟩:=I1.tuple (st1.sub.tup hq)
   refine zRI (show s1.heap.IsTuple l its.toArray from pl) fun h' he hit hk=>?_
   have I2:Inv X pins σ H1 { s1 with heap:=h' }:=I1.kept (t':=s1.toks) hk
   refine Yx he ?_
   refine⟨_,[s1.heap.objs.size+1,s1.heap.objs.size],_,_,H1,rfl,I2,zR6 l _ _ (Nat.succ_ne_self _),⟨⟨_,he⟩,hit⟩,fun b hb=>?_,kk _ H1 G1 st1 (zU9 hq rs)⟩
   have hb':s1.heap.objs.size<=b:=by
     rcases Qa.mp hb with z | z
     · rw[z];exact Yo _
     · rcases Qa.mp z with z | z
       · exact Ua z.symm
       · cases z
   exact I1.fpOk hb' (I1.hok.fresh hb')
 | _=>cases h1
end
end L2
namespace L2
open PySem PySem.Spec PyProof.Rows
def noN:D->Bool
 | .int _=>true
 | .str _=>true
 | .tup _=>true
 | _=>false
def zVD (x y:D):Option Bool:=match x,y with
 | .non,.lst ds=>if ds.all noN then some false else none
 | .non,.tup ds=>if ds.all noN then some false else none
 | _,_=>none
section
variable {X:Cx} {pins:List (Addr×Obj)} {σ:St} {H G:Hp} {s:Shared}
theorem zMt (I:Inv X pins σ H s)(sub:Same G H){A:Around}(hu:A.units < cLine):∀ {ds:List D} {xs:List V} {its:List Value},ds.all noN=true->Reps X.K G ds xs->Vals xs its->∀w∈its,SeqAt.EqAt A s w .none false
 | [],_,_,f,r,v=>by
   rw[yV] at r;subst r
   cases v
   exact fun w hw=>nomatch hw
 | d::t,_,_,f,r,v=>by
   obtain⟨z,zr,rfl,q1,q2⟩:=zE.mp r
   cases v with
   | cons v1 v2 =>
     rw[Yr,Qx] at f
     intro w hw
     rcases Qa.mp hw with rfl | hw
     · cases d with
       | int i=>rw[zG] at q1;subst q1;obtain⟨t,rfl⟩:=v1;exact SeqAt.EqAt.int_none _ _
       | str i=>rw[yM] at q1;subst q1;obtain⟨t,rfl⟩:=v1;exact SeqAt.EqAt.str_none _ _
       | tup es =>
         obtain⟨a,vs,rfl,p1,p2⟩:=yF.mp q1
         cases v1
         obtain⟨jts,_,t1,_⟩:=I.tuple (sub.tup p1)
         exact SeqAt.EqAt.tuple_none t1 hu
       | _=>exact absurd f.1 (by unfold noN;exact Qj)
     · exact zMt I sub hu f.2 q2 v2 w hw
variable {k:Nat}
theorem zIQ (hr:Room k X.A):OpR X (compareOp .In) (fun x y H Q=>∃G d d' b,Same G H/\Rep X.K G d x/\Rep X.K G d' y/\zVD d d'=some b/\Q (.bl b) H):=by
 intro pins s σ H x y v u Q I rx ry h
 obtain⟨G,d,d',b,sub,r1,r2,h,q⟩:=h
 have hu:=hr.units
 have hu1:X.A.in1.units < cLine:=by show X.A.units+1 < cLine;omega
 have none:∀its:List Value,its.toArray.any (fun _=>false)=false:=fun its=>by simp
 unfold zVD at h
 split at h
 · rename_i ds
   rw[uO] at r1;subst r1;cases rx
   split at h
   · rename_i f
     cases h
     obtain⟨p,xs,rfl,q1,q2⟩:=xH.mp r2
     cases ry
     obtain⟨its,rv,pl,hz⟩:=I.list (sub.seq q1)
     have m:=zMt (A:=X.A.in1) I sub hu1 f q2 rv
     exact SeqAt.in_listAt (fun _=>false) pl.isList (fun w hw=>m w (by simpa using hw)) ⟨.bl _,H,I,rfl,by rw[none];exact q⟩
   · cases h
 · rename_i ds
   rw[uO] at r1;subst r1;cases rx
   split at h
   · rename_i f
     cases h
     obtain⟨p,xs,rfl,q1,q2⟩:=yF.mp r2
     cases ry
     obtain⟨its,rv,pl,hz⟩:=I.tuple (sub.tup q1)
     have m:=zMt (A:=X.A.in1) I sub hu1 f q2 rv
     exact SeqAt.in_tupleAt (fun _=>false) pl (fun w hw=>m w (by simpa using hw)) ⟨.bl _,H,I,rfl,by rw[none];exact q⟩
   · cases h
 · cases h
theorem zNT (hr:Room k X.A):CmR X .In zVD:=⟨_,zIQ hr,fun d d' k G H x y Q h s rx ry q=>⟨G,d,d',k,s,rx,ry,h,q H G (.refl s)⟩⟩
end
theorem zXV (o:Option D):(o.map Out.rt).bind xV=o:=by cases o<;>rfl
theorem yL {f g:Sf}{ρ ρ':List B}(h:f ρ=some (.nx ρ')):zP f g ρ=g ρ':=by unfold zP;rw[h];rfl
theorem xZ {f g:Sf}{ρ ρ':List B}{r:Option D}(h:f ρ=some (.nx ρ'))(k:(g ρ').bind xV=r):(zP f g ρ).bind xV=r:=by rw[yL h];exact k
theorem bH {f g:Sf}{ρ:List B}{d:D}(h:f ρ=some (.rt d)):zP f g ρ=some (.rt d):=by unfold zP;rw[h];rfl
theorem oU {g:Gf}{body:Sf}{d:D}{r:List D}{ρ ρ1 ρ2:List B}(h1:g d ρ=some ρ1)(h2:body ρ1=some (.nx ρ2)):nH g body (d::r) ρ=nH g body r ρ2:=by
 rw[nH,h1,Qw,h2,Qw]
theorem yZ {f:Ef}{g:Lf}{ρ:List B}{d:D}{ds:List D}(h1:f ρ=some d)(h2:g ρ=some ds):zY f g ρ=some (d::ds):=by unfold zY;rw[h1,h2];rfl
theorem dN {g:Lf}{ρ:List B}{ds:List D}(h:g ρ=some ds):eL g ρ=some (.lst ds):=by unfold eL;rw[h];rfl
theorem gK {n:Nat}{f:List D->Option D}{g:Lf}{ρ:List B}{ds:List D}(h:g ρ=some ds)(hl:ds.length=n):zO n f g ρ=f ds:=by unfold zO;rw[h,Qw,Qb hl]
theorem zTb {c:Str}{ns:List Str}{n:Nat}{f:List D->Option (List D)}{g:Lf}{ρ:List B}{ds xs:List D}(h:g ρ=some ds)(hl:ds.length=n)(hf:f ds=some xs)(hn:ns.length=xs.length):zZj c ns n f g ρ=some (.obj c ns xs):=by
 unfold zZj;rw[h,Qw,Qb hl,hf,Qw,Qb hn]
theorem zTG {g:Gf}{body:Sf}{P:List B->Prop}:∀(ds:List D),(∀d∈ds,∀ρ,P ρ->∃ρ1 ρ2,g d ρ=some ρ1/\body ρ1=some (.nx ρ2)/\P ρ2)->∀ρ,P ρ->∃ρ',nH g body ds ρ=some (.nx ρ')/\P ρ'
 | [],_,ρ,h=>⟨ρ,rfl,h⟩
 | d::r,hs,ρ,h=>by
   obtain⟨ρ1,ρ2,e1,e2,h2⟩:=hs d Qh ρ h
   obtain⟨ρ',e,h'⟩:=zTG r (fun d hd=>hs d (Qd _ hd)) ρ2 h2
   exact⟨ρ',by rw[oU e1 e2];exact e,h'⟩
theorem zUL {g:Gf}{body:Sf}{P:Nat->List B->Prop}:∀(ds:List D) (n:Nat),(∀(i:Nat) (d:D),ds[i]?=some d->∀ρ,P (n+i) ρ->∃ρ1 ρ2,g d ρ=some ρ1/\body ρ1=some (.nx ρ2)/\P (n+i+1) ρ2)->∀ρ,P n ρ->∃ρ',nH g body ds ρ=some (.nx ρ')/\P (n+ds.length) ρ'
 | [],_,_,ρ,h=>⟨ρ,rfl,h⟩
 | d::r,n,hs,ρ,h=>by
   obtain⟨ρ1,ρ2,e1,e2,h2⟩:=hs 0 d rfl ρ h
   obtain⟨ρ',e,h'⟩:=zUL r (n+1) (fun i d hd ρ hρ=>by
     have q:=hs (i+1) d (by simpa using hd) ρ (by rw[show n+(i+1)=n+1+i by omega];exact hρ)
     rw[show n+(i+1)+1=n+1+i+1 by omega] at q
     exact q) ρ2 h2
   exact⟨ρ',by rw[oU e1 e2];exact e,by rw[Qo,show n+(r.length+1)=n+1+r.length by omega];exact h'⟩
theorem lD {lo:Int}{n:Nat}{d:D}(h:d∈tV lo n):∃i:Nat,i < n/\d = .int (lo+i):=by
 unfold tV at h
 obtain⟨i,hi,rfl⟩:=Wa.mp h
 exact⟨i,Rz.mp hi,rfl⟩
theorem zUr {lo:Int}{n i:Nat}{d:D}(h:(tV lo n)[i]?=some d):i < n/\d = .int (lo+i):=by
 have hl:(tV lo n).length=n:=by simp[tV]
 have hi:i < n:=by rw[←hl];exact(Qm.mp h).1
 unfold tV at h
 rw[Wp,List.getElem?_range hi] at h
 exact⟨hi,(Ep h).symm⟩
theorem uL (lo:Int)(n:Nat):(tV lo n).length=n:=by simp[tV]
theorem zUt {elt:Ef}{h:D->D}{rest:List B}:∀(ds:List D) (x0:B) (acc:List D),(∀d∈ds,elt (.fz d::rest)=some (h d))->uF (gN 0) tOK elt ds (x0::rest) acc=some (acc++ds.map h)
 | [],_,acc,_=>by simp[uF]
 | d::r,x0,acc,hh=>by
   unfold uF
   have e1:gN 0 d (x0::rest)=some (.fz d::rest):=rfl
   have e2:tOK (.fz d::rest)=some true:=rfl
   rw[e1,Qw,e2,Qw,Qb rfl,hh d Qh,Qw,zUt r _ _ fun q hq=>hh q (Qd _ hq)]
   simp
theorem zTq {α:Type}(p:α->Bool):∀l:List α,zOM (l.map fun c=>.bl (p c))=some (l.map p)
 | []=>rfl
 | x::r=>by rw[Qp,zOM,zTq p r];rfl
theorem rB {t:List D}(h:t.length<=100000):okL t=some t:=by
 unfold okL
 rw[Qb h]
theorem zNA {x:Str}(h:x.length<=100000):zSk (.str x)=some (.int x.length):=by
 show(if x.length<=lim then _ else none)=_
 rw[Qb h]
theorem gH {α:Type}(xs:List α)(i:Int)(d:α)(h0:0<=i)(h1:i < xs.length):atI xs i=some (xs.getD i.toNat d):=by
 unfold atI ixN
 rw[Qb h0,Qb h1]
 have:i.toNat < xs.length:=by omega
 simp[List.getD,this]
theorem rV {i j:Int}(h1 : -18446744073709551616 < i)(h2:i < 18446744073709551616):zZM i j=true:=by
 unfold zZM;simp only[Tj,Qx,Wh];exact .inl ⟨by omega,by omega⟩
theorem zMM {i j:Int}(h1 : -18446744073709551616 < j)(h2:j < 18446744073709551616):zZM i j=true:=by
 unfold zZM;simp only[Tj,Qx,Wh];exact .inr ⟨by omega,by omega⟩
theorem xU (x y:Str):(x++y).length=x.length+y.length:=Str.length_append x y
theorem zKN (c:Nat)(y:Str):gIn (.str ⟨#[c]⟩) (.str y)=some (decide (c∈y.cps.toList)):=by
 show some (!(Builtin.Str.occurrences y ⟨#[c]⟩ 0 y.length 1).isEmpty)=_
 rw[StrLaws.found_one]
theorem zSm {x y:Str}(h:x.length+y.length<=100000):zJ1 (.str x) (.str y)=some (.str (x++y)):=by
 show(if x.length+y.length<=lim then _ else none)=_
 rw[Qb h]
theorem zQP {x:Str}{i:Int}(h0:0<=i)(h1:i < x.length)(h:x.length<=100000):atD (.str x) (.int i)=some (.str ⟨#[x.cps.toList.getD i.toNat 0]⟩):=by
 have hl:x.cps.toList.length=x.length:=Ex
 show(if x.length<=lim then _ else none)=_
 rw[Qb h,gH _ i 0 h0 (by rw[hl];exact h1)]
 rfl
end L2
noncomputable section
namespace My
open PySem L2
abbrev zZA:Stmt:=top 62
abbrev sK:Stmt:=top 70
abbrev jT:Stmt:=top 67
abbrev fN:Stmt:=top 71
abbrev uZ:Stmt:=top 73
abbrev oQ:Stmt:=top 28
abbrev zZQ:Stmt:=top 27
abbrev gU:Stmt:=top 41
abbrev cJ:Stmt:=top 40
abbrev mN:Stmt:=top 8
abbrev kU:Stmt:=top 7
abbrev gY:Stmt:=top 42
abbrev zS1:Stmt:=top 30
abbrev jU:Stmt:=top 39
abbrev wR:Stmt:=top 26
abbrev lS:Stmt:=top 59
abbrev jH:Stmt:=top 56
abbrev zYG:Stmt:=top 5
abbrev mB:Stmt:=top 12
abbrev zXL:Stmt:=top 14
abbrev zYN:Stmt:=top 6
abbrev bM:Stmt:=top 4
abbrev zZN:Stmt:=top 13
abbrev eD:Stmt:=top 32
abbrev aR:Stmt:=top 31
abbrev cA:Stmt:=top 34
abbrev qR:Stmt:=top 35
abbrev zX6:Stmt:=top 43
abbrev kB:Stmt:=top 45
abbrev iV:Stmt:=top 58
abbrev mL:Stmt:=top 57
abbrev cI:Stmt:=top 55
abbrev lH:Stmt:=top 61
abbrev cN:Stmt:=top 68
abbrev mG:Stmt:=top 65
abbrev jB:Stmt:=top 66
abbrev oS:Stmt:=top 64
abbrev oG:Stmt:=top 69
abbrev cD:Stmt:=top 72
abbrev jK:Stmt:=top 74
abbrev lC:Stmt:=top 75
abbrev cL:Stmt:=top 76
abbrev cO:Stmt:=top 63
abbrev oJ:Stmt:=top 81
abbrev kK:Stmt:=top 80
abbrev sY:Stmt:=top 77
abbrev mT:Stmt:=top 78
abbrev zZK:Stmt:=top 79
abbrev zQH:Stmt:=top 82
abbrev eQ:Stmt:=sF (top 10) 0
abbrev kN:Stmt:=sF (top 11) 0
abbrev kW:Stmt:=sF (top 54) 0
set_option genInjectivity false
set_option genSizeOf false
set_option genSizeOfSpec false
structure Txt (w:World)(K:PySem.W.Frag)(mg:Str->Option Value) where
 q0:FnT K mg "_law_mix" zZA ["_law_cell","_law_factor"]
 q1:FnT K mg "_law_corners" sK ["_law_dims"]
 q2:FnT K mg "_law_turn" jT ["_law_number","_law_dims"]
 q3:FnT K mg "_law_loose" fN ["_law_dims","_law_cell"]
 q4:FnT K mg "_law_curve_rows" uZ ["_law_word_here","_law_joined_here","_law_dims","_law_parts"]
 q5:FnT K mg "is_made_of" oQ ["text","signs","longest"]
 q6:FnT K mg "is_word" zZQ ["text"]
 q7:FnT K mg "read_head" gU ["words"]
 q8:FnT K mg "words_at" cJ ["rows","row"]
 q9:FnT K mg "corner_of" mN ["text","dims"]
 q10:FnT K mg "turn_of" kU ["text","dims"]
 q11:FnT K mg "read_part" gY ["words","dims","row"]
 q12:FnT K mg "full" zS1 ["dims","level"]
 q13:FnT K mg "curve_from" jU ["rows"]
 f_number_of:Addr
 fd_number_of:FuncData
 F_number_of:FunD K "number_of" "number_of" wR f_number_of fd_number_of
 b_number_of:Binds K fd_number_of ["text","most"] []
 m_number_of:mg "number_of"=some (.ref f_number_of)
 bd_number_of:Binds K fd_number_of ["text","most"] [.none]
 q15:FnT K mg "number_from" lS ["text","least","most"]
 q16:FnT K mg "read_floor" jH ["words","dims","row"]
 q17:FnT K mg "still" zYG ["dims"]
 q18:FnT K mg "first_state" mB ["dims"]
 q19:FnT K mg "walked" zXL ["curve","back","number"]
 q20:FnT K mg "after" zYN ["one","other"]
 q21:FnT K mg "turned" bM ["turn","corner"]
 q22:FnT K mg "part_at" zZN ["curve","state","digit"]
 q23:FnT K mg "next_to" eD ["one","other"]
 q24:FnT K mg "deeper" aR ["place","corner"]
 q25:FnT K mg "unmet_at" cA ["curve","first"]
 q26:FnT K mg "meeting_of" qR ["curve"]
 q27:FnT K mg "fitted" zX6 ["curve"]
 q28:FnT K mg "place_of" kB ["text","dims"]
 q29:FnT K mg "read_value" iV ["kind","word","dims"]
 q30:FnT K mg "read_deed" mL ["words","dims","row"]
 q31:FnT K mg "scene_of" cI ["text"]
 q32:FnT K mg "_law_cell_at" lH ["_law_script","_law_k"]
 q33:FnT K mg "_law_base" cN ["_law_dims"]
 q34:FnT K mg "_law_after" mG ["_law_one","_law_other"]
 q35:FnT K mg "_law_undone" jB ["_law_turn_here"]
 q36:FnT K mg "_law_turned" oS ["_law_turn_here","_law_corner"]
 q37:FnT K mg "_law_joined" oG ["_law_dims","_law_number"]
 q38:FnT K mg "_law_word" cD ["_law_cell","_law_k"]
 q39:FnT K mg "_law_spot" jK ["_law_number","_law_dims","_law_level"]
 q40:FnT K mg "_law_box" lC ["_law_number","_law_dims","_law_level","_law_most"]
 q41:FnT K mg "_law_deed" cL ["_law_number","_law_dims","_law_level","_law_names","_law_most"]
 q42:FnT K mg "_law_same" cO ["_law_found","_law_due"]
 q43:FnT K mg "_law_raised" oJ ["_law_part"]
 q44:FnT K mg "_law_shut" kK ["_law_deed_here"]
 q45:FnT K mg "_law_place_text" sY ["_law_place"]
 q46:FnT K mg "_law_deed_row" mT ["_law_deed_here"]
 q47:FnT K mg "_law_far" zZK ["_law_deed_here","_law_cell","_law_number"]
 q48:FnT K mg "law" zQH ["_law_script"]
 C_Part:Addr
 fi_Part:Addr
 fdi_Part:FuncData
 ca_Part:ClsAt K "Part" C_Part
 cl_Part:Cls K C_Part
 mc_Part:mg "Part"=some (.ref C_Part)
 Fi_Part:Fun K "__init__" "Part.__init__" eQ fi_Part fdi_Part
 bi_Part:Binds K fdi_Part ["self","corner","turn","back"] []
 mk_Part:Mk K C_Part fi_Part
 n_Part_back:NoAttr K C_Part "back"
 n_Part_corner:NoAttr K C_Part "corner"
 n_Part_turn:NoAttr K C_Part "turn"
 C_Curve:Addr
 fi_Curve:Addr
 fdi_Curve:FuncData
 ca_Curve:ClsAt K "Curve" C_Curve
 cl_Curve:Cls K C_Curve
 mc_Curve:mg "Curve"=some (.ref C_Curve)
 Fi_Curve:Fun K "__init__" "Curve.__init__" kN fi_Curve fdi_Curve
 bi_Curve:Binds K fdi_Curve ["self","name","dims","joined","parts"] []
 mk_Curve:Mk K C_Curve fi_Curve
 n_Curve_dims:NoAttr K C_Curve "dims"
 n_Curve_joined:NoAttr K C_Curve "joined"
 n_Curve_name:NoAttr K C_Curve "name"
 n_Curve_parts:NoAttr K C_Curve "parts"
 C_Scene:Addr
 fi_Scene:Addr
 fdi_Scene:FuncData
 ca_Scene:ClsAt K "Scene" C_Scene
 cl_Scene:Cls K C_Scene
 mc_Scene:mg "Scene"=some (.ref C_Scene)
 Fi_Scene:Fun K "__init__" "Scene.__init__" kW fi_Scene fdi_Scene
 bi_Scene:Binds K fdi_Scene ["self","curve","level","size","deeds"] []
 mk_Scene:Mk K C_Scene fi_Scene
 n_Scene_curve:NoAttr K C_Scene "curve"
 n_Scene_deeds:NoAttr K C_Scene "deeds"
 n_Scene_level:NoAttr K C_Scene "level"
 n_Scene_size:NoAttr K C_Scene "size"
 t_BITS:Tok
 c_BITS:mg "BITS"=some (.str "01" t_BITS)
 t_FLIPS:Tok
 c_FLIPS:mg "FLIPS"=some (.str "+-" t_FLIPS)
 t_AXES:Tok
 c_AXES:mg "AXES"=some (.str "xyz" t_AXES)
 t_FIGURES:Tok
 c_FIGURES:mg "FIGURES"=some (.str "0123456789" t_FIGURES)
 t_LETTERS:Tok
 c_LETTERS:mg "LETTERS"=some (.str "abcdefghijklmnopqrstuvwxyz" t_LETTERS)
 t_LONGEST_NUMBER:Tok
 c_LONGEST_NUMBER:mg "LONGEST_NUMBER"=some (.int 60 t_LONGEST_NUMBER)
 t_LONGEST_WORD:Tok
 c_LONGEST_WORD:mg "LONGEST_WORD"=some (.int 12 t_LONGEST_WORD)
 da_PROMISES:Addr
 c_PROMISES:mg "PROMISES"=some (.ref da_PROMISES)
 dc_PROMISES:DictC w K da_PROMISES [("joined",.bl true),("loose",.bl false)]
 da_DIMS:Addr
 c_DIMS:mg "DIMS"=some (.ref da_DIMS)
 dc_DIMS:DictC w K da_DIMS [("2",.int 2),("3",.int 3)]
 da_MOST_LEVEL:Addr
 c_MOST_LEVEL:mg "MOST_LEVEL"=some (.ref da_MOST_LEVEL)
 dc_MOST_LEVEL:DictN K da_MOST_LEVEL [(2,.int 6),(3,.int 4)]
 t_LEAST_SIZE:Tok
 c_LEAST_SIZE:mg "LEAST_SIZE"=some (.int 4 t_LEAST_SIZE)
 t_MOST_SIZE:Tok
 c_MOST_SIZE:mg "MOST_SIZE"=some (.int 12 t_MOST_SIZE)
 t_LEAST_MANY:Tok
 c_LEAST_MANY:mg "LEAST_MANY"=some (.int 1 t_LEAST_MANY)
 t_MOST_MANY:Tok
 c_MOST_MANY:mg "MOST_MANY"=some (.int 999 t_MOST_MANY)
 t_MOST_DEEDS:Tok
 c_MOST_DEEDS:mg "MOST_DEEDS"=some (.int 400 t_MOST_DEEDS)
 da_FORMS:Addr
 c_FORMS:mg "FORMS"=some (.ref da_FORMS)
 dc_FORMS:DictX w K da_FORMS [("put",(.tup [.str "name",.str "place",.str "place"])),("move",(.tup [.str "name",.str "place",.str "place"])),("take",(.tup [.str "name"])),("names",(.tup [])),("where",(.tup [.str "name"])),("inside",(.tup [.str "place",.str "place"])),("meeting",(.tup [.str "place",.str "place"])),("near",(.tup [.str "place",.str "many"])),("sharing",(.tup [])),("number",(.tup [.str "place"])),("place",(.tup [.str "number"])),("spans",(.tup [.str "place",.str "place"])),("cover",(.tup [.str "place",.str "place",.str "many"]))]
 z_abs:mg "abs"=none
 z_all:mg "all"=none
 z_bool:mg "bool"=none
 z_enumerate:mg "enumerate"=none
 z_int:mg "int"=none
 z_isinstance:mg "isinstance"=none
 z_len:mg "len"=none
 z_list:mg "list"=none
 z_max:mg "max"=none
 z_min:mg "min"=none
 z_range:mg "range"=none
 z_reversed:mg "reversed"=none
 z_sorted:mg "sorted"=none
 z_str:mg "str"=none
 z_sum:mg "sum"=none
 z_tuple:mg "tuple"=none
 z_zip:mg "zip"=none
set_option genInjectivity true
set_option genSizeOf true
set_option genSizeOfSpec true
section
seal PySem.Sem.wp
variable {P:Program} {w:World} {K:PySem.W.Frag} {mg:Str->Option Value} {base:Heap}
theorem zNN:FnScope ["self","corner","turn","back"] ["self","corner","turn","back"] (zS eQ):=xY (by decide +kernel)
def zLm:Lf:=(zY (eV 1) (zY (eV 2) (zY (eV 3) zR)))
def zQy:List D->Option (List D):=fun ds=>zLm (zZD 4 ds)
theorem zNY (T:Txt w K mg):FnOk P w K mg base CX0 1 T.fi_Part T.fdi_Part ["self","corner","turn","back"] (spI K T.C_Part ["corner","turn","back"] 3 zQy) :=
 zVn (k:=0) T.Fi_Part zNN (by decide +kernel) (by decide) fun cdv A outer s H E hr =>
   (tO T.cl_Part T.n_Part_corner rfl (Or.inl rfl) (zU 1) (tO T.cl_Part T.n_Part_turn rfl (Or.inl rfl) (zU 2) (tO T.cl_Part T.n_Part_back rfl (Or.inl rfl) (zU 3) zUY)))
theorem zPX:FnScope ["self","name","dims","joined","parts"] ["self","name","dims","joined","parts"] (zS kN):=xY (by decide +kernel)
def zNa:Lf:=(zY (eV 1) (zY (eV 2) (zY (eV 3) (zY (eL (zYP (eV 4))) zR))))
def bC:List D->Option (List D):=fun ds=>zNa (zZD 5 ds)
theorem zPK (T:Txt w K mg):FnOk P w K mg base CX0 1 T.fi_Curve T.fdi_Curve ["self","name","dims","joined","parts"] (spI K T.C_Curve ["name","dims","joined","parts"] 4 bC) :=
 zVn (k:=0) T.Fi_Curve zPX (by decide +kernel) (by decide) fun cdv A outer s H E hr =>
   (tO T.cl_Curve T.n_Curve_name rfl (Or.inl rfl) (zU 1) (tO T.cl_Curve T.n_Curve_dims rfl (Or.inl rfl) (zU 2) (tO T.cl_Curve T.n_Curve_joined rfl (Or.inl rfl) (zU 3) (tO T.cl_Curve T.n_Curve_parts rfl (Or.inl rfl) (wB (zW0 rfl T.z_list (zU 4))) zUY))))
theorem zPW:FnScope ["self","curve","level","size","deeds"] ["self","curve","level","size","deeds"] (zS kW):=xY (by decide +kernel)
def zOb:Lf:=(zY (eV 1) (zY (eV 2) (zY (eV 3) (zY (eL (zYP (eV 4))) zR))))
def zY1:List D->Option (List D):=fun ds=>zOb (zZD 5 ds)
theorem zQt (T:Txt w K mg):FnOk P w K mg base CX0 1 T.fi_Scene T.fdi_Scene ["self","curve","level","size","deeds"] (spI K T.C_Scene ["curve","level","size","deeds"] 4 zY1) :=
 zVn (k:=0) T.Fi_Scene zPW (by decide +kernel) (by decide) fun cdv A outer s H E hr =>
   (tO T.cl_Scene T.n_Scene_curve rfl (Or.inl rfl) (zU 1) (tO T.cl_Scene T.n_Scene_level rfl (Or.inl rfl) (zU 2) (tO T.cl_Scene T.n_Scene_size rfl (Or.inl rfl) (zU 3) (tO T.cl_Scene T.n_Scene_deeds rfl (Or.inl rfl) (wB (zW0 rfl T.z_list (zU 4))) zUY))))
theorem zXS:FnScope ["_law_cell","_law_factor","_law_mixed"] ["_law_cell","_law_factor"] (zS zZA):=xY (by decide +kernel)
def zZm:Sf:=(yO (wW (xW (sJ (eV 2) (eV 2)) (eC (.int 2147483629))) (eC (.int 3))))
def eY:Sf:=(zP (yP 2 (xW (vV (sJ (eV 0) (eV 1)) (eC (.int 12345))) (eC (.int 2147483647))))
   (zZm))
def zW9:Sf :=
   (eY)
def wL:List D->Option D:=fnF 3 zW9
theorem tL (T:Txt w K mg):OkT P w base T.q0 1 2 wL :=
 xG (k:=0) T.q0.F zXS fun cdv A outer s H E hr =>
   (zV eY rfl (zK 2 zXS.nd (yC (vS (vE (zU 0) (zU 1)) zX) zX))
     (zT (zM (xN (yC (vE (zU 2) (zU 2)) zX) zX))))
theorem nL:FnScope ["_law_dims","_law_corners_here"] ["_law_dims"] (zS sK):=xY (by decide +kernel)
def zYV:Sf:=(zXW 1)
def iI:Sf:=(zP (sIf (eB2 gEq (eV 0) (eC (.int 3))) (kQ 1 (uT 1 (zTQ (yJ (iL (eV 1)) 2 [] (gT (zL (gN 0) (zL (gN 1) xP))) tOK (yW (zY (eV 0) (zY (eV 1) (zY (eC (.int 0)) zR))))) (yJ (iL (eV 1)) 2 [] (gT (zL (gN 0) (zL (gN 1) xP))) tOK (yW (zY (eV 0) (zY (eV 1) (zY (eC (.int 1)) zR)))))))) xT)
   (zYV))
def iO:Sf:=(zP (uT 1 (yA (zY (yW (zY (eC (.int 0)) (zY (eC (.int 0)) zR))) (zY (yW (zY (eC (.int 1)) (zY (eC (.int 0)) zR))) (zY (yW (zY (eC (.int 0)) (zY (eC (.int 1)) zR))) (zY (yW (zY (eC (.int 1)) (zY (eC (.int 1)) zR))) zR))))))
   (iI))
def zXu:Sf :=
   (iO)
def pT:List D->Option (List D):=fnL 2 zXu
theorem zXD (T:Txt w K mg):zPS P w base T.q1 1 1 pT :=
 zZO (k:=0) T.q1.F nL fun cdv A outer s H E hr =>
   (zV iO rfl (tM 1 nL.nd (yG (zZ (zN (zZ zX (zZ zX zW))) (zZ (zN (zZ zX (zZ zX zW))) (zZ (zN (zZ zX (zZ zX zW))) (zZ (zN (zZ zX (zZ zX zW))) zW))))))
     (zV iI rfl (yR (zF wC (zU 0) zX) (zT (uS 1 (tM 1 nL.nd (zJ7 (wE (zS sK) ["_law_dims","_law_corners_here"] ["_law_x","_law_y"] [] [] (zXh (xD (uI 0) (xD (uI 1) pS))) (zNx (zU 1)) rfl rfl rfl (by decide +kernel) (fun _ _ _ _=>(nK 2 rfl (zI (xQ 0 (show(List.Nodup (α:=PySem.Str) ["_law_x","_law_y"]) from by decide +kernel)) (zI (xQ 1 (show(List.Nodup (α:=PySem.Str) ["_law_x","_law_y"]) from by decide +kernel)) xL)) (yS (yS wZ)))) (fun _ _ _ _=>yH) (fun _ _ _ _=>(zN (zZ (zU 0) (zZ (zU 1) (zZ zX zW)))))) (wE (zS sK) ["_law_dims","_law_corners_here"] ["_law_x","_law_y"] [] [] (zXh (xD (uI 0) (xD (uI 1) pS))) (zNx (zU 1)) rfl rfl rfl (by decide +kernel) (fun _ _ _ _=>(nK 2 rfl (zI (xQ 0 (show(List.Nodup (α:=PySem.Str) ["_law_x","_law_y"]) from by decide +kernel)) (zI (xQ 1 (show(List.Nodup (α:=PySem.Str) ["_law_x","_law_y"]) from by decide +kernel)) xL)) (yS (yS wZ)))) (fun _ _ _ _=>yH) (fun _ _ _ _=>(zN (zZ (zU 0) (zZ (zU 1) (zZ zX zW)))))))))) zJ)
     (zT (zZZ 1))))
theorem mC:FnScope ["_law_number","_law_dims","_law_axes"] ["_law_number","_law_dims"] (zS jT):=xY (by decide +kernel)
def qZ:Sf:=(yO (wX (eL (yJ (iR (eV 1)) 1 [2,0] (gN 0) tOK (yW (zY (eIx (eV 1) (eV 0)) (zY (xW (wW (eV 2) (eIx (eL (yA (zY (eC (.int 1)) (zY (eC (.int 2)) (zY (eC (.int 4)) zR))))) (eV 0))) (eC (.int 2))) zR)))))))
def rA:Sf:=(zP (sIf (eB2 gEq (eV 1) (eC (.int 3))) (yP 2 (eIx (eL (yA (zY (eL (yA (zY (eC (.int 0)) (zY (eC (.int 1)) (zY (eC (.int 2)) zR))))) (zY (eL (yA (zY (eC (.int 0)) (zY (eC (.int 2)) (zY (eC (.int 1)) zR))))) (zY (eL (yA (zY (eC (.int 1)) (zY (eC (.int 0)) (zY (eC (.int 2)) zR))))) (zY (eL (yA (zY (eC (.int 1)) (zY (eC (.int 2)) (zY (eC (.int 0)) zR))))) (zY (eL (yA (zY (eC (.int 2)) (zY (eC (.int 0)) (zY (eC (.int 1)) zR))))) (zY (eL (yA (zY (eC (.int 2)) (zY (eC (.int 1)) (zY (eC (.int 0)) zR))))) zR)))))))) (xW (wW (eV 0) (eC (.int 8))) (eC (.int 6))))) (sIf (eB2 gEq (xW (wW (eV 0) (eC (.int 8))) (eC (.int 2))) (eC (.int 1))) (yP 2 (eL (yA (zY (eC (.int 1)) (zY (eC (.int 0)) zR))))) xT))
   (qZ))
def qW:Sf:=(zP (yP 2 (eL (yA (zY (eC (.int 0)) (zY (eC (.int 1)) zR)))))
   (rA))
def jV:Sf :=
   (qW)
def vT:List D->Option D:=fnF 3 jV
theorem zZv (T:Txt w K mg):OkT P w base T.q2 1 2 vT :=
 xG (k:=0) T.q2.F mC fun cdv A outer s H E hr =>
   (zV qW rfl (zK 2 mC.nd (wB (yG (zZ zX (zZ zX zW)))))
     (zV rA rfl (yR (zF wC (zU 1) zX) (zT (zK 2 mC.nd (yE (wB (yG (zZ (wB (yG (zZ zX (zZ zX (zZ zX zW))))) (zZ (wB (yG (zZ zX (zZ zX (zZ zX zW))))) (zZ (wB (yG (zZ zX (zZ zX (zZ zX zW))))) (zZ (wB (yG (zZ zX (zZ zX (zZ zX zW))))) (zZ (wB (yG (zZ zX (zZ zX (zZ zX zW))))) (zZ (wB (yG (zZ zX (zZ zX (zZ zX zW))))) zW)))))))) (yC (xN (zU 0) zX) zX)))) (zT (yR (zF wC (yC (xN (zU 0) zX) zX) zX) (zT (zK 2 mC.nd (wB (yG (zZ zX (zZ zX zW)))))) zJ)))
     (zT (zM (wH rfl T.z_tuple (wB (wE (zS jT) ["_law_number","_law_dims","_law_axes"] ["_law_k"] ["_law_axes","_law_number"] [2,0] (uI 0) (zZU rfl T.z_range (zU 1)) rfl rfl rfl (by decide +kernel) (fun _ _ _ _=>(xQ 0 (show(List.Nodup (α:=PySem.Str) ["_law_k","_law_axes","_law_number"]) from by decide +kernel))) (fun _ _ _ _=>yH) (fun _ _ _ _=>(zN (zZ (yE (zU 1) (zU 0)) (zZ (yC (xN (zU 2) (yE (wB (yG (zZ zX (zZ zX (zZ zX zW))))) (zU 0))) zX) zW)))))))))))
theorem rM:FnScope ["_law_dims","_law_cell","_law_left","_law_parts","_law_number","_law_corner"] ["_law_dims","_law_cell"] (zS fN):=xY (by decide +kernel)
def zWY:Sf:=(zXW 3)
def lY:Sf:=(zP (rG (zZT 2) (zP (yP 4 (zO 2 wL (zY (eV 1) (zY (vV (eC (.int 48271)) (sJ (eC (.int 997)) (gP 2))) zR))))
   (zP (zOH 5 2 (xW (eV 4) (gP 2)))
   (iC 3 (yW (zY (eV 5) (zY (zO 2 vT (zY (wW (eV 4) (eC (.int 8))) (zY (eV 0) zR))) (zY (vI (eB2 gEq (xW (wW (eV 4) (eC (.int 800))) (eC (.int 2))) (eC (.int 1)))) zR))))))) 100)
   (zWY))
def lX:Sf:=(zP (uT 3 (yA zR))
   (lY))
def pO:Sf:=(zP (uT 2 (sV 1 pT (zY (eV 0) zR)))
   (lX))
def zU2:Sf :=
   (pO)
def eR:List D->Option (List D):=fnL 6 zU2
theorem zVs (T:Txt w K mg):zPS P w base T.q3 2 2 eR :=
 zZO (k:=1) T.q3.F rM fun cdv A outer s H E hr =>
   (zV pO rfl (tM 2 rM.nd (zV1 (zXD T) hr (zZ (zU 0) zW)))
     (zV lX rfl (tM 3 rM.nd (yG zW))
     (zV lY rfl (zVT 100 Eg (zOq 2 hr) (wV (zK 4 rM.nd (xJ (tL T) hr (zZ (zU 1) (zZ (vS zX (vE zX (zUN 2 rfl T.z_len))) zW))))
     (wV (zKM 5 2 rM.nd (uB Wg PySem.F.slot_list_pop PySem.F.type_list_pop zOk (pv 2) (yY (yC (zU 4) (zUN 2 rfl T.z_len)) yK)))
     (zT (mS 3 (uB Wg Wl Wz vL (pv 3) (yY (zN (zZ (zU 5) (zZ (xJ (zZv T) hr (zZ (xN (zU 4) zX) (zZ (zU 0) zW))) (zZ (rF wC (yC (xN (zU 4) zX) zX) zX) zW)))) yK)))))))
     (zT (zZZ 3)))))
theorem wY:FnScope ["_law_word_here","_law_joined_here","_law_dims","_law_parts","_law_rows","_law_corner","_law_turn_here","_law_back","_law_row"] ["_law_word_here","_law_joined_here","_law_dims","_law_parts"] (zS uZ):=xY (by decide +kernel)
def pB:Sf:=(iC 4 (xX (eV 8) (eIx (eL (yA (zY (eC (.str "")) (zY (eC (.str " back")) zR)))) (sS (eV 7)))))
def sT:Sf:=(zP (yP 8 (xX (eV 8) (oZ (eC (.str "")) (yJ (iT (eV 6)) 2 [] (gT (zL (gN 0) (zL (gN 1) xP))) tOK (xX (eIx (eC (.str "+-")) (eV 1)) (eIx (eC (.str "xyz")) (eV 0)))))))
   (pB))
def wU:Sf:=(zP (yP 8 (xX (xX (eC (.str "part ")) (oZ (eC (.str "")) (yJ (iT (eV 5)) 1 [] (gN 0) tOK (sB (eV 0))))) (eC (.str " "))))
   (sT))
def cS:Sf:=(zXW 4)
def rY:Sf:=(zP (qO (iL (eV 3)) (gT (zL (gN 5) (zL (gN 6) (zL (gN 7) xP)))) (wU))
   (cS))
def uN:Sf:=(zP (uT 4 (yA (zY (xX (xX (xX (xX (xX (eC (.str "curve ")) (eV 0)) (eC (.str " "))) (eIx (eL (yA (zY (eC (.str "loose")) (zY (eC (.str "joined")) zR)))) (sS (eV 1)))) (eC (.str " "))) (sB (eV 2))) zR)))
   (rY))
def zZC:Sf :=
   (uN)
def qF:List D->Option (List D):=fnL 9 zZC
theorem aC (T:Txt w K mg):zPS P w base T.q4 1 4 qF :=
 zZO (k:=0) T.q4.F wY fun cdv A outer s H E hr =>
   (zV uN rfl (tM 4 wY.nd (yG (zZ (xC (xC (xC (xC (xC yQ (zU 0)) yQ) (yE (wB (yG (zZ yQ (zZ yQ zW)))) (fS rfl T.z_int (zU 1)))) yQ) (bV rfl T.z_str (zU 2))) zW)))
     (zV rY rfl (sH Eg rfl (zNx (zU 3)) (nK 3 rfl (zI (xQ 5 wY.nd) (zI (xQ 6 wY.nd) (zI (xQ 7 wY.nd) xL))) (yS (yS (yS wZ)))) (zV wU rfl (zK 8 wY.nd (xC (xC yQ (aM (uB Et Tt Tu bG yQ (yY (aB (wE (zS uZ) ["_law_word_here","_law_joined_here","_law_dims","_law_parts","_law_rows","_law_corner","_law_turn_here","_law_back","_law_row"] ["_law_bit"] [] [] (uI 0) (zXe (zU 5)) rfl rfl rfl (by decide +kernel) (fun _ _ _ _=>(xQ 0 (show(List.Nodup (α:=PySem.Str) ["_law_bit"]) from by decide +kernel))) (fun _ _ _ _=>yH) (fun _ _ _ _=>(bV rfl T.z_str (zU 0))))) yK)))) yQ))
     (zV sT rfl (zK 8 wY.nd (xC (zU 8) (aM (uB Et Tt Tu bG yQ (yY (aB (wE (zS uZ) ["_law_word_here","_law_joined_here","_law_dims","_law_parts","_law_rows","_law_corner","_law_turn_here","_law_back","_law_row"] ["_law_axis","_law_flip"] [] [] (zXh (xD (uI 0) (xD (uI 1) pS))) (zXe (zU 6)) rfl rfl rfl (by decide +kernel) (fun _ _ _ _=>(nK 2 rfl (zI (xQ 0 (show(List.Nodup (α:=PySem.Str) ["_law_axis","_law_flip"]) from by decide +kernel)) (zI (xQ 1 (show(List.Nodup (α:=PySem.Str) ["_law_axis","_law_flip"]) from by decide +kernel)) xL)) (yS (yS wZ)))) (fun _ _ _ _=>yH) (fun _ _ _ _=>(xC (yE yQ (zU 1)) (yE yQ (zU 0)))))) yK)))))
     (zT (mS 4 (uB Wg Wl Wz vL (pv 4) (yY (xC (zU 8) (yE (wB (yG (zZ yQ (zZ yQ zW)))) (fS rfl T.z_int (zU 7)))) yK)))))))
     (zT (zZZ 4))))
theorem zXd:FnScope ["text","signs","longest"] ["text","signs","longest"] (zS oQ):=xY (by decide +kernel)
def zXx:Sf:=(yO (iF (vI (eB3 gLe gLe (eC (.int 1)) (xB (eV 0)) (eV 2))) (zP6 (eL (yJ (iS (eV 0)) 1 [1] (gN 0) tOK (vI (eB2 gIn (eV 0) (eV 1))))))))
def zVe:Sf :=
   (zXx)
def w9:List D->Option D:=fnF 3 zVe
theorem dB (T:Txt w K mg):OkT P w base T.q5 1 3 w9 :=
 xG (k:=0) T.q5.F zXd fun cdv A outer s H E hr =>
   (zT (zM (zXF (zMG zKz zKz zX (vU rfl T.z_len (zU 0)) (zU 2)) (zVo (zJA rfl rfl T.z_all (wB (wE (zS oQ) ["text","signs","longest"] ["sign"] ["signs"] [1] (uI 0) (zLI (zU 0)) rfl rfl rfl (by decide +kernel) (fun _ _ _ _=>(xQ 0 (show(List.Nodup (α:=PySem.Str) ["sign","signs"]) from by decide +kernel))) (fun _ _ _ _=>yH) (fun _ _ _ _=>(rF zHZ (zU 0) (zU 1))))))))))
theorem zSv:FnScope ["text"] ["text"] (zS zZQ):=xY (by decide +kernel)
def zTF:Sf:=(yO (zO 3 w9 (zY (eV 0) (zY (eC (.str "abcdefghijklmnopqrstuvwxyz")) (zY (eC (.int 12)) zR)))))
def zQh:Sf :=
   (zTF)
def lA:List D->Option D:=fnF 1 zQh
theorem zX0 (T:Txt w K mg):OkT P w base T.q6 2 1 lA :=
 xG (k:=1) T.q6.F zSv fun cdv A outer s H E hr =>
   (zT (zM (xJ (dB T) hr (zZ (zU 0) (zZ (aS rfl T.c_LETTERS) (zZ (jE rfl T.c_LONGEST_WORD) zW))))))
theorem zVC:FnScope ["words"] ["words"] (zS gU):=xY (by decide +kernel)
def zXq:Sf:=(yO (yW (zY (eIx (eV 0) (eC (.int 1))) (zY (cM [("joined",.bl true),("loose",.bl false)] (eIx (eV 0) (eC (.int 2)))) (zY (cM [("2",.int 2),("3",.int 3)] (eIx (eV 0) (eC (.int 3)))) zR)))))
def dC:Sf:=(zP (sIf (nE (zVR false [("joined",.bl true),("loose",.bl false)] (eIx (eV 0) (eC (.int 2)))) (zVR false [("2",.int 2),("3",.int 3)] (eIx (eV 0) (eC (.int 3))))) (fun _=>none) xT)
   (zXq))
def pR:Sf:=(zP (sIf (nE (eB2 gNe (xB (eV 0)) (eC (.int 4))) (nE (eB2 gNe (eIx (eV 0) (eC (.int 0))) (eC (.str "curve"))) (sO (tB1 (zO 1 lA (zY (eIx (eV 0) (eC (.int 1))) zR)))))) (fun _=>none) xT)
   (dC))
def zT3:Sf :=
   (pR)
def mK:List D->Option D:=fnF 1 zT3
theorem zVv (T:Txt w K mg):OkT P w base T.q7 3 1 mK :=
 xG (k:=2) T.q7.F zVC fun cdv A outer s H E hr =>
   (zV pR rfl (yR (kY (sC (zF dR (vU rfl T.z_len (zU 0)) zX) (sC (zF dR (yE (zU 0) zX) yQ) (tX (aQ (vR (xJ (zX0 T) hr (zZ (yE (zU 0) zX) zW)))))))) (zT uJ) zJ)
     (zV dC rfl (yR (kY (sC (zWa T.dc_PROMISES rfl T.c_PROMISES (yE (zU 0) zX)) (tX (zWa T.dc_DIMS rfl T.c_DIMS (yE (zU 0) zX))))) (zT uJ) zJ)
     (zT (zM (zN (zZ (yE (zU 0) zX) (zZ (zNL T.dc_PROMISES rfl T.c_PROMISES (yE (zU 0) zX)) (zZ (zNL T.dc_DIMS rfl T.c_DIMS (yE (zU 0) zX)) zW))))))))
theorem zSS:FnScope ["rows","row"] ["rows","row"] (zS cJ):=xY (by decide +kernel)
def aA:Sf:=(zT8 (jA (eIx (eV 0) (rO (eV 1) (eC (.int 1)))) (eC (.str " "))))
def oY:Sf:=(zP (sIf (eB2 gGt (eV 1) (xB (eV 0))) (fun _=>none) xT)
   (aA))
def zSx:Sf :=
   (oY)
def vD:List D->Option (List D):=fnL 2 zSx
theorem mD (T:Txt w K mg):zPS P w base T.q8 3 2 vD :=
 zZO (k:=2) T.q8.F zSS fun cdv A outer s H E hr =>
   (zV oY rfl (yR (zF zK7 (zU 1) (vU rfl T.z_len (zU 0))) (zT uJ) zJ)
     (zT (zRh (zYo (uB Et Uy Uu zX8 (yE (zU 0) (qG (zU 1) zX)) (yY yQ yK))))))
theorem bD:FnScope ["text","dims","bits"] ["text","dims"] (zS mN):=xY (by decide +kernel)
def zXr:Sf:=(yO (wX (eV 2)))
def dI:Sf:=(zP (kQ 2 (sIf (nE (eB2 gNe (xB (eV 2)) (eV 1)) (eB2 zUm (zKW (eC (.int 1))) (eV 2))) (yO (eC .non)) xT))
   (zXr))
def cY:Sf:=(zP (uT 2 (yJ (iS (eV 0)) 1 [] (gN 0) tOK (zTT (eC (.str "01")) (eV 0))))
   (dI))
def zTx:Sf :=
   (cY)
def zZn:List D->Option D:=fnF 3 zTx
theorem zVK (T:Txt w K mg):OkT P w base T.q9 1 2 zZn :=
 xG (k:=0) T.q9.F bD fun cdv A outer s H E hr =>
   (zV cY rfl (tR (zS mN) ["text","dims","bits"] ["sign"] [] [] (uI 0) 2 bD.nd rfl rfl (zLI (zU 0)) rfl rfl rfl (by decide +kernel) (fun _ _ _ _=>(xQ 0 (show(List.Nodup (α:=PySem.Str) ["sign"]) from by decide +kernel))) (fun _ _ _ _=>yH) (fun _ _ _ _=>(zUF (uB Et Uf Ug zVL (aS rfl T.c_BITS) (yY (zU 0) yK)))))
     (zV dI rfl (uS 2 (yR (kY (sC (zF dR (vU rfl T.z_len (zU 2)) (zU 1)) (tX (zF zRK (zMy zX) (zU 2))))) (zT (zM wF)) zJ))
     (zT (zM (wH rfl T.z_tuple (zU 2))))))
theorem cR:FnScope ["text","dims","flips","axes"] ["text","dims"] (zS kU):=xY (by decide +kernel)
def zTA:Sf:=(yO (zUG (eV 3) (eV 2)))
def zZf:Sf:=(zP (kQ 2 (kQ 3 (sIf (nE (eB2 zUm (zKW (eC (.int 1))) (eV 2)) (eB2 zPN (eL (zVM (iL (eV 3)))) (eL (zS9 (eV 1))))) (yO (eC .non)) xT)))
   (zTA))
def zYZ:Sf:=(zP (uT 3 (yJ (iS (zRv (eV 0) (eC (.int 1)) (eC (.int 2)))) 1 [] (gN 0) tOK (zTT (eC (.str "xyz")) (eV 0))))
   (zZf))
def zZh:Sf:=(zP (uT 2 (yJ (iS (zRv (eV 0) (eC (.int 0)) (eC (.int 2)))) 1 [] (gN 0) tOK (zTT (eC (.str "+-")) (eV 0))))
   (zYZ))
def zZl:Sf:=(zP (sIf (eB2 zPN (xB (eV 0)) (sJ (eC (.int 2)) (eV 1))) (yO (eC .non)) xT)
   (zZh))
def zPM:Sf :=
   (zZl)
def zVS:List D->Option D:=fnF 4 zPM
theorem zSy (T:Txt w K mg):OkT P w base T.q10 1 2 zVS :=
 xG (k:=0) T.q10.F cR fun cdv A outer s H E hr =>
   (zV zZl rfl (yR (zF (zVa hr) (vU rfl T.z_len (zU 0)) (vE zX (zU 1))) (zT (zM wF)) zJ)
     (zV zZh rfl (tR (zS kU) ["text","dims","flips","axes"] ["sign"] [] [] (uI 0) 2 cR.nd rfl rfl (zLI (zSO (zU 0) zX zX)) rfl rfl rfl (by decide +kernel) (fun _ _ _ _=>(xQ 0 (show(List.Nodup (α:=PySem.Str) ["sign"]) from by decide +kernel))) (fun _ _ _ _=>yH) (fun _ _ _ _=>(zUF (uB Et Uf Ug zVL (aS rfl T.c_FLIPS) (yY (zU 0) yK)))))
     (zV zYZ rfl (tR (zS kU) ["text","dims","flips","axes"] ["letter"] [] [] (uI 0) 3 cR.nd rfl rfl (zLI (zSO (zU 0) zX zX)) rfl rfl rfl (by decide +kernel) (fun _ _ _ _=>(xQ 0 (show(List.Nodup (α:=PySem.Str) ["letter"]) from by decide +kernel))) (fun _ _ _ _=>yH) (fun _ _ _ _=>(zUF (uB Et Uf Ug zVL (aS rfl T.c_AXES) (yY (zU 0) yK)))))
     (zV zZf rfl (uS 2 (uS 3 (yR (kY (sC (zF zRK (zMy zX) (zU 2)) (tX (zF (zVa hr) (wB (zPQ rfl T.z_sorted (zZs (zU 3)))) (wB (zN6 rfl rfl T.z_list rfl T.z_range (zU 1))))))) (zT (zM wF)) zJ)))
     (zT (zM (zOR rfl rfl T.z_tuple rfl T.z_zip (zU 3) (zU 2))))))))
theorem oK:FnScope ["words","dims","row","back","corner","turn"] ["words","dims","row"] (zS gY):=xY (by decide +kernel)
def zWM:Sf:=(yO (zZj "Part" ["corner","turn","back"] 3 zQy (zY (eV 4) (zY (eV 5) (zY (eV 3) zR)))))
def dL:Sf:=(zP (sIf (nE (eB2 hZ (eV 4) (eC .non)) (eB2 hZ (eV 5) (eC .non))) (fun _=>none) xT)
   (zWM))
def dG:Sf:=(zP (yP 5 (zO 2 zVS (zY (eIx (eV 0) (eC (.int 2))) (zY (eV 1) zR))))
   (dL))
def cX:Sf:=(zP (yP 4 (zO 2 zZn (zY (eIx (eV 0) (eC (.int 1))) (zY (eV 1) zR))))
   (dG))
def dD:Sf:=(zP (sIf (nE (eB2 zPN (eIx (eV 0) (eC (.int 0))) (eC (.str "part"))) (eB2 zPN (xB (eV 0)) (eIf (tB1 (eV 3)) (eC (.int 4)) (eC (.int 3))))) (fun _=>none) xT)
   (cX))
def dS:Sf:=(zP (yP 3 (vI (eB2 zMV (eL (lT (eV 0) (tT (eC (.int 3))) oNo)) (eL (yA (zY (eC (.str "back")) zR))))))
   (dD))
def zTE:Sf :=
   (dS)
def pK:List D->Option D:=fnF 6 zTE
theorem zVB (T:Txt w K mg):OkT P w base T.q11 3 3 pK :=
 xG (k:=2) T.q11.F oK fun cdv A outer s H E hr =>
   (zV dS rfl (zK 3 oK.nd (rF (zVj hr) (wB (zY8 (zU 0) (dO zX) zW8)) (wB (yG (zZ yQ zW)))))
     (zV dD rfl (yR (kY (sC (zF (zVa hr) (yE (zU 0) zX) yQ) (tX (zF (zVa hr) (vU rfl T.z_len (zU 0)) (zVZ (vR (zU 3)) zX zX))))) (zT uJ) zJ)
     (zV cX rfl (zK 4 oK.nd (xJ (zVK T) hr (zZ (yE (zU 0) zX) (zZ (zU 1) zW))))
     (zV dG rfl (zK 5 oK.nd (xJ (zSy T) hr (zZ (yE (zU 0) zX) (zZ (zU 1) zW))))
     (zV dL rfl (yR (kY (sC (zF pH (zU 4) wF) (tX (zF pH (zU 5) wF)))) (zT uJ) zJ)
     (zT (zM (zVE T.ca_Part T.mk_Part (zNY T) (hr.mono (by omega)) T.mc_Part T.bi_Part rfl (zZ (zU 4) (zZ (zU 5) (zZ (zU 3) zW)))))))))))
theorem zYH:FnScope ["dims","level","places","halving"] ["dims","level"] (zS zS1):=xY (by decide +kernel)
def zPe:Sf:=(yP 2 (sJ (eV 2) (eC (.int 2))))
def zNy:Sf:=(yO (eV 2))
def zUq:Sf:=(zP (qO (iR (sJ (eV 0) (eV 1))) (gN 3) (zPe))
   (zNy))
def zTX:Sf:=(zP (yP 2 (eC (.int 1)))
   (zUq))
def zII:Sf :=
   (zTX)
def zYd:List D->Option D:=fnF 4 zII
theorem zLV (T:Txt w K mg):OkT P w base T.q12 1 2 zYd :=
 xG (k:=0) T.q12.F zYH fun cdv A outer s H E hr =>
   (zV zTX rfl (zK 2 zYH.nd zX)
     (zV zUq rfl (sH Eg rfl (zZU rfl T.z_range (vE (zU 0) (zU 1))) (xQ 3 zYH.nd) (zT (zK 2 zYH.nd (vE (zU 2) zX))))
     (zT (zM (zU 2)))))
theorem w4:FnScope ["rows","name","joined","dims","parts","seen","row","part"] ["rows"] (zS jU):=xY (by decide +kernel)
def iG:Sf:=(iC 4 (eV 7))
def pG:Sf:=(zP (zZq 5 (wM "Part" "corner" (eV 7)) (eC (.bl true)))
   (iG))
def pD:Sf:=(zP (sIf (zVd 5 (wM "Part" "corner" (eV 7))) (fun _=>none) xT)
   (pG))
def uM:Sf:=(zP (yP 7 (zO 3 pK (zY (eL (sV 2 vD (zY (eV 0) (zY (eV 6) zR)))) (zY (eV 3) (zY (eV 6) zR)))))
   (pD))
def zXC:Sf:=(kQ 4 (yO (zZj "Curve" ["name","dims","joined","parts"] 4 bC (zY (eV 1) (zY (eV 3) (zY (eV 2) (zY (eV 4) zR)))))))
def nQ:Sf:=(zP (qO (iR2 (eC (.int 2)) (vV (eC (.int 2)) (zO 2 zYd (zY (eV 3) (zY (eC (.int 1)) zR))))) (gN 6) (uM))
   (zXC))
def mW:Sf:=(zP (zND 5)
   (nQ))
def nG:Sf:=(zP (uT 4 (yA zR))
   (mW))
def qQ:Sf:=(zP (mO (zO 1 mK (zY (eL (sV 2 vD (zY (eV 0) (zY (eC (.int 1)) zR)))) zR)) (gT (zL (gN 1) (zL (gN 2) (zL (gN 3) xP)))))
   (nG))
def zVr:Sf :=
   (qQ)
def kH:List D->Option D:=fnF 8 zVr
theorem zXb (T:Txt w K mg):OkT P w base T.q13 4 1 kH :=
 xG (k:=3) T.q13.F w4 fun cdv A outer s H E hr =>
   (zV qQ rfl (oM (xJ (zVv T) hr (zZ (wB (zV1 (mD T) hr (zZ (zU 0) (zZ zX zW)))) zW)) (nK 3 rfl (zI (xQ 1 w4.nd) (zI (xQ 2 w4.nd) (zI (xQ 3 w4.nd) xL))) (yS (yS (yS wZ)))))
     (zV nG rfl (tM 4 w4.nd (yG zW))
     (zV mW rfl (zQL 5 w4.nd)
     (zV nQ rfl (sH Eg rfl (zK9 rfl T.z_range zX (vS zX (xJ (zLV T) hr (zZ (zU 3) (zZ zX zW))))) (xQ 6 w4.nd) (zV uM rfl (zK 7 w4.nd (xJ (zVB T) hr (zZ (wB (zV1 (mD T) hr (zZ (zU 0) (zZ (zU 6) zW)))) (zZ (zU 3) (zZ (zU 6) zW)))))
     (zV pD rfl (yR (zNQ 5 hr (tP T.ca_Part T.cl_Part T.n_Part_corner (zU 7))) (zT uJ) zJ)
     (zV pG rfl (zRo 5 hr iH (tP T.ca_Part T.cl_Part T.n_Part_corner (zU 7)))
     (zT (mS 4 (uB Wg Wl Wz vL (pv 4) (yY (zU 7) yK))))))))
     (zT (uS 4 (zM (zVE T.ca_Curve T.mk_Curve (zPK T) (hr.mono (by omega)) T.mc_Curve T.bi_Curve rfl (zZ (zU 1) (zZ (zU 3) (zZ (zU 2) (zZ (zU 4) zW))))))))))))
theorem bW:FnScope ["text","most","number"] ["text","most"] (zS wR):=xY (by decide +kernel)
def dE:Sf:=(yO (eV 2))
def uG:Sf:=(zP (sIf (rP (eB2 nC (eV 1) (eC .non)) (eB2 gGt (eV 2) (eV 1))) (yO (eC .non)) xT)
   (dE))
def sQ:Sf:=(zP (yP 2 (sS (eV 0)))
   (uG))
def vX:Sf:=(zP (sIf (rP (eB2 gEq (eIx (eV 0) (eC (.int 0))) (eC (.str "0"))) (eB2 gNe (eV 0) (eC (.str "0")))) (yO (eC .non)) xT)
   (sQ))
def lK:Sf:=(zP (sIf (sO (tB1 (zO 3 w9 (zY (eV 0) (zY (eC (.str "0123456789")) (zY (eC (.int 60)) zR)))))) (yO (eC .non)) xT)
   (vX))
def b_number_of:Sf :=
   (lK)
def uV:List D->Option D:=fnF 3 b_number_of
theorem oH (T:Txt w K mg):FnOk P w K mg base CX0 2 T.f_number_of T.fd_number_of ["text","most"] (spF K 2 uV) :=
 zJF (k:=1) T.F_number_of bW fun cdv A outer s H E hr =>
   (zV lK rfl (yR (aQ (vR (xJ (dB T) hr (zZ (zU 0) (zZ (aS rfl T.c_FIGURES) (zZ (jE rfl T.c_LONGEST_NUMBER) zW)))))) (zT (zM wF)) zJ)
     (zV vX rfl (yR (kY (eF (zF wC (yE (zU 0) zX) yQ) (kO (zF dR (zU 0) yQ)))) (zT (zM wF)) zJ)
     (zV sQ rfl (zK 2 bW.nd (fS rfl T.z_int (zU 0)))
     (zV uG rfl (yR (kY (eF (zF zXB (zU 1) wF) (kO (zF zK7 (zU 2) (zU 1))))) (zT (zM wF)) zJ)
     (zT (zM (zU 2)))))))
def uQ:List D->Option D:=fun ds=>uV (ds++[.non])
theorem gW:FnScope ["text","least","most","number"] ["text","least","most"] (zS lS):=xY (by decide +kernel)
def iJ:Sf:=(yO (eIf (nE (eB2 hZ (eV 3) (eC .non)) (eB2 gLt (eV 3) (eV 1))) (eC .non) (eV 3)))
def sE:Sf:=(zP (yP 3 (zO 2 uV (zY (eV 0) (zY (eV 2) zR))))
   (iJ))
def zWT:Sf :=
   (sE)
def pP:List D->Option D:=fnF 4 zWT
theorem fX (T:Txt w K mg):OkT P w base T.q15 3 3 pP :=
 xG (k:=2) T.q15.F gW fun cdv A outer s H E hr =>
   (zV sE rfl (zK 3 gW.nd (zVH (oH T) (hr.mono (by omega)) T.m_number_of T.F_number_of.kp T.b_number_of rfl (zZ (zU 0) (zZ (zU 2) zW))))
     (zT (zM (zVZ (kY (sC (zF pH (zU 3) wF) (tX (zF zTL (zU 3) (zU 1))))) wF (zU 3)))))
theorem lJ:FnScope ["words","dims","row","level","size"] ["words","dims","row"] (zS jH):=xY (by decide +kernel)
def zXR:Sf:=(yO (yW (zY (eV 3) (zY (eV 4) zR))))
def gE:Sf:=(zP (sIf (nE (eB2 hZ (eV 3) (eC .non)) (eB2 hZ (eV 4) (eC .non))) (fun _=>none) xT)
   (zXR))
def gM:Sf:=(zP (yP 4 (zO 3 pP (zY (eIx (eV 0) (eC (.int 2))) (zY (eC (.int 4)) (zY (eC (.int 12)) zR)))))
   (gE))
def fE:Sf:=(zP (yP 3 (zO 2 uV (zY (eIx (eV 0) (eC (.int 1))) (zY (zJH [(2,.int 6),(3,.int 4)] (eV 1)) zR))))
   (gM))
def fZ:Sf:=(zP (sIf (nE (eB2 gNe (xB (eV 0)) (eC (.int 3))) (eB2 gNe (eIx (eV 0) (eC (.int 0))) (eC (.str "floor")))) (fun _=>none) xT)
   (fE))
def zVb:Sf :=
   (fZ)
def qX:List D->Option D:=fnF 5 zVb
theorem zWX (T:Txt w K mg):OkT P w base T.q16 4 3 qX :=
 xG (k:=3) T.q16.F lJ fun cdv A outer s H E hr =>
   (zV fZ rfl (yR (kY (sC (zF dR (vU rfl T.z_len (zU 0)) zX) (tX (zF dR (yE (zU 0) zX) yQ)))) (zT uJ) zJ)
     (zV fE rfl (zK 3 lJ.nd (zVH (oH T) (hr.mono (by omega)) T.m_number_of T.F_number_of.kp T.b_number_of rfl (zZ (yE (zU 0) zX) (zZ (zJn T.dc_MOST_LEVEL rfl T.c_MOST_LEVEL (zU 1)) zW))))
     (zV gM rfl (zK 4 lJ.nd (xJ (fX T) hr (zZ (yE (zU 0) zX) (zZ (jE rfl T.c_LEAST_SIZE) (zZ (jE rfl T.c_MOST_SIZE) zW)))))
     (zV gE rfl (yR (kY (sC (zF pH (zU 3) wF) (tX (zF pH (zU 4) wF)))) (zT uJ) zJ)
     (zT (zM (zN (zZ (zU 3) (zZ (zU 4) zW)))))))))
theorem zNX:FnScope ["dims"] ["dims"] (zS zYG):=xY (by decide +kernel)
def zOW:Sf:=(yO (wX (eL (yJ (iR (eV 0)) 1 [] (gN 0) tOK (yW (zY (eV 0) (zY (eC (.int 0)) zR)))))))
def zLN:Sf :=
   (zOW)
def zQ1:List D->Option D:=fnF 1 zLN
theorem zO6 (T:Txt w K mg):OkT P w base T.q17 1 1 zQ1 :=
 xG (k:=0) T.q17.F zNX fun cdv A outer s H E hr =>
   (zT (zM (wH rfl T.z_tuple (wB (wE (zS zYG) ["dims"] ["axis"] [] [] (uI 0) (zZU rfl T.z_range (zU 0)) rfl rfl rfl (by decide +kernel) (fun _ _ _ _=>(xQ 0 (show(List.Nodup (α:=PySem.Str) ["axis"]) from by decide +kernel))) (fun _ _ _ _=>yH) (fun _ _ _ _=>(zN (zZ (zU 0) (zZ zX zW)))))))))
theorem zYx:FnScope ["dims"] ["dims"] (zS mB):=xY (by decide +kernel)
def zYR:Sf:=(yO (yW (zY (zO 1 zQ1 (zY (eV 0) zR)) (zY (eC (.bl false)) zR))))
def zWS:Sf :=
   (zYR)
def lZ:List D->Option D:=fnF 1 zWS
theorem zXJ (T:Txt w K mg):OkT P w base T.q18 2 1 lZ :=
 xG (k:=1) T.q18.F zYx fun cdv A outer s H E hr =>
   (zT (zM (zN (zZ (xJ (zO6 T) hr (zZ (zU 0) zW)) (zZ iH zW)))))
theorem zPf:FnScope ["curve","back","number"] ["curve","back","number"] (zS zXL):=xY (by decide +kernel)
def zSw:Sf:=(yO (eIf (tB1 (eV 1)) (rO (rO (xB (wM "Curve" "parts" (eV 0))) (eC (.int 1))) (eV 2)) (eV 2)))
def zME:Sf :=
   (zSw)
def gJ:List D->Option D:=fnF 3 zME
theorem zQg (T:Txt w K mg):OkT P w base T.q19 1 3 gJ :=
 xG (k:=0) T.q19.F zPf fun cdv A outer s H E hr =>
   (zT (zM (zVZ (vR (zU 1)) (qG (qG (vU rfl T.z_len (tP T.ca_Curve T.cl_Curve T.n_Curve_parts (zU 0))) zX) (zU 2)) (zU 2))))
theorem zMP:FnScope ["one","other"] ["one","other"] (zS zYN):=xY (by decide +kernel)
def zWI:Sf:=(yO (wX (eL (yJ (iT (eV 0)) 2 [1] (gT (zL (gN 0) (zL (gN 1) xP))) tOK (yW (zY (eIx (eIx (eV 2) (eV 0)) (eC (.int 0))) (zY (zVl (eIx (eIx (eV 2) (eV 0)) (eC (.int 1))) (eV 1)) zR)))))))
def zQY:Sf :=
   (zWI)
def kA:List D->Option D:=fnF 2 zQY
theorem zMu (T:Txt w K mg):OkT P w base T.q20 1 2 kA :=
 xG (k:=0) T.q20.F zMP fun cdv A outer s H E hr =>
   (zT (zM (wH rfl T.z_tuple (wB (wE (zS zYN) ["one","other"] ["axis","flip"] ["other"] [1] (zXh (xD (uI 0) (xD (uI 1) pS))) (zXe (zU 0)) rfl rfl rfl (by decide +kernel) (fun _ _ _ _=>(nK 2 rfl (zI (xQ 0 (show(List.Nodup (α:=PySem.Str) ["axis","flip","other"]) from by decide +kernel)) (zI (xQ 1 (show(List.Nodup (α:=PySem.Str) ["axis","flip","other"]) from by decide +kernel)) xL)) (yS (yS wZ)))) (fun _ _ _ _=>yH) (fun _ _ _ _=>(zN (zZ (yE (yE (zU 2) (zU 0)) zX) (zZ (zV8 (yE (yE (zU 2) (zU 0)) zX) (zU 1)) zW)))))))))
theorem zP0:FnScope ["turn","corner"] ["turn","corner"] (zS bM):=xY (by decide +kernel)
def zY0:Sf:=(yO (wX (eL (yJ (iT (eV 0)) 2 [1] (gT (zL (gN 0) (zL (gN 1) xP))) tOK (zVl (eIx (eV 2) (eV 0)) (eV 1))))))
def zTW:Sf :=
   (zY0)
def nB:List D->Option D:=fnF 2 zTW
theorem zOL (T:Txt w K mg):OkT P w base T.q21 1 2 nB :=
 xG (k:=0) T.q21.F zP0 fun cdv A outer s H E hr =>
   (zT (zM (wH rfl T.z_tuple (wB (wE (zS bM) ["turn","corner"] ["axis","flip"] ["corner"] [1] (zXh (xD (uI 0) (xD (uI 1) pS))) (zXe (zU 0)) rfl rfl rfl (by decide +kernel) (fun _ _ _ _=>(nK 2 rfl (zI (xQ 0 (show(List.Nodup (α:=PySem.Str) ["axis","flip","corner"]) from by decide +kernel)) (zI (xQ 1 (show(List.Nodup (α:=PySem.Str) ["axis","flip","corner"]) from by decide +kernel)) xL)) (yS (yS wZ)))) (fun _ _ _ _=>yH) (fun _ _ _ _=>(zV8 (yE (zU 2) (zU 0)) (zU 1))))))))
theorem mQ:FnScope ["curve","state","digit","turn","back","part","inner"] ["curve","state","digit"] (zS zZN):=xY (by decide +kernel)
def zZb:Sf:=(yO (yW (zY (zO 2 nB (zY (eV 3) (zY (wM "Part" "corner" (eV 5)) zR))) (zY (eV 6) zR))))
def gI:Sf:=(zP (yP 6 (yW (zY (zO 2 kA (zY (eV 3) (zY (wM "Part" "turn" (eV 5)) zR))) (zY (vI (eB2 gNe (eV 4) (wM "Part" "back" (eV 5)))) zR))))
   (zZb))
def fV:Sf:=(zP (yP 5 (eIx (wM "Curve" "parts" (eV 0)) (zO 3 gJ (zY (eV 0) (zY (eV 4) (zY (eV 2) zR))))))
   (gI))
def zZg:Sf:=(zP (mO (eV 1) (gT (zL (gN 3) (zL (gN 4) xP))))
   (fV))
def zPJ:Sf :=
   (zZg)
def vB:List D->Option D:=fnF 7 zPJ
theorem jY (T:Txt w K mg):OkT P w base T.q22 2 3 vB :=
 xG (k:=1) T.q22.F mQ fun cdv A outer s H E hr =>
   (zV zZg rfl (oM (zU 1) (nK 2 rfl (zI (xQ 3 mQ.nd) (zI (xQ 4 mQ.nd) xL)) (yS (yS wZ))))
     (zV fV rfl (zK 5 mQ.nd (yE (tP T.ca_Curve T.cl_Curve T.n_Curve_parts (zU 0)) (xJ (zQg T) hr (zZ (zU 0) (zZ (zU 4) (zZ (zU 2) zW))))))
     (zV gI rfl (zK 6 mQ.nd (zN (zZ (xJ (zMu T) hr (zZ (zU 3) (zZ (tP T.ca_Part T.cl_Part T.n_Part_turn (zU 5)) zW))) (zZ (rF dR (zU 4) (tP T.ca_Part T.cl_Part T.n_Part_back (zU 5))) zW))))
     (zT (zM (zN (zZ (xJ (zOL T) hr (zZ (zU 3) (zZ (tP T.ca_Part T.cl_Part T.n_Part_corner (zU 5)) zW))) (zZ (zU 6) zW))))))))
theorem zRS:FnScope ["one","other"] ["one","other"] (zS eD):=xY (by decide +kernel)
def zTo:Sf:=(yO (vI (eB2 gEq (zOe (yJ (zNR (eV 0) (eV 1)) 2 [] (gT (zL (gN 0) (zL (gN 1) xP))) tOK (zKh (rO (eV 0) (eV 1))))) (eC (.int 1)))))
def zPn:Sf :=
   (zTo)
def nU:List D->Option D:=fnF 2 zPn
theorem zSI (T:Txt w K mg):OkT P w base T.q23 1 2 nU :=
 xG (k:=0) T.q23.F zRS fun cdv A outer s H E hr =>
   (zT (zM (rF wC (zLS rfl rfl T.z_sum (aB (wE (zS eD) ["one","other"] ["along","across"] [] [] (zXh (xD (uI 0) (xD (uI 1) pS))) (zRs rfl T.z_zip (zU 0) (zU 1)) rfl rfl rfl (by decide +kernel) (fun _ _ _ _=>(nK 2 rfl (zI (xQ 0 (show(List.Nodup (α:=PySem.Str) ["along","across"]) from by decide +kernel)) (zI (xQ 1 (show(List.Nodup (α:=PySem.Str) ["along","across"]) from by decide +kernel)) xL)) (yS (yS wZ)))) (fun _ _ _ _=>yH) (fun _ _ _ _=>(zKq rfl T.z_abs (qG (zU 0) (zU 1))))))) zX)))
theorem zPo:FnScope ["place","corner"] ["place","corner"] (zS aR):=xY (by decide +kernel)
def zSG:Sf:=(yO (wX (eL (yJ (zNR (eV 0) (eV 1)) 2 [] (gT (zL (gN 0) (zL (gN 1) xP))) tOK (vV (sJ (eC (.int 2)) (eV 0)) (eV 1))))))
def zNp:Sf :=
   (zSG)
def qK:List D->Option D:=fnF 2 zNp
theorem zWE (T:Txt w K mg):OkT P w base T.q24 1 2 qK :=
 xG (k:=0) T.q24.F zPo fun cdv A outer s H E hr =>
   (zT (zM (wH rfl T.z_tuple (wB (wE (zS aR) ["place","corner"] ["along","bit"] [] [] (zXh (xD (uI 0) (xD (uI 1) pS))) (zRs rfl T.z_zip (zU 0) (zU 1)) rfl rfl rfl (by decide +kernel) (fun _ _ _ _=>(nK 2 rfl (zI (xQ 0 (show(List.Nodup (α:=PySem.Str) ["along","bit"]) from by decide +kernel)) (zI (xQ 1 (show(List.Nodup (α:=PySem.Str) ["along","bit"]) from by decide +kernel)) xL)) (yS (yS wZ)))) (fun _ _ _ _=>yH) (fun _ _ _ _=>(vS (vE zX (zU 0)) (zU 1))))))))
theorem xM:FnScope ["curve","first","whole","end","ending","start","starting","level","seen","corner"] ["curve","first"] (zS cA):=xY (by decide +kernel)
def bB:Sf:=(yO (eV 7))
def iY:Sf:=(zP (rG (tB1 (zO 2 nU (zY (eV 3) (zY (eV 5) zR)))) (zP (sIf (zVd 8 (yW (zY (eV 4) (zY (eV 6) zR)))) (yO (eC .non)) xT)
   (zP (zZq 8 (yW (zY (eV 4) (zY (eV 6) zR))) (eC (.bl true)))
   (zP (mO (zO 3 vB (zY (eV 0) (zY (eV 4) (zY (rO (xB (wM "Curve" "parts" (eV 0))) (eC (.int 1))) zR)))) (gT (zL (gN 9) (zL (gN 4) xP))))
   (zP (yP 3 (zO 2 qK (zY (eV 3) (zY (eV 9) zR))))
   (zP (mO (zO 3 vB (zY (eV 0) (zY (eV 6) (zY (eC (.int 0)) zR)))) (gT (zL (gN 9) (zL (gN 6) xP))))
   (zP (yP 5 (zO 2 qK (zY (eV 5) (zY (eV 9) zR))))
   (yP 7 (vV (eV 7) (eC (.int 1)))))))))) 10000)
   (bB))
def jS:Sf:=(zP (zND 8)
   (iY))
def iX:Sf:=(zP (yP 7 (eC (.int 1)))
   (jS))
def kG:Sf:=(zP (mO (zO 3 vB (zY (eV 0) (zY (eV 2) (zY (vV (eV 1) (eC (.int 1))) zR)))) (gT (zL (gN 5) (zL (gN 6) xP))))
   (iX))
def jD:Sf:=(zP (mO (zO 3 vB (zY (eV 0) (zY (eV 2) (zY (eV 1) zR)))) (gT (zL (gN 3) (zL (gN 4) xP))))
   (kG))
def oW:Sf:=(zP (yP 2 (zO 1 lZ (zY (wM "Curve" "dims" (eV 0)) zR)))
   (jD))
def zSf:Sf :=
   (oW)
def iQ:List D->Option D:=fnF 10 zSf
theorem zU3 (T:Txt w K mg):OkT P w base T.q25 3 2 iQ :=
 xG (k:=2) T.q25.F xM fun cdv A outer s H E hr =>
   (zV oW rfl (zK 2 xM.nd (xJ (zXJ T) hr (zZ (tP T.ca_Curve T.cl_Curve T.n_Curve_dims (zU 0)) zW)))
     (zV jD rfl (oM (xJ (jY T) hr (zZ (zU 0) (zZ (zU 2) (zZ (zU 1) zW)))) (nK 2 rfl (zI (xQ 3 xM.nd) (zI (xQ 4 xM.nd) xL)) (yS (yS wZ))))
     (zV kG rfl (oM (xJ (jY T) hr (zZ (zU 0) (zZ (zU 2) (zZ (vS (zU 1) zX) zW)))) (nK 2 rfl (zI (xQ 5 xM.nd) (zI (xQ 6 xM.nd) xL)) (yS (yS wZ))))
     (zV iX rfl (zK 7 xM.nd zX)
     (zV jS rfl (zQL 8 xM.nd)
     (zV iY rfl (zVT 10000 Eg (vR (xJ (zSI T) hr (zZ (zU 3) (zZ (zU 5) zW)))) (wV (yR (zNQ 8 hr (zN (zZ (zU 4) (zZ (zU 6) zW)))) (zT (zM wF)) zJ)
     (wV (zRo 8 hr iH (zN (zZ (zU 4) (zZ (zU 6) zW))))
     (wV (oM (xJ (jY T) hr (zZ (zU 0) (zZ (zU 4) (zZ (qG (vU rfl T.z_len (tP T.ca_Curve T.cl_Curve T.n_Curve_parts (zU 0))) zX) zW)))) (nK 2 rfl (zI (xQ 9 xM.nd) (zI (xQ 4 xM.nd) xL)) (yS (yS wZ))))
     (wV (zK 3 xM.nd (xJ (zWE T) hr (zZ (zU 3) (zZ (zU 9) zW))))
     (wV (oM (xJ (jY T) hr (zZ (zU 0) (zZ (zU 6) (zZ zX zW)))) (nK 2 rfl (zI (xQ 9 xM.nd) (zI (xQ 6 xM.nd) xL)) (yS (yS wZ))))
     (wV (zK 5 xM.nd (xJ (zWE T) hr (zZ (zU 5) (zZ (zU 9) zW))))
     (zT (zK 7 xM.nd (vS (zU 7) zX))))))))))
     (zT (zM (zU 7)))))))))
theorem lV:FnScope ["curve","levels","least"] ["curve"] (zS qR):=xY (by decide +kernel)
def zYv:Sf:=(yO (yW (zY (zSM (iL (eV 1)) (eV 2)) (zY (eV 2) zR))))
def fQ:Sf:=(zP (sIf (eB2 hZ (eV 2) (eC .non)) (yO (eC .non)) xT)
   (zYv))
def nJ:Sf:=(zP (kQ 1 (yP 2 (zUj (yJ (iL (eV 1)) 1 [] (gN 0) (eB2 nC (eV 0) (eC .non)) (eV 0)))))
   (fQ))
def rC:Sf:=(zP (uT 1 (yJ (iR (rO (xB (wM "Curve" "parts" (eV 0))) (eC (.int 1)))) 1 [0] (gN 0) tOK (zO 2 iQ (zY (eV 1) (zY (eV 0) zR)))))
   (nJ))
def zVx:Sf :=
   (rC)
def oX:List D->Option D:=fnF 3 zVx
theorem zWN (T:Txt w K mg):OkT P w base T.q26 4 1 oX :=
 xG (k:=3) T.q26.F lV fun cdv A outer s H E hr =>
   (zV rC rfl (tR (zS qR) ["curve","levels","least"] ["first"] ["curve"] [0] (uI 0) 1 lV.nd rfl rfl (zZU rfl T.z_range (qG (vU rfl T.z_len (tP T.ca_Curve T.cl_Curve T.n_Curve_parts (zU 0))) zX)) rfl rfl rfl (by decide +kernel) (fun _ _ _ _=>(xQ 0 (show(List.Nodup (α:=PySem.Str) ["first","curve"]) from by decide +kernel))) (fun _ _ _ _=>yH) (fun _ _ _ _=>(xJ (zU3 T) hr (zZ (zU 1) (zZ (zU 0) zW)))))
     (zV nJ rfl (uS 1 (zK 2 lV.nd (zMm rfl rfl T.z_min (aB (wE (zS qR) ["curve","levels","least"] ["level"] [] [] (uI 0) (zNx (zU 1)) rfl rfl rfl (by decide +kernel) (fun _ _ _ _=>(xQ 0 (show(List.Nodup (α:=PySem.Str) ["level"]) from by decide +kernel))) (fun _ _ _ _=>(zPY (zF zXB (zU 0) wF))) (fun _ _ _ _=>(zU 0)))))))
     (zV fQ rfl (yR (zF pH (zU 2) wF) (zT (zM wF)) zJ)
     (zT (zM (zN (zZ (zMB hr (uB Wg PySem.F.slot_list_index PySem.F.type_list_index (zNk hr) (zZs (zU 1)) (yY (zU 2) yK))) (zZ (zU 2) zW))))))))
theorem eO:FnScope ["curve","unmet","first","level"] ["curve"] (zS zX6):=xY (by decide +kernel)
def zRH:Sf:=(yO (eV 0))
def zXM:Sf:=(zP (sIf (eB2 nC (eV 1) (eC .non)) (zP (mO (eV 1) (gT (zL (gN 2) (zL (gN 3) xP))))
   (fun _=>none)) xT)
   (zRH))
def kE:Sf:=(zP (yP 1 (eIf (tB1 (wM "Curve" "joined" (eV 0))) (zO 1 oX (zY (eV 0) zR)) (eC .non)))
   (zXM))
def zOj:Sf :=
   (kE)
def mP:List D->Option D:=fnF 4 zOj
theorem zOI (T:Txt w K mg):OkT P w base T.q27 5 1 mP :=
 xG (k:=4) T.q27.F eO fun cdv A outer s H E hr =>
   (zV kE rfl (zK 1 eO.nd (zVZ (vR (tP T.ca_Curve T.cl_Curve T.n_Curve_joined (zU 0))) (xJ (zWN T) hr (zZ (zU 0) zW)) wF))
     (zV zXM rfl (yR (zF zXB (zU 1) wF) (wV (oM (zU 1) (nK 2 rfl (zI (xQ 2 eO.nd) (zI (xQ 3 eO.nd) xL)) (yS (yS wZ))))
     (zT uJ)) zJ)
     (zT (zM (zU 0)))))
theorem zZt:FnScope ["text","dims","place"] ["text","dims"] (zS kB):=xY (by decide +kernel)
def aP:Sf:=(kQ 2 (yO (eIf (nE (eB2 gNe (xB (eV 2)) (eV 1)) (eB2 zVD (eC .non) (eV 2))) (eC .non) (wX (eV 2)))))
def oP:Sf:=(zP (uT 2 (yJ (jA (eV 0) (eC (.str ","))) 1 [] (gN 0) tOK (zO 1 uQ (zY (eV 0) zR))))
   (aP))
def zRZ:Sf :=
   (oP)
def cB:List D->Option D:=fnF 3 zRZ
theorem zTc (T:Txt w K mg):OkT P w base T.q28 3 2 cB :=
 xG (k:=2) T.q28.F zZt fun cdv A outer s H E hr =>
   (zV oP rfl (tR (zS kB) ["text","dims","place"] ["along"] [] [] (uI 0) 2 zZt.nd rfl rfl (zI3 (zYo (uB Et Uy Uu zX8 (zU 0) (yY yQ yK)))) rfl rfl rfl (by decide +kernel) (fun _ _ _ _=>(xQ 0 (show(List.Nodup (α:=PySem.Str) ["along"]) from by decide +kernel))) (fun _ _ _ _=>yH) (fun _ _ _ _=>(zTe uQ (oH T) (fun _=>rfl) (hr.mono (by omega)) T.m_number_of T.F_number_of.kp T.bd_number_of rfl (zZ (zU 0) zW) rfl)))
     (zT (uS 2 (zM (zVZ (kY (sC (zF dR (vU rfl T.z_len (zU 2)) (zU 1)) (tX (zF (zNT hr) wF (zU 2))))) wF (wH rfl T.z_tuple (zU 2)))))))
theorem zWK:FnScope ["kind","word","dims"] ["kind","word","dims"] (zS iV):=xY (by decide +kernel)
def gQ:Sf:=(yO (zO 1 uQ (zY (eV 1) zR)))
def qU:Sf:=(zP (sIf (eB2 zMV (eV 0) (eC (.str "many"))) (yO (zO 3 pP (zY (eV 1) (zY (eC (.int 1)) (zY (eC (.int 999)) zR))))) xT)
   (gQ))
def tU:Sf:=(zP (sIf (eB2 zMV (eV 0) (eC (.str "place"))) (yO (zO 2 cB (zY (eV 1) (zY (eV 2) zR)))) xT)
   (qU))
def xI:Sf:=(zP (sIf (eB2 zMV (eV 0) (eC (.str "name"))) (yO (eIf (tB1 (zO 1 lA (zY (eV 1) zR))) (eV 1) (eC .non))) xT)
   (tU))
def zUH:Sf :=
   (xI)
def sZ:List D->Option D:=fnF 3 zUH
theorem zWP (T:Txt w K mg):OkT P w base T.q29 4 3 sZ :=
 xG (k:=3) T.q29.F zWK fun cdv A outer s H E hr =>
   (zV xI rfl (yR (zF (zVj hr) (zU 0) yQ) (zT (zM (zVZ (vR (xJ (zX0 T) hr (zZ (zU 1) zW))) (zU 1) wF))) zJ)
     (zV tU rfl (yR (zF (zVj hr) (zU 0) yQ) (zT (zM (xJ (zTc T) hr (zZ (zU 1) (zZ (zU 2) zW))))) zJ)
     (zV qU rfl (yR (zF (zVj hr) (zU 0) yQ) (zT (zM (xJ (fX T) hr (zZ (zU 1) (zZ (jE rfl T.c_LEAST_MANY) (zZ (jE rfl T.c_MOST_MANY) zW)))))) zJ)
     (zT (zM (zTe uQ (oH T) (fun _=>rfl) (hr.mono (by omega)) T.m_number_of T.F_number_of.kp T.bd_number_of rfl (zZ (zU 1) zW) rfl))))))
theorem bR:FnScope ["words","dims","row","values"] ["words","dims","row"] (zS mL):=xY (by decide +kernel)
def dQ:Sf:=(yO (iK (yW (zY (eIx (eV 0) (eC (.int 0))) zR)) (wX (eV 3))))
def lI:Sf:=(zP (kQ 3 (sIf (eB2 zVD (eC .non) (eV 3)) (fun _=>none) xT))
   (dQ))
def lR:Sf:=(zP (uT 3 (yJ (zUh (cM [("put",(.tup [.str "name",.str "place",.str "place"])),("move",(.tup [.str "name",.str "place",.str "place"])),("take",(.tup [.str "name"])),("names",(.tup [])),("where",(.tup [.str "name"])),("inside",(.tup [.str "place",.str "place"])),("meeting",(.tup [.str "place",.str "place"])),("near",(.tup [.str "place",.str "many"])),("sharing",(.tup [])),("number",(.tup [.str "place"])),("place",(.tup [.str "number"])),("spans",(.tup [.str "place",.str "place"])),("cover",(.tup [.str "place",.str "place",.str "many"]))] (eIx (eV 0) (eC (.int 0)))) (eL (lT (eV 0) (tT (eC (.int 1))) oNo))) 2 [1] (gT (zL (gN 0) (zL (gN 1) xP))) tOK (zO 3 sZ (zY (eV 0) (zY (eV 1) (zY (eV 2) zR))))))
   (lI))
def pV:Sf:=(zP (sIf (nE (zVR false [("put",(.tup [.str "name",.str "place",.str "place"])),("move",(.tup [.str "name",.str "place",.str "place"])),("take",(.tup [.str "name"])),("names",(.tup [])),("where",(.tup [.str "name"])),("inside",(.tup [.str "place",.str "place"])),("meeting",(.tup [.str "place",.str "place"])),("near",(.tup [.str "place",.str "many"])),("sharing",(.tup [])),("number",(.tup [.str "place"])),("place",(.tup [.str "number"])),("spans",(.tup [.str "place",.str "place"])),("cover",(.tup [.str "place",.str "place",.str "many"]))] (eIx (eV 0) (eC (.int 0)))) (eB2 gNe (xB (eV 0)) (vV (eC (.int 1)) (xB (cM [("put",(.tup [.str "name",.str "place",.str "place"])),("move",(.tup [.str "name",.str "place",.str "place"])),("take",(.tup [.str "name"])),("names",(.tup [])),("where",(.tup [.str "name"])),("inside",(.tup [.str "place",.str "place"])),("meeting",(.tup [.str "place",.str "place"])),("near",(.tup [.str "place",.str "many"])),("sharing",(.tup [])),("number",(.tup [.str "place"])),("place",(.tup [.str "number"])),("spans",(.tup [.str "place",.str "place"])),("cover",(.tup [.str "place",.str "place",.str "many"]))] (eIx (eV 0) (eC (.int 0)))))))) (fun _=>none) xT)
   (lR))
def zTK:Sf :=
   (pV)
def mM:List D->Option D:=fnF 4 zTK
theorem zUJ (T:Txt w K mg):OkT P w base T.q30 5 3 mM :=
 xG (k:=4) T.q30.F bR fun cdv A outer s H E hr =>
   (zV pV rfl (yR (kY (sC (zPd T.dc_FORMS rfl T.c_FORMS (yE (zU 0) zX)) (tX (zF dR (vU rfl T.z_len (zU 0)) (vS zX (vU rfl T.z_len (zOl T.dc_FORMS rfl T.c_FORMS (yE (zU 0) zX)))))))) (zT uJ) zJ)
     (zV lR rfl (tR (zS mL) ["words","dims","row","values"] ["kind","word"] ["dims"] [1] (zXh (xD (uI 0) (xD (uI 1) pS))) 3 bR.nd rfl rfl (zLT rfl T.z_zip (zOl T.dc_FORMS rfl T.c_FORMS (yE (zU 0) zX)) (wB (zY8 (zU 0) (dO zX) zW8))) rfl rfl rfl (by decide +kernel) (fun _ _ _ _=>(nK 2 rfl (zI (xQ 0 (show(List.Nodup (α:=PySem.Str) ["kind","word","dims"]) from by decide +kernel)) (zI (xQ 1 (show(List.Nodup (α:=PySem.Str) ["kind","word","dims"]) from by decide +kernel)) xL)) (yS (yS wZ)))) (fun _ _ _ _=>yH) (fun _ _ _ _=>(xJ (zWP T) hr (zZ (zU 0) (zZ (zU 1) (zZ (zU 2) zW))))))
     (zV lI rfl (uS 3 (yR (zF (zNT hr) wF (zU 3)) (zT uJ) zJ))
     (zT (zM (bY (zN (zZ (yE (zU 0) zX) zW)) (wH rfl T.z_tuple (zU 3))))))))
theorem uU:FnScope ["text","rows","curve","floor","level","size","deeds","row"] ["text"] (zS cI):=xY (by decide +kernel)
def dA:Sf:=(iC 6 (zO 3 mM (zY (eL (sV 2 vD (zY (eV 1) (zY (eV 7) zR)))) (zY (wM "Curve" "dims" (eV 2)) (zY (eV 7) zR)))))
def sM:Sf:=(zP (sIf (eB2 gEq (gP 6) (eC (.int 400))) (fun _=>none) xT)
   (dA))
def bO:Sf:=(kQ 6 (yO (zZj "Scene" ["curve","level","size","deeds"] 4 zY1 (zY (zO 1 mP (zY (eV 2) zR)) (zY (eV 4) (zY (eV 5) (zY (eV 6) zR)))))))
def kD:Sf:=(zP (qO (iR2 (vV (eV 3) (eC (.int 1))) (vV (xB (eV 1)) (eC (.int 1)))) (gN 7) (sM))
   (bO))
def kM:Sf:=(zP (uT 6 (yA zR))
   (kD))
def jL:Sf:=(zP (mO (zO 3 qX (zY (eL (sV 2 vD (zY (eV 1) (zY (eV 3) zR)))) (zY (wM "Curve" "dims" (eV 2)) (zY (eV 3) zR)))) (gT (zL (gN 4) (zL (gN 5) xP))))
   (kM))
def jX:Sf:=(zP (yP 3 (vV (eC (.int 2)) (xB (wM "Curve" "parts" (eV 2)))))
   (jL))
def jG:Sf:=(zP (yP 2 (zO 1 kH (zY (eV 1) zR)))
   (jX))
def oE:Sf:=(zP (yP 1 (eL (jA (eV 0) (eC (.str "\n")))))
   (jG))
def zRU:Sf :=
   (oE)
def jC:List D->Option D:=fnF 8 zRU
theorem zTp (T:Txt w K mg):OkT P w base T.q31 6 1 jC :=
 xG (k:=5) T.q31.F uU fun cdv A outer s H E hr =>
   (zV oE rfl (zK 1 uU.nd (wB (zYo (uB Et Uy Uu zX8 (zU 0) (yY yQ yK)))))
     (zV jG rfl (zK 2 uU.nd (xJ (zXb T) hr (zZ (zU 1) zW)))
     (zV jX rfl (zK 3 uU.nd (vS zX (vU rfl T.z_len (tP T.ca_Curve T.cl_Curve T.n_Curve_parts (zU 2)))))
     (zV jL rfl (oM (xJ (zWX T) hr (zZ (wB (zV1 (mD T) hr (zZ (zU 1) (zZ (zU 3) zW)))) (zZ (tP T.ca_Curve T.cl_Curve T.n_Curve_dims (zU 2)) (zZ (zU 3) zW)))) (nK 2 rfl (zI (xQ 4 uU.nd) (zI (xQ 5 uU.nd) xL)) (yS (yS wZ))))
     (zV kM rfl (tM 6 uU.nd (yG zW))
     (zV kD rfl (sH Eg rfl (zK9 rfl T.z_range (vS (zU 3) zX) (vS (vU rfl T.z_len (zU 1)) zX)) (xQ 7 uU.nd) (zV sM rfl (yR (zF wC (zUN 6 rfl T.z_len) (jE rfl T.c_MOST_DEEDS)) (zT uJ) zJ)
     (zT (mS 6 (uB Wg Wl Wz vL (pv 6) (yY (xJ (zUJ T) hr (zZ (wB (zV1 (mD T) hr (zZ (zU 1) (zZ (zU 7) zW)))) (zZ (tP T.ca_Curve T.cl_Curve T.n_Curve_dims (zU 2)) (zZ (zU 7) zW)))) yK))))))
     (zT (uS 6 (zM (zVE T.ca_Scene T.mk_Scene (zQt T) (hr.mono (by omega)) T.mc_Scene T.bi_Scene rfl (zZ (xJ (zOI T) hr (zZ (zU 2) zW)) (zZ (zU 4) (zZ (zU 5) (zZ (zU 6) zW))))))))))))))
theorem zYt:FnScope ["_law_script","_law_k"] ["_law_script","_law_k"] (zS lH):=xY (by decide +kernel)
def zYY:Sf:=(yO (eC (.int 0)))
def sI:Sf:=(zP (sIf (eB2 gLt (eV 1) (xB (eV 0))) (yO (eIx (eV 0) (eV 1))) xT)
   (zYY))
def zWW:Sf :=
   (sI)
def vY:List D->Option D:=fnF 2 zWW
theorem qT (T:Txt w K mg):OkT P w base T.q32 1 2 vY :=
 xG (k:=0) T.q32.F zYt fun cdv A outer s H E hr =>
   (zV sI rfl (yR (zF zTL (zU 1) (vU rfl T.z_len (zU 0))) (zT (zM (yE (zU 0) (zU 1)))) zJ)
     (zT (zM zX)))
theorem tN:FnScope ["_law_dims","_law_plain","_law_parts"] ["_law_dims"] (zS cN):=xY (by decide +kernel)
def zVi:Sf:=(kQ 2 (zT8 (zTQ (iL (eV 2)) (yA (zY (yW (zY (yW (zY (eC (.int 1)) (zY (eC (.int 0)) (zY (eC (.int 0)) zR)))) (zY (yW (zY (yW (zY (eC (.int 1)) (zY (eC (.int 1)) zR))) (zY (yW (zY (eC (.int 0)) (zY (eC (.int 1)) zR))) (zY (yW (zY (eC (.int 2)) (zY (eC (.int 0)) zR))) zR)))) zR))) zR)))))
def bT:Sf:=(zP (kQ 2 (uT 2 (zTQ (iL (eV 2)) (yA (zY (yW (zY (yW (zY (eC (.int 1)) (zY (eC (.int 1)) (zY (eC (.int 1)) zR)))) (zY (eV 1) zR))) (zY (yW (zY (yW (zY (eC (.int 1)) (zY (eC (.int 1)) (zY (eC (.int 0)) zR)))) (zY (yW (zY (yW (zY (eC (.int 1)) (zY (eC (.int 1)) zR))) (zY (yW (zY (eC (.int 2)) (zY (eC (.int 0)) zR))) (zY (yW (zY (eC (.int 0)) (zY (eC (.int 1)) zR))) zR)))) zR))) zR))))))
   (zVi))
def bS:Sf:=(zP (kQ 2 (uT 2 (zTQ (iL (eV 2)) (yA (zY (yW (zY (yW (zY (eC (.int 0)) (zY (eC (.int 0)) (zY (eC (.int 1)) zR)))) (zY (yW (zY (yW (zY (eC (.int 1)) (zY (eC (.int 1)) zR))) (zY (yW (zY (eC (.int 2)) (zY (eC (.int 1)) zR))) (zY (yW (zY (eC (.int 0)) (zY (eC (.int 0)) zR))) zR)))) zR))) (zY (yW (zY (yW (zY (eC (.int 1)) (zY (eC (.int 0)) (zY (eC (.int 1)) zR)))) (zY (yW (zY (yW (zY (eC (.int 1)) (zY (eC (.int 0)) zR))) (zY (yW (zY (eC (.int 2)) (zY (eC (.int 1)) zR))) (zY (yW (zY (eC (.int 0)) (zY (eC (.int 1)) zR))) zR)))) zR))) zR))))))
   (bT))
def aV:Sf:=(zP (uT 2 (yA (zY (yW (zY (yW (zY (eC (.int 0)) (zY (eC (.int 0)) (zY (eC (.int 0)) zR)))) (zY (yW (zY (yW (zY (eC (.int 1)) (zY (eC (.int 0)) zR))) (zY (yW (zY (eC (.int 0)) (zY (eC (.int 0)) zR))) (zY (yW (zY (eC (.int 2)) (zY (eC (.int 0)) zR))) zR)))) zR))) (zY (yW (zY (yW (zY (eC (.int 0)) (zY (eC (.int 1)) (zY (eC (.int 0)) zR)))) (zY (yW (zY (yW (zY (eC (.int 1)) (zY (eC (.int 0)) zR))) (zY (yW (zY (eC (.int 2)) (zY (eC (.int 0)) zR))) (zY (yW (zY (eC (.int 0)) (zY (eC (.int 0)) zR))) zR)))) zR))) (zY (yW (zY (yW (zY (eC (.int 0)) (zY (eC (.int 1)) (zY (eC (.int 1)) zR)))) (zY (eV 1) zR))) zR)))))
   (bS))
def bI:Sf:=(zP (yP 1 (yW (zY (yW (zY (eC (.int 0)) (zY (eC (.int 0)) zR))) (zY (yW (zY (eC (.int 1)) (zY (eC (.int 0)) zR))) (zY (yW (zY (eC (.int 2)) (zY (eC (.int 0)) zR))) zR)))))
   (aV))
def aL:Sf:=(zP (sIf (eB2 gEq (eV 0) (eC (.int 2))) (zP (yP 1 (yW (zY (yW (zY (eC (.int 0)) (zY (eC (.int 0)) zR))) (zY (yW (zY (eC (.int 1)) (zY (eC (.int 0)) zR))) zR))))
   (zP (uT 2 (yA (zY (yW (zY (yW (zY (eC (.int 0)) (zY (eC (.int 0)) zR))) (zY (yW (zY (yW (zY (eC (.int 1)) (zY (eC (.int 0)) zR))) (zY (yW (zY (eC (.int 0)) (zY (eC (.int 0)) zR))) zR))) zR))) (zY (yW (zY (yW (zY (eC (.int 0)) (zY (eC (.int 1)) zR))) (zY (eV 1) zR))) (zY (yW (zY (yW (zY (eC (.int 1)) (zY (eC (.int 1)) zR))) (zY (eV 1) zR))) (zY (yW (zY (yW (zY (eC (.int 1)) (zY (eC (.int 0)) zR))) (zY (yW (zY (yW (zY (eC (.int 1)) (zY (eC (.int 1)) zR))) (zY (yW (zY (eC (.int 0)) (zY (eC (.int 1)) zR))) zR))) zR))) zR))))))
   (zXW 2))) xT)
   (bI))
def zRN:Sf :=
   (aL)
def cF:List D->Option (List D):=fnL 3 zRN
theorem zT2 (T:Txt w K mg):zPS P w base T.q33 1 1 cF :=
 zZO (k:=0) T.q33.F tN fun cdv A outer s H E hr =>
   (zV aL rfl (yR (zF wC (zU 0) zX) (wV (zK 1 tN.nd (zN (zZ (zN (zZ zX (zZ zX zW))) (zZ (zN (zZ zX (zZ zX zW))) zW))))
     (wV (tM 2 tN.nd (yG (zZ (zN (zZ (zN (zZ zX (zZ zX zW))) (zZ (zN (zZ (zN (zZ zX (zZ zX zW))) (zZ (zN (zZ zX (zZ zX zW))) zW))) zW))) (zZ (zN (zZ (zN (zZ zX (zZ zX zW))) (zZ (zU 1) zW))) (zZ (zN (zZ (zN (zZ zX (zZ zX zW))) (zZ (zU 1) zW))) (zZ (zN (zZ (zN (zZ zX (zZ zX zW))) (zZ (zN (zZ (zN (zZ zX (zZ zX zW))) (zZ (zN (zZ zX (zZ zX zW))) zW))) zW))) zW))))))
     (zT (zZZ 2)))) zJ)
     (zV bI rfl (zK 1 tN.nd (zN (zZ (zN (zZ zX (zZ zX zW))) (zZ (zN (zZ zX (zZ zX zW))) (zZ (zN (zZ zX (zZ zX zW))) zW)))))
     (zV aV rfl (tM 2 tN.nd (yG (zZ (zN (zZ (zN (zZ zX (zZ zX (zZ zX zW)))) (zZ (zN (zZ (zN (zZ zX (zZ zX zW))) (zZ (zN (zZ zX (zZ zX zW))) (zZ (zN (zZ zX (zZ zX zW))) zW)))) zW))) (zZ (zN (zZ (zN (zZ zX (zZ zX (zZ zX zW)))) (zZ (zN (zZ (zN (zZ zX (zZ zX zW))) (zZ (zN (zZ zX (zZ zX zW))) (zZ (zN (zZ zX (zZ zX zW))) zW)))) zW))) (zZ (zN (zZ (zN (zZ zX (zZ zX (zZ zX zW)))) (zZ (zU 1) zW))) zW)))))
     (zV bS rfl (uS 2 (tM 2 tN.nd (zUA (zZs (zU 2)) (aB (yG (zZ (zN (zZ (zN (zZ zX (zZ zX (zZ zX zW)))) (zZ (zN (zZ (zN (zZ zX (zZ zX zW))) (zZ (zN (zZ zX (zZ zX zW))) (zZ (zN (zZ zX (zZ zX zW))) zW)))) zW))) (zZ (zN (zZ (zN (zZ zX (zZ zX (zZ zX zW)))) (zZ (zN (zZ (zN (zZ zX (zZ zX zW))) (zZ (zN (zZ zX (zZ zX zW))) (zZ (zN (zZ zX (zZ zX zW))) zW)))) zW))) zW)))))))
     (zV bT rfl (uS 2 (tM 2 tN.nd (zUA (zZs (zU 2)) (aB (yG (zZ (zN (zZ (zN (zZ zX (zZ zX (zZ zX zW)))) (zZ (zU 1) zW))) (zZ (zN (zZ (zN (zZ zX (zZ zX (zZ zX zW)))) (zZ (zN (zZ (zN (zZ zX (zZ zX zW))) (zZ (zN (zZ zX (zZ zX zW))) (zZ (zN (zZ zX (zZ zX zW))) zW)))) zW))) zW)))))))
     (zT (uS 2 (zRh (zUA (zZs (zU 2)) (aB (yG (zZ (zN (zZ (zN (zZ zX (zZ zX (zZ zX zW)))) (zZ (zN (zZ (zN (zZ zX (zZ zX zW))) (zZ (zN (zZ zX (zZ zX zW))) (zZ (zN (zZ zX (zZ zX zW))) zW)))) zW))) zW))))))))))))
theorem zUX:FnScope ["_law_one","_law_other"] ["_law_one","_law_other"] (zS mG):=xY (by decide +kernel)
def zXj:Sf:=(yO (wX (eL (yJ (iT (eV 0)) 2 [1] (gT (zL (gN 0) (zL (gN 1) xP))) tOK (yW (zY (eIx (eIx (eV 2) (eV 0)) (eC (.int 0))) (zY (zVl (eIx (eIx (eV 2) (eV 0)) (eC (.int 1))) (eV 1)) zR)))))))
def zTB:Sf :=
   (zXj)
def uX:List D->Option D:=fnF 2 zTB
theorem rL (T:Txt w K mg):OkT P w base T.q34 1 2 uX :=
 xG (k:=0) T.q34.F zUX fun cdv A outer s H E hr =>
   (zT (zM (wH rfl T.z_tuple (wB (wE (zS mG) ["_law_one","_law_other"] ["_law_axis","_law_flip"] ["_law_other"] [1] (zXh (xD (uI 0) (xD (uI 1) pS))) (zXe (zU 0)) rfl rfl rfl (by decide +kernel) (fun _ _ _ _=>(nK 2 rfl (zI (xQ 0 (show(List.Nodup (α:=PySem.Str) ["_law_axis","_law_flip","_law_other"]) from by decide +kernel)) (zI (xQ 1 (show(List.Nodup (α:=PySem.Str) ["_law_axis","_law_flip","_law_other"]) from by decide +kernel)) xL)) (yS (yS wZ)))) (fun _ _ _ _=>yH) (fun _ _ _ _=>(zN (zZ (yE (yE (zU 2) (zU 0)) zX) (zZ (zV8 (yE (yE (zU 2) (zU 0)) zX) (zU 1)) zW)))))))))
theorem lQ:FnScope ["_law_turn_here","_law_back","_law_k"] ["_law_turn_here"] (zS jB):=xY (by decide +kernel)
def zYT:Sf:=(eZ 1 (eIx (eIx (eV 0) (eV 2)) (eC (.int 0))) (yW (zY (eV 2) (zY (eIx (eIx (eV 0) (eV 2)) (eC (.int 1))) zR))))
def zXI:Sf:=(kQ 1 (yO (wX (eV 1))))
def fL:Sf:=(zP (qO (iR (xB (eV 0))) (gN 2) (zYT))
   (zXI))
def eT:Sf:=(zP (uT 1 (zJh (yA (zY (eC .non) zR)) (xB (eV 0))))
   (fL))
def zV5:Sf :=
   (eT)
def sW:List D->Option D:=fnF 3 zV5
theorem dM (T:Txt w K mg):OkT P w base T.q35 1 1 sW :=
 xG (k:=0) T.q35.F lQ fun cdv A outer s H E hr =>
   (zV eT rfl (tM 1 lQ.nd (zIU (yG (zZ wF zW)) (vU rfl T.z_len (zU 0))))
     (zV fL rfl (sH Eg rfl (zZU rfl T.z_range (vU rfl T.z_len (zU 0))) (xQ 2 lQ.nd) (zT (zYE 1 (zN (zZ (zU 2) (zZ (yE (yE (zU 0) (zU 2)) zX) zW))) (yE (yE (zU 0) (zU 2)) zX))))
     (zT (uS 1 (zM (wH rfl T.z_tuple (zU 1)))))))
theorem zWQ:FnScope ["_law_turn_here","_law_corner"] ["_law_turn_here","_law_corner"] (zS oS):=xY (by decide +kernel)
def zYB:Sf:=(yO (wX (eL (yJ (iT (eV 0)) 2 [1] (gT (zL (gN 0) (zL (gN 1) xP))) tOK (zVl (eIx (eV 2) (eV 0)) (eV 1))))))
def zVc:Sf :=
   (zYB)
def oV:List D->Option D:=fnF 2 zVc
theorem zWR (T:Txt w K mg):OkT P w base T.q36 1 2 oV :=
 xG (k:=0) T.q36.F zWQ fun cdv A outer s H E hr =>
   (zT (zM (wH rfl T.z_tuple (wB (wE (zS oS) ["_law_turn_here","_law_corner"] ["_law_axis","_law_flip"] ["_law_corner"] [1] (zXh (xD (uI 0) (xD (uI 1) pS))) (zXe (zU 0)) rfl rfl rfl (by decide +kernel) (fun _ _ _ _=>(nK 2 rfl (zI (xQ 0 (show(List.Nodup (α:=PySem.Str) ["_law_axis","_law_flip","_law_corner"]) from by decide +kernel)) (zI (xQ 1 (show(List.Nodup (α:=PySem.Str) ["_law_axis","_law_flip","_law_corner"]) from by decide +kernel)) xL)) (yS (yS wZ)))) (fun _ _ _ _=>yH) (fun _ _ _ _=>(zV8 (yE (zU 2) (zU 0)) (zU 1))))))))
theorem xS:FnScope ["_law_dims","_law_number","_law_base_here","_law_turn_here","_law_mirror","_law_parts","_law_bits","_law_corner","_law_inner","_law_lies"] ["_law_dims","_law_number"] (zS oG):=xY (by decide +kernel)
def zYW:Sf:=(yP 6 (wW (eV 6) (eC (.int 2))))
def sD:Sf:=(zP (iC 5 (yW (zY (zO 2 oV (zY (eV 3) (zY (eV 7) zR))) (zY (eV 9) (zY (vI (eB2 gEq (xW (eV 6) (eC (.int 2))) (eC (.int 1)))) zR)))))
   (zYW))
def pF:Sf:=(zP (sIf (eB2 gEq (xW (eV 6) (eC (.int 2))) (eC (.int 1))) (yP 9 (zO 2 uX (zY (eV 9) (zY (eV 4) zR)))) xT)
   (sD))
def vK:Sf:=(zP (yP 9 (zO 2 uX (zY (eV 3) (zY (zO 2 uX (zY (eV 8) (zY (zO 1 sW (zY (eV 3) zR)) zR))) zR))))
   (pF))
def zYj:Sf:=(zXW 5)
def mU:Sf:=(zP (qO (iL (eV 2)) (gT (zL (gN 7) (zL (gN 8) xP))) (vK))
   (zYj))
def nS:Sf:=(zP (yP 6 (wW (eV 1) (eC (.int 96))))
   (mU))
def nO:Sf:=(zP (uT 5 (yA zR))
   (nS))
def mZ:Sf:=(zP (yP 4 (zO 2 uX (zY (eV 3) (zY (zO 2 uX (zY (eV 4) (zY (zO 1 sW (zY (eV 3) zR)) zR))) zR))))
   (nO))
def rH:Sf:=(zP (yP 4 (wX (eL (yJ (iR (eV 0)) 1 [] (gN 0) tOK (yW (zY (eV 0) (zY (sS (vI (eB2 gEq (eV 0) (eC (.int 0))))) zR)))))))
   (mZ))
def nR:Sf:=(zP (sIf (eB2 gEq (xW (wW (eV 1) (eC (.int 48))) (eC (.int 2))) (eC (.int 1))) (yP 2 (eL (zRV (iL (eV 2))))) xT)
   (rH))
def nA:Sf:=(zP (yP 3 (zO 2 vT (zY (eV 1) (zY (eV 0) zR))))
   (nR))
def rK:Sf:=(zP (yP 2 (eL (sV 1 cF (zY (eV 0) zR))))
   (nA))
def zVy:Sf :=
   (rK)
def jQ:List D->Option (List D):=fnL 10 zVy
theorem zXg (T:Txt w K mg):zPS P w base T.q37 2 2 jQ :=
 zZO (k:=1) T.q37.F xS fun cdv A outer s H E hr =>
   (zV rK rfl (zK 2 xS.nd (wB (zV1 (zT2 T) hr (zZ (zU 0) zW))))
     (zV nA rfl (zK 3 xS.nd (xJ (zZv T) hr (zZ (zU 1) (zZ (zU 0) zW))))
     (zV nR rfl (yR (zF wC (yC (xN (zU 1) zX) zX) zX) (zT (zK 2 xS.nd (wB (zRJ rfl rfl T.z_list rfl T.z_reversed (zZs (zU 2)))))) zJ)
     (zV rH rfl (zK 4 xS.nd (wH rfl T.z_tuple (wB (wE (zS oG) ["_law_dims","_law_number","_law_base_here","_law_turn_here","_law_mirror","_law_parts","_law_bits","_law_corner","_law_inner","_law_lies"] ["_law_axis"] [] [] (uI 0) (zZU rfl T.z_range (zU 0)) rfl rfl rfl (by decide +kernel) (fun _ _ _ _=>(xQ 0 (show(List.Nodup (α:=PySem.Str) ["_law_axis"]) from by decide +kernel))) (fun _ _ _ _=>yH) (fun _ _ _ _=>(zN (zZ (zU 0) (zZ (fS rfl T.z_int (rF wC (zU 0) zX)) zW))))))))
     (zV mZ rfl (zK 4 xS.nd (xJ (rL T) hr (zZ (zU 3) (zZ (xJ (rL T) hr (zZ (zU 4) (zZ (xJ (dM T) hr (zZ (zU 3) zW)) zW))) zW))))
     (zV nO rfl (tM 5 xS.nd (yG zW))
     (zV nS rfl (zK 6 xS.nd (xN (zU 1) zX))
     (zV mU rfl (sH Eg rfl (zNx (zU 2)) (nK 2 rfl (zI (xQ 7 xS.nd) (zI (xQ 8 xS.nd) xL)) (yS (yS wZ))) (zV vK rfl (zK 9 xS.nd (xJ (rL T) hr (zZ (zU 3) (zZ (xJ (rL T) hr (zZ (zU 8) (zZ (xJ (dM T) hr (zZ (zU 3) zW)) zW))) zW))))
     (zV pF rfl (yR (zF wC (yC (zU 6) zX) zX) (zT (zK 9 xS.nd (xJ (rL T) hr (zZ (zU 9) (zZ (zU 4) zW))))) zJ)
     (zV sD rfl (mS 5 (uB Wg Wl Wz vL (pv 5) (yY (zN (zZ (xJ (zWR T) hr (zZ (zU 3) (zZ (zU 7) zW))) (zZ (zU 9) (zZ (rF wC (yC (zU 6) zX) zX) zW)))) yK)))
     (zT (zK 6 xS.nd (xN (zU 6) zX)))))))
     (zT (zZZ 5))))))))))
theorem wT:FnScope ["_law_cell","_law_k","_law_letters","_law_word_here","_law_n","_law_size","_law_place","_law_far_here"] ["_law_cell","_law_k"] (zS cD):=xY (by decide +kernel)
def sP:Sf:=(yP 3 (xX (eV 3) (eIx (eV 2) (xW (xX (xX (wW (eV 0) (eC (.int 7200))) (sJ (eC (.int 7)) (eV 1))) (sJ (eV 4) (eV 4))) (eC (.int 26))))))
def lN:Sf:=(yP 3 (xX (eV 3) (eIx (eV 2) (xW (xX (wW (eV 0) (eC (.int 144))) (eV 7)) (eC (.int 26))))))
def lU:Sf:=(zP (sIf (eB2 gEq (eV 4) (eV 6)) (yP 7 (xX (wW (eV 0) (eC (.int 97))) (sJ (eC (.int 3)) (eV 1)))) xT)
   (lN))
def uH:Sf:=(zP (yP 7 (sJ (sJ (eV 4) (eV 4)) (xW (wW (eV 0) (eC (.int 7))) (eC (.int 3)))))
   (lU))
def zUT:Sf:=(yO (eV 3))
def jM:Sf:=(zP (qO (iR (eV 5)) (gN 4) (uH))
   (zUT))
def jZ:Sf:=(zP (yP 3 (eC (.str "")))
   (jM))
def iZ:Sf:=(zP (yP 6 (xW (wW (eV 0) (eC (.int 12))) (eV 5)))
   (jZ))
def nX:Sf:=(zP (yP 5 (xX (eC (.int 1)) (xW (eV 0) (eC (.int 12)))))
   (iZ))
def oO:Sf:=(zP (sIf (eB2 gEq (xW (wW (eV 0) (eC (.int 8))) (eC (.int 3))) (eC (.int 0))) (zP (yP 3 (eIx (eV 2) (xW (xX (wW (eV 0) (eC (.int 24))) (sJ (eC (.int 3)) (wW (eV 1) (eC (.int 2))))) (eC (.int 26)))))
   (zP (qO (iR (xW (xX (wW (eV 0) (eC (.int 600))) (sJ (eC (.int 5)) (eV 1))) (eC (.int 12)))) (gN 4) (sP))
   (yO (eV 3)))) xT)
   (nX))
def nW:Sf:=(zP (sIf (rP (eB2 gEq (xW (eV 0) (eC (.int 8))) (eC (.int 5))) (eB2 gEq (xW (eV 1) (eC (.int 3))) (eC (.int 1)))) (yO (eIx (eL (yA (zY (eC (.str "near")) (zY (eC (.str "place")) (zY (eC (.str "names")) (zY (eC (.str "floor")) (zY (eC (.str "part")) (zY (eC (.str "back")) (zY (eC (.str "none")) (zY (eC (.str "put")) zR)))))))))) (xW (xX (wW (eV 0) (eC (.int 8))) (eV 1)) (eC (.int 8))))) xT)
   (oO))
def oF:Sf:=(zP (yP 2 (eC (.str "abcdefghijklmnopqrstuvwxyz")))
   (nW))
def zSt:Sf :=
   (oF)
def jR:List D->Option D:=fnF 8 zSt
theorem zTU (T:Txt w K mg):OkT P w base T.q38 1 2 jR :=
 xG (k:=0) T.q38.F wT fun cdv A outer s H E hr =>
   (zV oF rfl (zK 2 wT.nd yQ)
     (zV nW rfl (yR (kY (eF (zF wC (yC (zU 0) zX) zX) (kO (zF wC (yC (zU 1) zX) zX)))) (zT (zM (yE (wB (yG (zZ yQ (zZ yQ (zZ yQ (zZ yQ (zZ yQ (zZ yQ (zZ yQ (zZ yQ zW)))))))))) (yC (xC (xN (zU 0) zX) (zU 1)) zX)))) zJ)
     (zV oO rfl (yR (zF wC (yC (xN (zU 0) zX) zX) zX) (wV (zK 3 wT.nd (yE (zU 2) (yC (xC (xN (zU 0) zX) (vE zX (xN (zU 1) zX))) zX)))
     (wV (sH Eg rfl (zZU rfl T.z_range (yC (xC (xN (zU 0) zX) (vE zX (zU 1))) zX)) (xQ 4 wT.nd) (zT (zK 3 wT.nd (xC (zU 3) (yE (zU 2) (yC (xC (xC (xN (zU 0) zX) (vE zX (zU 1))) (vE (zU 4) (zU 4))) zX))))))
     (zT (zM (zU 3))))) zJ)
     (zV nX rfl (zK 5 wT.nd (xC zX (yC (zU 0) zX)))
     (zV iZ rfl (zK 6 wT.nd (yC (xN (zU 0) zX) (zU 5)))
     (zV jZ rfl (zK 3 wT.nd yQ)
     (zV jM rfl (sH Eg rfl (zZU rfl T.z_range (zU 5)) (xQ 4 wT.nd) (zV uH rfl (zK 7 wT.nd (vE (vE (zU 4) (zU 4)) (yC (xN (zU 0) zX) zX)))
     (zV lU rfl (yR (zF wC (zU 4) (zU 6)) (zT (zK 7 wT.nd (xC (xN (zU 0) zX) (vE zX (zU 1))))) zJ)
     (zT (zK 3 wT.nd (xC (zU 3) (yE (zU 2) (yC (xC (xN (zU 0) zX) (zU 7)) zX))))))))
     (zT (zM (zU 3))))))))))
theorem zUc:FnScope ["_law_number","_law_dims","_law_level"] ["_law_number","_law_dims","_law_level"] (zS jK):=xY (by decide +kernel)
def kL:Sf:=(yO (wX (eL (yJ (iR (eV 1)) 1 [0,2] (gN 0) tOK (xW (zO 2 wL (zY (eV 1) (zY (vV (eC (.int 16807)) (sJ (eC (.int 14)) (eV 0))) zR))) (zY2 (eC (.int 1)) (eV 2)))))))
def zR7:Sf :=
   (kL)
def cP:List D->Option D:=fnF 3 zR7
theorem zTi (T:Txt w K mg):OkT P w base T.q39 2 3 cP :=
 xG (k:=1) T.q39.F zUc fun cdv A outer s H E hr =>
   (zT (zM (wH rfl T.z_tuple (wB (wE (zS jK) ["_law_number","_law_dims","_law_level"] ["_law_axis"] ["_law_number","_law_level"] [0,2] (uI 0) (zZU rfl T.z_range (zU 1)) rfl rfl rfl (by decide +kernel) (fun _ _ _ _=>(xQ 0 (show(List.Nodup (α:=PySem.Str) ["_law_axis","_law_number","_law_level"]) from by decide +kernel))) (fun _ _ _ _=>yH) (fun _ _ _ _=>(yC (xJ (tL T) hr (zZ (zU 1) (zZ (vS zX (vE zX (zU 0))) zW))) (zVh zX (zU 2)))))))))
theorem qE:FnScope ["_law_number","_law_dims","_law_level","_law_most","_law_low","_law_far_here","_law_high","_law_way","_law_axis"] ["_law_number","_law_dims","_law_level","_law_most"] (zS lC):=xY (by decide +kernel)
def gL:Sf:=(kQ 6 (yO (yW (zY (eV 4) (zY (wX (eV 6)) zR)))))
def mE:Sf:=(zP (sIf (eB2 gEq (xW (eV 7) (eC (.int 12))) (eC (.int 2))) (eZ 6 (eV 8) (vV (zQk 6 (eV 8)) (zXo (eC (.int 10)) (eC (.int 17))))) xT)
   (gL))
def mI:Sf:=(zP (sIf (eB2 gEq (xW (eV 7) (eC (.int 12))) (eC (.int 1))) (eZ 6 (eV 8) (vV (zY2 (eC (.int 1)) (eV 2)) (xW (wW (eV 7) (eC (.int 72))) (eC (.int 3))))) xT)
   (mE))
def gZ:Sf:=(zP (sIf (eB2 gEq (xW (eV 7) (eC (.int 12))) (eC (.int 0))) (eZ 6 (eV 8) (rO (eIx (eV 4) (eV 8)) (eC (.int 1)))) xT)
   (mI))
def fH:Sf:=(zP (yP 8 (xW (wW (eV 7) (eC (.int 24))) (eV 1)))
   (gZ))
def gX:Sf:=(zP (yP 7 (zO 2 wL (zY (eV 0) (zY (eC (.int 39373)) zR))))
   (fH))
def fK:Sf:=(zP (uT 6 (yJ (iR (eV 1)) 1 [2,4,5] (gN 0) tOK (zOD (rO (zY2 (eC (.int 1)) (eV 1)) (eC (.int 1))) (vV (eIx (eV 2) (eV 0)) (eIx (eV 3) (eV 0))))))
   (gX))
def gF:Sf:=(zP (yP 5 (eL (yJ (iR (eV 1)) 1 [3,0] (gN 0) tOK (xW (zO 2 wL (zY (eV 2) (zY (vV (eC (.int 69621)) (sJ (eC (.int 22)) (eV 0))) zR))) (eV 1)))))
   (fK))
def mJ:Sf:=(zP (yP 4 (zO 3 cP (zY (eV 0) (zY (eV 1) (zY (eV 2) zR)))))
   (gF))
def zPh:Sf :=
   (mJ)
def eN:List D->Option D:=fnF 9 zPh
theorem zXw (T:Txt w K mg):OkT P w base T.q40 3 4 eN :=
 xG (k:=2) T.q40.F qE fun cdv A outer s H E hr =>
   (zV mJ rfl (zK 4 qE.nd (xJ (zTi T) hr (zZ (zU 0) (zZ (zU 1) (zZ (zU 2) zW)))))
     (zV gF rfl (zK 5 qE.nd (wB (wE (zS lC) ["_law_number","_law_dims","_law_level","_law_most","_law_low","_law_far_here","_law_high","_law_way","_law_axis"] ["_law_axis"] ["_law_most","_law_number"] [3,0] (uI 0) (zZU rfl T.z_range (zU 1)) rfl rfl rfl (by decide +kernel) (fun _ _ _ _=>(xQ 0 (show(List.Nodup (α:=PySem.Str) ["_law_axis","_law_most","_law_number"]) from by decide +kernel))) (fun _ _ _ _=>yH) (fun _ _ _ _=>(yC (xJ (tL T) hr (zZ (zU 2) (zZ (vS zX (vE zX (zU 0))) zW))) (zU 1))))))
     (zV fK rfl (tR (zS lC) ["_law_number","_law_dims","_law_level","_law_most","_law_low","_law_far_here","_law_high","_law_way","_law_axis"] ["_law_axis"] ["_law_level","_law_low","_law_far_here"] [2,4,5] (uI 0) 6 qE.nd rfl rfl (zZU rfl T.z_range (zU 1)) rfl rfl rfl (by decide +kernel) (fun _ _ _ _=>(xQ 0 (show(List.Nodup (α:=PySem.Str) ["_law_axis","_law_level","_law_low","_law_far_here"]) from by decide +kernel))) (fun _ _ _ _=>yH) (fun _ _ _ _=>(zKg rfl rfl T.z_min (qG (zVh zX (zU 1)) zX) (vS (yE (zU 2) (zU 0)) (yE (zU 3) (zU 0))))))
     (zV gX rfl (zK 7 qE.nd (xJ (tL T) hr (zZ (zU 0) (zZ zX zW))))
     (zV fH rfl (zK 8 qE.nd (yC (xN (zU 7) zX) (zU 1)))
     (zV gZ rfl (yR (zF wC (yC (zU 7) zX) zX) (zT (zYE 6 (qG (yE (zU 4) (zU 8)) zX) (zU 8))) zJ)
     (zV mI rfl (yR (zF wC (yC (zU 7) zX) zX) (zT (zYE 6 (vS (zVh zX (zU 2)) (yC (xN (zU 7) zX) zX)) (zU 8))) zJ)
     (zV mE rfl (yR (zF wC (yC (zU 7) zX) zX) (zT (zYE 6 (vS (zRB 6 (zU 8)) (zV2 zX zX)) (zU 8))) zJ)
     (zT (uS 6 (zM (zN (zZ (zU 4) (zZ (wH rfl T.z_tuple (zU 6)) zW))))))))))))))
theorem uW:FnScope ["_law_number","_law_dims","_law_level","_law_names","_law_most","_law_drawn","_law_name","_law_low","_law_high","_law_wide","_law_many","_law_what"] ["_law_number","_law_dims","_law_level","_law_names","_law_most"] (zS cL):=xY (by decide +kernel)
def lW:Sf:=(yO (yW (zY (eC (.str "cover")) (zY (eV 7) (zY (eV 8) (zY (eV 10) zR))))))
def pY:Sf:=(zP (sIf (eB2 gEq (eV 11) (eC (.int 18))) (yO (yW (zY (eC (.str "spans")) (zY (eV 7) (zY (eV 8) zR))))) xT)
   (lW))
def pN:Sf:=(zP (sIf (eB2 gEq (eV 11) (eC (.int 17))) (yO (yW (zY (eC (.str "place")) (zY (eIx (eL (yA (zY (xW (eV 0) (vV (zY2 (eC (.int 1)) (sJ (eV 1) (eV 2))) (eC (.int 2)))) (zY (xW (eV 0) (zXo (eC (.int 10)) (eC (.int 60)))) zR)))) (wW (xW (wW (eV 5) (eC (.int 640))) (eC (.int 5))) (eC (.int 4)))) zR)))) xT)
   (pY))
def pU:Sf:=(zP (sIf (eB2 gEq (eV 11) (eC (.int 16))) (yO (yW (zY (eC (.str "number")) (zY (eIx (eV 9) (wW (xW (wW (eV 5) (eC (.int 640))) (eC (.int 8))) (eC (.int 7)))) zR)))) xT)
   (pN))
def pW:Sf:=(zP (sIf (eB2 gEq (eV 11) (eC (.int 15))) (yO (yW (zY (eC (.str "near")) (zY (eIx (eV 9) (wW (xW (wW (eV 5) (eC (.int 640))) (eC (.int 8))) (eC (.int 7)))) (zY (eV 10) zR))))) xT)
   (pU))
def pZ:Sf:=(zP (sIf (nE (eB2 gEq (eV 11) (eC (.int 13))) (eB2 gEq (eV 11) (eC (.int 14)))) (yO (eIx (eL (yA (zY (iK (yW (zY (eC (.str "inside")) zR)) (eV 9)) (zY (iK (yW (zY (eC (.str "meeting")) zR)) (eV 9)) zR)))) (rO (eV 11) (eC (.int 13))))) xT)
   (pW))
def nZ:Sf:=(zP (sIf (nE (eB2 gEq (eV 11) (eC (.int 11))) (eB2 gEq (eV 11) (eC (.int 12)))) (yO (eIx (eL (yA (zY (yW (zY (eC (.str "names")) zR)) (zY (yW (zY (eC (.str "sharing")) zR)) zR)))) (rO (eV 11) (eC (.int 11))))) xT)
   (pZ))
def oI:Sf:=(zP (sIf (nE (eB2 gEq (eV 11) (eC (.int 9))) (eB2 gEq (eV 11) (eC (.int 10)))) (yO (eIx (eL (yA (zY (yW (zY (eC (.str "take")) (zY (eV 6) zR))) (zY (yW (zY (eC (.str "where")) (zY (eV 6) zR))) zR)))) (rO (eV 11) (eC (.int 9))))) xT)
   (nZ))
def oC:Sf:=(zP (sIf (eB2 gLt (eV 11) (eC (.int 9))) (yO (yW (zY (eC (.str "move")) (zY (eV 6) (zY (eV 7) (zY (eV 8) zR)))))) xT)
   (oI))
def oB:Sf:=(zP (sIf (eB2 gLt (eV 11) (eC (.int 7))) (yO (yW (zY (eC (.str "put")) (zY (eV 6) (zY (eV 7) (zY (eV 8) zR)))))) xT)
   (oC))
def jJ:Sf:=(zP (yP 11 (xW (eV 5) (eC (.int 20))))
   (oB))
def jO:Sf:=(zP (yP 10 (eIx (eL (yA (zY (vV (eC (.int 1)) (xW (wW (eV 5) (eC (.int 160))) (eC (.int 4)))) (zY (vV (eC (.int 1)) (xW (wW (eV 5) (eC (.int 160))) (eC (.int 999)))) (zY (eC (.int 999)) zR))))) (xW (wW (eV 5) (eC (.int 640))) (eC (.int 3)))))
   (jJ))
def jP:Sf:=(zP (yP 9 (zO 4 eN (zY (eV 0) (zY (eV 1) (zY (eV 2) (zY (vV (vV (eV 4) (eC (.int 2))) (sJ (eC (.int 3)) (sS (vI (eB2 gLt (eV 2) (rO (eC (.int 6)) (eV 1))))))) zR))))))
   (jO))
def iU:Sf:=(zP (mO (zO 4 eN (zY (eV 0) (zY (eV 1) (zY (eV 2) (zY (eV 4) zR))))) (gT (zL (gN 7) (zL (gN 8) xP))))
   (jP))
def kJ:Sf:=(zP (yP 6 (eIx (eV 3) (xW (wW (eV 5) (eC (.int 20))) (xB (eV 3)))))
   (iU))
def oN:Sf:=(zP (yP 5 (zO 2 wL (zY (eV 0) (zY (eC (.int 48271)) zR))))
   (kJ))
def zSL:Sf :=
   (oN)
def cK:List D->Option D:=fnF 12 zSL
theorem zSX (T:Txt w K mg):OkT P w base T.q41 4 5 cK :=
 xG (k:=3) T.q41.F uW fun cdv A outer s H E hr =>
   (zV oN rfl (zK 5 uW.nd (xJ (tL T) hr (zZ (zU 0) (zZ zX zW))))
     (zV kJ rfl (zK 6 uW.nd (yE (zU 3) (yC (xN (zU 5) zX) (vU rfl T.z_len (zU 3)))))
     (zV iU rfl (oM (xJ (zXw T) hr (zZ (zU 0) (zZ (zU 1) (zZ (zU 2) (zZ (zU 4) zW))))) (nK 2 rfl (zI (xQ 7 uW.nd) (zI (xQ 8 uW.nd) xL)) (yS (yS wZ))))
     (zV jP rfl (zK 9 uW.nd (xJ (zXw T) hr (zZ (zU 0) (zZ (zU 1) (zZ (zU 2) (zZ (vS (vS (zU 4) zX) (vE zX (fS rfl T.z_int (rF zTL (zU 2) (qG zX (zU 1)))))) zW))))))
     (zV jO rfl (zK 10 uW.nd (yE (wB (yG (zZ (vS zX (yC (xN (zU 5) zX) zX)) (zZ (vS zX (yC (xN (zU 5) zX) zX)) (zZ zX zW))))) (yC (xN (zU 5) zX) zX)))
     (zV jJ rfl (zK 11 uW.nd (yC (zU 5) zX))
     (zV oB rfl (yR (zF zTL (zU 11) zX) (zT (zM (zN (zZ yQ (zZ (zU 6) (zZ (zU 7) (zZ (zU 8) zW))))))) zJ)
     (zV oC rfl (yR (zF zTL (zU 11) zX) (zT (zM (zN (zZ yQ (zZ (zU 6) (zZ (zU 7) (zZ (zU 8) zW))))))) zJ)
     (zV oI rfl (yR (kY (sC (zF wC (zU 11) zX) (tX (zF wC (zU 11) zX)))) (zT (zM (yE (wB (yG (zZ (zN (zZ yQ (zZ (zU 6) zW))) (zZ (zN (zZ yQ (zZ (zU 6) zW))) zW)))) (qG (zU 11) zX)))) zJ)
     (zV nZ rfl (yR (kY (sC (zF wC (zU 11) zX) (tX (zF wC (zU 11) zX)))) (zT (zM (yE (wB (yG (zZ (zN (zZ yQ zW)) (zZ (zN (zZ yQ zW)) zW)))) (qG (zU 11) zX)))) zJ)
     (zV pZ rfl (yR (kY (sC (zF wC (zU 11) zX) (tX (zF wC (zU 11) zX)))) (zT (zM (yE (wB (yG (zZ (bY (zN (zZ yQ zW)) (zU 9)) (zZ (bY (zN (zZ yQ zW)) (zU 9)) zW)))) (qG (zU 11) zX)))) zJ)
     (zV pW rfl (yR (zF wC (zU 11) zX) (zT (zM (zN (zZ yQ (zZ (yE (zU 9) (xN (yC (xN (zU 5) zX) zX) zX)) (zZ (zU 10) zW)))))) zJ)
     (zV pU rfl (yR (zF wC (zU 11) zX) (zT (zM (zN (zZ yQ (zZ (yE (zU 9) (xN (yC (xN (zU 5) zX) zX) zX)) zW))))) zJ)
     (zV pN rfl (yR (zF wC (zU 11) zX) (zT (zM (zN (zZ yQ (zZ (yE (wB (yG (zZ (yC (zU 0) (vS (zVh zX (vE (zU 1) (zU 2))) zX)) (zZ (yC (zU 0) (zV2 zX zX)) zW)))) (xN (yC (xN (zU 5) zX) zX) zX)) zW))))) zJ)
     (zV pY rfl (yR (zF wC (zU 11) zX) (zT (zM (zN (zZ yQ (zZ (zU 7) (zZ (zU 8) zW)))))) zJ)
     (zT (zM (zN (zZ yQ (zZ (zU 7) (zZ (zU 8) (zZ (zU 10) zW))))))))))))))))))))))
theorem zZu:FnScope ["_law_found","_law_due","_law_k"] ["_law_found","_law_due"] (zS cO):=xY (by decide +kernel)
def pX (self:List D->Option D):Sf:=(sIf (sO (tB1 (zO 2 self (zY (eIx (eV 0) (eV 2)) (zY (eIx (eV 1) (eV 2)) zR))))) (yO (eC (.bl false))) xT)
def aX (self:List D->Option D):Sf:=(yO (eC (.bl true)))
def rJ (self:List D->Option D):Sf:=(zP (qO (iR (xB (eV 1))) (gN 2) (pX self))
   (aX self))
def oR (self:List D->Option D):Sf:=(zP (sIf (eB2 gNe (xB (eV 0)) (xB (eV 1))) (yO (eC (.bl false))) xT)
   (rJ self))
def oA (self:List D->Option D):Sf:=(zP (sIf (rP (tB1 (pI rQ (eV 1))) (sO (tB1 (pI rQ (eV 0))))) (yO (eC (.bl false))) xT)
   (oR self))
def nV (self:List D->Option D):Sf:=(zP (sIf (rP (tB1 (pI dF (eV 1))) (sO (tB1 (pI dF (eV 0))))) (yO (eC (.bl false))) xT)
   (oA self))
def rE (self:List D->Option D):Sf:=(zP (sIf (tB1 (pI hJ (eV 1))) (yO (iF (pI hJ (eV 0)) (vI (eB2 gEq (eV 0) (eV 1))))) xT)
   (nV self))
def tD (self:List D->Option D):Sf:=(zP (sIf (tB1 (pI isInt (eV 1))) (yO (iF (pI isInt (eV 0)) (iF (vI (sO (tB1 (pI fJ (eV 0))))) (vI (eB2 gEq (eV 0) (eV 1)))))) xT)
   (rE self))
def tJ (self:List D->Option D):Sf:=(zP (sIf (eB2 hZ (eV 1) (eC (.bl false))) (yO (vI (eB2 hZ (eV 0) (eC (.bl false))))) xT)
   (tD self))
def tK (self:List D->Option D):Sf:=(zP (sIf (eB2 hZ (eV 1) (eC (.bl true))) (yO (vI (eB2 hZ (eV 0) (eC (.bl true))))) xT)
   (tJ self))
def wI (self:List D->Option D):Sf:=(zP (sIf (eB2 hZ (eV 1) (eC .non)) (yO (vI (eB2 hZ (eV 0) (eC .non)))) xT)
   (tK self))
def zYg (self:List D->Option D):Sf :=
   (wI self)
def yN:Nat->List D->Option D
 | 0,_=>none
 | n+1,ds=>fnF 3 (zYg (yN n)) ds
abbrev tQ:List D->Option D:=yN 7
theorem aE (T:Txt w K mg):∀n:Nat,FnOk P w K mg base CX0 (1+n) T.q42.f T.q42.fd ["_law_found","_law_due"] (spF K 2 (yN n))
 | 0=>zNJ
 | n+1=>by
   have IH:=aE T n
   exact xG (k:=1+n) (body:=zYg (yN n)) T.q42.F zZu fun cdv A outer s H E hr=>(zV (wI (yN n)) rfl (yR (zF pH (zU 1) wF) (zT (zM (rF pH (zU 0) wF))) zJ)
     (zV (tK (yN n)) rfl (yR (zF pH (zU 1) iH) (zT (zM (rF pH (zU 0) iH))) zJ)
     (zV (tJ (yN n)) rfl (yR (zF pH (zU 1) iH) (zT (zM (rF pH (zU 0) iH))) zJ)
     (zV (tD (yN n)) rfl (yR (vR (pE (T:="int") (TT:="int") rfl zML rfl T.z_isinstance rfl T.z_int (zU 1))) (zT (zM (zXF (pE (T:="int") (TT:="int") rfl zML rfl T.z_isinstance rfl T.z_int (zU 0)) (zXF (zJW (pE (T:="bool") (TT:="bool") rfl zMh rfl T.z_isinstance rfl T.z_bool (zU 0))) (zVo (rF wC (zU 0) (zU 1))))))) zJ)
     (zV (rE (yN n)) rfl (yR (vR (pE (T:="str") (TT:="str") rfl zM0 rfl T.z_isinstance rfl T.z_str (zU 1))) (zT (zM (zXF (pE (T:="str") (TT:="str") rfl zM0 rfl T.z_isinstance rfl T.z_str (zU 0)) (zVo (rF wC (zU 0) (zU 1)))))) zJ)
     (zV (nV (yN n)) rfl (yR (kY (eF (vR (pE (T:="list") (TT:="list") rfl zOn rfl T.z_isinstance rfl T.z_list (zU 1))) (kO (aQ (vR (pE (T:="list") (TT:="list") rfl zOn rfl T.z_isinstance rfl T.z_list (zU 0))))))) (zT (zM iH)) zJ)
     (zV (oA (yN n)) rfl (yR (kY (eF (vR (pE (T:="tuple") (TT:="tuple") rfl zY6 rfl T.z_isinstance rfl T.z_tuple (zU 1))) (kO (aQ (vR (pE (T:="tuple") (TT:="tuple") rfl zY6 rfl T.z_isinstance rfl T.z_tuple (zU 0))))))) (zT (zM iH)) zJ)
     (zV (oR (yN n)) rfl (yR (zF dR (vU rfl T.z_len (zU 0)) (vU rfl T.z_len (zU 1))) (zT (zM iH)) zJ)
     (zV (rJ (yN n)) rfl (sH Eg rfl (zZU rfl T.z_range (vU rfl T.z_len (zU 1))) (xQ 2 zZu.nd) (zT (yR (aQ (vR (xJ IH hr (zZ (yE (zU 0) (zU 2)) (zZ (yE (zU 1) (zU 2)) zW))))) (zT (zM iH)) zJ)))
     (zT (zM iH)))))))))))
theorem zZc (T:Txt w K mg):OkT P w base T.q42 8 2 tQ:=aE T 7
theorem zXm:FnScope ["_law_part"] ["_law_part"] (zS oJ):=xY (by decide +kernel)
def zYc:Sf:=(yO (eV 0))
def qY:Sf:=(zP (sIf (tB1 (pI rQ (eV 0))) (yO (wX (eL (yJ (iT (eV 0)) 1 [] (gN 0) tOK (zLe (eC (.int 0)) (eV 0)))))) xT)
   (zYc))
def zVz:Sf :=
   (qY)
def tH:List D->Option D:=fnF 1 zVz
theorem zWZ (T:Txt w K mg):OkT P w base T.q43 1 1 tH :=
 xG (k:=0) T.q43.F zXm fun cdv A outer s H E hr =>
   (zV qY rfl (yR (vR (pE (T:="tuple") (TT:="tuple") rfl zY6 rfl T.z_isinstance rfl T.z_tuple (zU 0))) (zT (zM (wH rfl T.z_tuple (wB (wE (zS oJ) ["_law_part"] ["_law_each"] [] [] (uI 0) (zXe (zU 0)) rfl rfl rfl (by decide +kernel) (fun _ _ _ _=>(xQ 0 (show(List.Nodup (α:=PySem.Str) ["_law_each"]) from by decide +kernel))) (fun _ _ _ _=>yH) (fun _ _ _ _=>(zJK rfl rfl T.z_max zX (zU 0)))))))) zJ)
     (zT (zM (zU 0))))
theorem zTr:FnScope ["_law_deed_here"] ["_law_deed_here"] (zS kK):=xY (by decide +kernel)
def bZ:Sf:=(yO (wX (eL (yJ (iT (eV 0)) 1 [] (gN 0) tOK (zO 1 tH (zY (eV 0) zR))))))
def tG:Sf:=(zP (sIf (eB2 zUm (eIx (eV 0) (eC (.int 0))) (eL (yA (zY (eC (.str "names")) (zY (eC (.str "sharing")) (zY (eC (.str "take")) (zY (eC (.str "where")) zR))))))) (yO (eV 0)) xT)
   (bZ))
def zS3:Sf :=
   (tG)
def cT:List D->Option D:=fnF 1 zS3
theorem zUv (T:Txt w K mg):OkT P w base T.q44 2 1 cT :=
 xG (k:=1) T.q44.F zTr fun cdv A outer s H E hr =>
   (zV tG rfl (yR (zF zRK (yE (zU 0) zX) (wB (yG (zZ yQ (zZ yQ (zZ yQ (zZ yQ zW))))))) (zT (zM (zU 0))) zJ)
     (zT (zM (wH rfl T.z_tuple (wB (wE (zS kK) ["_law_deed_here"] ["_law_part"] [] [] (uI 0) (zXe (zU 0)) rfl rfl rfl (by decide +kernel) (fun _ _ _ _=>(xQ 0 (show(List.Nodup (α:=PySem.Str) ["_law_part"]) from by decide +kernel))) (fun _ _ _ _=>yH) (fun _ _ _ _=>(xJ (zWZ T) hr (zZ (zU 0) zW)))))))))
theorem bN:FnScope ["_law_place"] ["_law_place"] (zS sY):=xY (by decide +kernel)
def rW:Sf:=(yO (oZ (eC (.str ",")) (yJ (iT (eV 0)) 1 [] (gN 0) tOK (sB (eV 0)))))
def zZY:Sf :=
   (rW)
def qB:List D->Option D:=fnF 1 zZY
theorem bX (T:Txt w K mg):OkT P w base T.q45 1 1 qB :=
 xG (k:=0) T.q45.F bN fun cdv A outer s H E hr =>
   (zT (zM (aM (uB Et Tt Tu bG yQ (yY (aB (wE (zS sY) ["_law_place"] ["_law_each"] [] [] (uI 0) (zXe (zU 0)) rfl rfl rfl (by decide +kernel) (fun _ _ _ _=>(xQ 0 (show(List.Nodup (α:=PySem.Str) ["_law_each"]) from by decide +kernel))) (fun _ _ _ _=>yH) (fun _ _ _ _=>(bV rfl T.z_str (zU 0))))) yK)))))
theorem pC:FnScope ["_law_deed_here","_law_words","_law_part"] ["_law_deed_here"] (zS mT):=xY (by decide +kernel)
def uA:Sf:=(sIf (tB1 (pI rQ (eV 2))) (iC 1 (zO 1 qB (zY (eV 2) zR))) (iC 1 (zMq (eV 2))))
def lB:Sf:=(kQ 1 (yO (oZ (eC (.str " ")) (iL (eV 1)))))
def qI:Sf:=(zP (qO (iT (cU (eV 0) (tT (eC (.int 1))) oNo)) (gN 2) (uA))
   (lB))
def tI:Sf:=(zP (uT 1 (yA (zY (eIx (eV 0) (eC (.int 0))) zR)))
   (qI))
def zXQ:Sf :=
   (tI)
def nP:List D->Option D:=fnF 3 zXQ
theorem zYX (T:Txt w K mg):OkT P w base T.q46 2 1 nP :=
 xG (k:=1) T.q46.F pC fun cdv A outer s H E hr =>
   (zV tI rfl (tM 1 pC.nd (yG (zZ (yE (zU 0) zX) zW)))
     (zV qI rfl (sH Eg rfl (zXe (zYL (zU 0) (dO zX) zW8)) (xQ 2 pC.nd) (zT (yR (vR (pE (T:="tuple") (TT:="tuple") rfl zY6 rfl T.z_isinstance rfl T.z_tuple (zU 2))) (zT (mS 1 (uB Wg Wl Wz vL (pv 1) (yY (xJ (bX T) hr (zZ (zU 2) zW)) yK)))) (zT (mS 1 (uB Wg Wl Wz vL (pv 1) (yY (zKI rfl T.z_str (zU 2)) yK)))))))
     (zT (uS 1 (zM (aM (uB Et Tt Tu bG yQ (yY (zZs (zU 1)) yK))))))))
theorem rT:FnScope ["_law_deed_here","_law_cell","_law_number","_law_parts","_law_k","_law_part","_law_axis","_law_far_here"] ["_law_deed_here","_law_cell","_law_number"] (zS zZK):=xY (by decide +kernel)
def iW:Sf:=(iC 3 (eV 5))
def vH:Sf:=(zP (sIf (rP (tB1 (pI rQ (eV 5))) (eB2 gEq (xW (wW (eV 2) (eC (.int 3))) (eC (.int 3))) (eC (.int 1)))) (zP (yP 6 (xW (vV (wW (eV 2) (eC (.int 9))) (eV 4)) (xB (eV 5))))
   (zP (yP 7 (xW (zMT (vV (eV 1) (eV 4)) (eC (.int 2718281828459045235360287471352662497757))) (zXo (eC (.int 10)) (eC (.int 60)))))
   (yP 5 (iK (iK (cU (eV 5) oNo (tT (eV 6))) (yW (zY (eV 7) zR))) (cU (eV 5) (tT (vV (eV 6) (eC (.int 1)))) oNo))))) xT)
   (iW))
def zTJ:Sf:=(kQ 3 (yO (wX (eV 3))))
def hU:Sf:=(zP (qO (bF (iT (cU (eV 0) (tT (eC (.int 1))) oNo))) (gT (zL (gN 4) (zL (gN 5) xP))) (vH))
   (zTJ))
def mH:Sf:=(zP (uT 3 (yA (zY (eIx (eV 0) (eC (.int 0))) zR)))
   (hU))
def zQo:Sf :=
   (mH)
def zZ6:List D->Option D:=fnF 8 zQo
theorem zSq (T:Txt w K mg):OkT P w base T.q47 1 3 zZ6 :=
 xG (k:=0) T.q47.F rT fun cdv A outer s H E hr =>
   (zV mH rfl (tM 3 rT.nd (yG (zZ (yE (zU 0) zX) zW)))
     (zV hU rfl (sH Eg rfl (zNb rfl T.z_enumerate (zYL (zU 0) (dO zX) zW8)) (nK 2 rfl (zI (xQ 4 rT.nd) (zI (xQ 5 rT.nd) xL)) (yS (yS wZ))) (zV vH rfl (yR (kY (eF (vR (pE (T:="tuple") (TT:="tuple") rfl zY6 rfl T.z_isinstance rfl T.z_tuple (zU 5))) (kO (zF wC (yC (xN (zU 2) zX) zX) zX)))) (wV (zK 6 rT.nd (yC (vS (xN (zU 2) zX) (zU 4)) (vU rfl T.z_len (zU 5))))
     (wV (zK 7 rT.nd (yC (zKU (vS (zU 1) (zU 4)) zX) (zV2 zX zX)))
     (zT (zK 5 rT.nd (bY (bY (zYL (zU 5) zW8 (dO (zU 6))) (zN (zZ (zU 7) zW))) (zYL (zU 5) (dO (vS (zU 6) zX)) zW8)))))) zJ)
     (zT (mS 3 (uB Wg Wl Wz vL (pv 3) (yY (zU 5) yK))))))
     (zT (uS 3 (zM (wH rfl T.z_tuple (zU 3)))))))
theorem rZ:FnScope ["_law_script","_law_number","_law_dims","_law_joined_here","_law_parts","_law_level","_law_names","_law_rows","_law_due","_law_k","_law_cell","_law_drawn","_law_deed_here","_law_scene"] ["_law_script"] (zS zQH):=xY (by decide +kernel)
def zSY:Sf:=(iC 7 (zO 1 nP (zY (zQk 8 (eV 9)) zR)))
def zX5:Sf:=(zP (iC 8 (zO 1 cT (zY (zO 3 zZ6 (zY (eV 12) (zY (eV 10) (zY (zO 2 wL (zY (eV 11) (zY (eC (.int 99991)) zR))) zR)))) zR)))
   (zSY))
def zXX:Sf:=(zP (yP 12 (zO 5 cK (zY (eV 11) (zY (eV 2) (zY (eV 5) (zY (eV 6) (zY (eC (.int 4)) zR)))))))
   (zX5))
def lE:Sf:=(zP (yP 11 (xX (eV 10) (sJ (sJ (eC (.int 65537)) (eV 9)) (eV 9))))
   (zXX))
def zTH:Sf:=(kQ 8 (yO (iF (zO 2 tQ (zY (wM "Scene" "deeds" (eV 13)) (zY (eV 8) zR))) (zO 2 tQ (zY (eL (yA (zY (wM "Scene" "level" (eV 13)) (zY (wM "Scene" "size" (eV 13)) zR)))) (zY (eL (yA (zY (eV 5) (zY (eC (.int 5)) zR)))) zR))))))
def zYa:Sf:=(zP (kQ 7 (yP 13 (zO 1 jC (zY (oZ (eC (.str "\n")) (iL (eV 7))) zR))))
   (zTH))
def zX4:Sf:=(zP (kQ 6 (qO (bF (lT (eV 0) (tT (eC (.int 3))) (tT (eC (.int 63))))) (gT (zL (gN 9) (zL (gN 10) xP))) (lE)))
   (zYa))
def zVF:Sf:=(zP (uT 8 (yA zR))
   (zX4))
def zUR:Sf:=(zP (iC 7 (xX (xX (eC (.str "floor ")) (sB (eV 5))) (eC (.str " 5"))))
   (zVF))
def zUE:Sf:=(zP (uT 7 (sV 4 qF (zY (zQk 6 (eC (.int 0))) (zY (eV 3) (zY (eV 2) (zY (eV 4) zR))))))
   (zUR))
def zVf:Sf:=(zP (uT 6 (yJ (iR (eC (.int 8))) 1 [0] (gN 0) tOK (zO 2 jR (zY (xW (zO 2 vY (zY (eV 1) (zY (eC (.int 2)) zR))) (zXo (eC (.int 10)) (eC (.int 12)))) (zY (eV 0) zR)))))
   (zUE))
def zYJ:Sf:=(zP (yP 5 (xW (wW (eV 1) (eC (.int 4))) (rO (eC (.int 11)) (sJ (eC (.int 2)) (eV 2)))))
   (zVf))
def zYI:Sf:=(zP (sIf (tB1 (eV 3)) (yP 4 (eL (sV 2 jQ (zY (eV 2) (zY (zO 2 wL (zY (zO 2 vY (zY (eV 0) (zY (eC (.int 1)) zR))) (zY (eC (.int 16807)) zR))) zR))))) xT)
   (zYJ))
def bP:Sf:=(zP (yP 4 (eL (sV 2 eR (zY (eV 2) (zY (zO 2 vY (zY (eV 0) (zY (eC (.int 1)) zR))) zR)))))
   (zYI))
def zVt:Sf:=(zP (yP 3 (vI (eB2 gEq (xW (wW (eV 1) (eC (.int 2))) (eC (.int 2))) (eC (.int 1)))))
   (bP))
def zU8:Sf:=(zP (yP 2 (xX (eC (.int 2)) (xW (eV 1) (eC (.int 2)))))
   (zVt))
def zYK:Sf:=(zP (yP 1 (zO 2 wL (zY (zO 2 vY (zY (eV 0) (zY (eC (.int 0)) zR))) (zY (eC (.int 48271)) zR))))
   (zU8))
def zH7:Sf :=
   (zYK)
def zW3:List D->Option D:=fnF 14 zH7
theorem zJv (T:Txt w K mg):OkT P w base T.q48 9 1 zW3 :=
 xG (k:=8) T.q48.F rZ fun cdv A outer s H E hr =>
   (zV zYK rfl (zK 1 rZ.nd (xJ (tL T) hr (zZ (xJ (qT T) hr (zZ (zU 0) (zZ zX zW))) (zZ zX zW))))
     (zV zU8 rfl (zK 2 rZ.nd (xC zX (yC (zU 1) zX)))
     (zV zVt rfl (zK 3 rZ.nd (rF wC (yC (xN (zU 1) zX) zX) zX))
     (zV bP rfl (zK 4 rZ.nd (wB (zV1 (zVs T) hr (zZ (zU 2) (zZ (xJ (qT T) hr (zZ (zU 0) (zZ zX zW))) zW)))))
     (zV zYI rfl (yR (vR (zU 3)) (zT (zK 4 rZ.nd (wB (zV1 (zXg T) hr (zZ (zU 2) (zZ (xJ (tL T) hr (zZ (xJ (qT T) hr (zZ (zU 0) (zZ zX zW))) (zZ zX zW))) zW)))))) zJ)
     (zV zYJ rfl (zK 5 rZ.nd (yC (xN (zU 1) zX) (qG zX (vE zX (zU 2)))))
     (zV zVf rfl (tR (zS zQH) ["_law_script","_law_number","_law_dims","_law_joined_here","_law_parts","_law_level","_law_names","_law_rows","_law_due","_law_k","_law_cell","_law_drawn","_law_deed_here","_law_scene"] ["_law_k"] ["_law_script"] [0] (uI 0) 6 rZ.nd rfl rfl (zZU rfl T.z_range zX) rfl rfl rfl (by decide +kernel) (fun _ _ _ _=>(xQ 0 (show(List.Nodup (α:=PySem.Str) ["_law_k","_law_script"]) from by decide +kernel))) (fun _ _ _ _=>yH) (fun _ _ _ _=>(xJ (zTU T) hr (zZ (yC (xJ (qT T) hr (zZ (zU 1) (zZ zX zW))) (zV2 zX zX)) (zZ (zU 0) zW)))))
     (zV zUE rfl (tM 7 rZ.nd (zV1 (aC T) hr (zZ (zRB 6 zX) (zZ (zU 3) (zZ (zU 2) (zZ (zU 4) zW))))))
     (zV zUR rfl (mS 7 (uB Wg Wl Wz vL (pv 7) (yY (xC (xC yQ (bV rfl T.z_str (zU 5))) yQ) yK)))
     (zV zVF rfl (tM 8 rZ.nd (yG zW))
     (zV zX4 rfl (uS 6 (sH Eg rfl (zKZ rfl T.z_enumerate (aB (zY8 (zU 0) (dO zX) (dO zX)))) (nK 2 rfl (zI (xQ 9 rZ.nd) (zI (xQ 10 rZ.nd) xL)) (yS (yS wZ))) (zV lE rfl (zK 11 rZ.nd (xC (zU 10) (vE (vE zX (zU 9)) (zU 9))))
     (zV zXX rfl (zK 12 rZ.nd (xJ (zSX T) hr (zZ (zU 11) (zZ (zU 2) (zZ (zU 5) (zZ (zU 6) (zZ zX zW)))))))
     (zV zX5 rfl (mS 8 (uB Wg Wl Wz vL (pv 8) (yY (xJ (zUv T) hr (zZ (xJ (zSq T) hr (zZ (zU 12) (zZ (zU 10) (zZ (xJ (tL T) hr (zZ (zU 11) (zZ zX zW))) zW)))) zW)) yK)))
     (zT (mS 7 (uB Wg Wl Wz vL (pv 7) (yY (xJ (zYX T) hr (zZ (zRB 8 (zU 9)) zW)) yK)))))))))
     (zV zYa rfl (uS 7 (zK 13 rZ.nd (xJ (zTp T) hr (zZ (aM (uB Et Tt Tu bG yQ (yY (zZs (zU 7)) yK))) zW))))
     (zT (uS 8 (zM (zXF (xJ (zZc T) hr (zZ (tP T.ca_Scene T.cl_Scene T.n_Scene_deeds (zU 13)) (zZ (zU 8) zW))) (zVo (xJ (zZc T) hr (zZ (wB (yG (zZ (tP T.ca_Scene T.cl_Scene T.n_Scene_level (zU 13)) (zZ (tP T.ca_Scene T.cl_Scene T.n_Scene_size (zU 13)) zW)))) (zZ (wB (yG (zZ (zU 5) (zZ zX zW)))) zW))))))))))))))))))))
end
open PySem.W
theorem zJV {l:OpenLaw}{w:World}{K:Frag}{h:Heap}{mg:Str->Option Value}{fa:Addr}
   {f14:Addr} {od14 an14:Option Addr} {sl14:Array (Option Value)} {oc14 kV14 dc14 pm14 cd14 ct14:Value}
   {tD14:Addr} {oD14:Obj} {nD14:Nat}
   {cC0 cF0:Addr} {codi0 cani0:Option Addr} {csl0:Array (Option Value)} {coc0 ckV0 cdc0 cpm0 ccd0 cct0:Value}
   {cC1 cF1:Addr} {codi1 cani1:Option Addr} {csl1:Array (Option Value)} {coc1 ckV1 cdc1 cpm1 ccd1 cct1:Value}
   {cC2 cF2:Addr} {codi2 cani2:Option Addr} {csl2:Array (Option Value)} {coc2 ckV2 cdc2 cpm2 ccd2 cct2:Value}
   {t_BITS:Tok}
   {t_FLIPS:Tok}
   {t_AXES:Tok}
   {t_FIGURES:Tok}
   {t_LETTERS:Tok}
   {t_LONGEST_NUMBER:Tok}
   {t_LONGEST_WORD:Tok}
   {da_PROMISES:Addr} {dn_PROMISES:Nat} {dt_PROMISES_0  dt_PROMISES_1  : Tok}
   {da_DIMS:Addr} {dn_DIMS:Nat} {dt_DIMS_0 dv_DIMS_0 dt_DIMS_1 dv_DIMS_1:Tok}
   {da_MOST_LEVEL:Addr} {dn_MOST_LEVEL:Nat} {dt_MOST_LEVEL_0 dv_MOST_LEVEL_0 dt_MOST_LEVEL_1 dv_MOST_LEVEL_1:Tok}
   {t_LEAST_SIZE:Tok}
   {t_MOST_SIZE:Tok}
   {t_LEAST_MANY:Tok}
   {t_MOST_MANY:Tok}
   {t_MOST_DEEDS:Tok}
   {da_FORMS:Addr} {dn_FORMS:Nat} {dt_FORMS_0 tt_FORMS_0_0 tt_FORMS_0_1 tt_FORMS_0_2 dt_FORMS_1 tt_FORMS_1_0 tt_FORMS_1_1 tt_FORMS_1_2 dt_FORMS_2 tt_FORMS_2_0 dt_FORMS_3 dt_FORMS_4 tt_FORMS_4_0 dt_FORMS_5 tt_FORMS_5_0 tt_FORMS_5_1 dt_FORMS_6 tt_FORMS_6_0 tt_FORMS_6_1 dt_FORMS_7 tt_FORMS_7_0 tt_FORMS_7_1 dt_FORMS_8 dt_FORMS_9 tt_FORMS_9_0 dt_FORMS_10 tt_FORMS_10_0 dt_FORMS_11 tt_FORMS_11_0 tt_FORMS_11_1 dt_FORMS_12 tt_FORMS_12_0 tt_FORMS_12_1 tt_FORMS_12_2:Tok} {ta_FORMS_0 ta_FORMS_1 ta_FORMS_2 ta_FORMS_3 ta_FORMS_4 ta_FORMS_5 ta_FORMS_6 ta_FORMS_7 ta_FORMS_8 ta_FORMS_9 ta_FORMS_10 ta_FORMS_11 ta_FORMS_12:Addr} {tn_FORMS_0 tn_FORMS_1 tn_FORMS_2 tn_FORMS_3 tn_FORMS_4 tn_FORMS_5 tn_FORMS_6 tn_FORMS_7 tn_FORMS_8 tn_FORMS_9 tn_FORMS_10 tn_FORMS_11 tn_FORMS_12:Nat} (X:K.In h) (G:h.Ns mainGlobals mg) (hfa:mg "law"=some (.ref fa))
   (g0:w8 K "_law_mix" zZA)
   (g1:w8 K "_law_corners" sK)
   (g2:w8 K "_law_turn" jT)
   (g3:w8 K "_law_loose" fN)
   (g4:w8 K "_law_curve_rows" uZ)
   (g5:w8 K "is_made_of" oQ)
   (g6:w8 K "is_word" zZQ)
   (g7:w8 K "read_head" gU)
   (g8:w8 K "words_at" cJ)
   (g9:w8 K "corner_of" mN)
   (g10:w8 K "turn_of" kU)
   (g11:w8 K "read_part" gY)
   (g12:w8 K "full" zS1)
   (g13:w8 K "curve_from" jU)
   (a14:nsIn K mainGlobals "number_of"=some (some (.ref f14))) (l14:K.lookup f14=some ⟨oc14,od14,.func (fnOf "number_of" "number_of" (vC wR) (wJ wR) (zS wR) (.ref tD14) kV14 dc14 pm14 an14 cd14 ct14),sl14⟩) (c14:codeIn K cd14 "number_of"=true) (k14:keepIn K (.ref f14)=true)
   (dl14:K.lookup tD14=some oD14) (dd14:oD14.data = .seq #[.none] nD14)
   (g15:w8 K "number_from" lS)
   (g16:w8 K "read_floor" jH)
   (g17:w8 K "still" zYG)
   (g18:w8 K "first_state" mB)
   (g19:w8 K "walked" zXL)
   (g20:w8 K "after" zYN)
   (g21:w8 K "turned" bM)
   (g22:w8 K "part_at" zZN)
   (g23:w8 K "next_to" eD)
   (g24:w8 K "deeper" aR)
   (g25:w8 K "unmet_at" cA)
   (g26:w8 K "meeting_of" qR)
   (g27:w8 K "fitted" zX6)
   (g28:w8 K "place_of" kB)
   (g29:w8 K "read_value" iV)
   (g30:w8 K "read_deed" mL)
   (g31:w8 K "scene_of" cI)
   (g32:w8 K "_law_cell_at" lH)
   (g33:w8 K "_law_base" cN)
   (g34:w8 K "_law_after" mG)
   (g35:w8 K "_law_undone" jB)
   (g36:w8 K "_law_turned" oS)
   (g37:w8 K "_law_joined" oG)
   (g38:w8 K "_law_word" cD)
   (g39:w8 K "_law_spot" jK)
   (g40:w8 K "_law_box" lC)
   (g41:w8 K "_law_deed" cL)
   (g42:w8 K "_law_same" cO)
   (g43:w8 K "_law_raised" oJ)
   (g44:w8 K "_law_shut" kK)
   (g45:w8 K "_law_place_text" sY)
   (g46:w8 K "_law_deed_row" mT)
   (g47:w8 K "_law_far" zZK)
   (g48:w8 K "law" zQH)
   (ca0:nsIn K mainGlobals "Part"=some (some (.ref cC0))) (ci0:findIn K (.ref cC0) "__init__"=some (some (.ref cF0))) (cn0:isFn K (.ref cF0)=true) (cl0:K.lookup cF0=some ⟨coc0,codi0,.func (fnOf "__init__" "Part.__init__" (vC eQ) (wJ eQ) (zS eQ) .none ckV0 cdc0 cpm0 cani0 ccd0 cct0),csl0⟩) (cc0:codeIn K ccd0 "Part.__init__"=true) (ck0:keepIn K (.ref cF0)=true)
   (cpg0:plainGet K cC0 Str.empty=true) (chd0:hasDictIn K cC0=true) (cpo0:plainOver K cC0=true) (csa0:findIn K (.ref cC0) "__setattr__"=some (some (.builtin "object.__setattr__"))) (cmk0:makesIn K cC0=true) (ckc0:keepIn K (.ref cC0)=true)
   (cf0_back:findIn K (.ref cC0) "back"=some none)
   (cf0_corner:findIn K (.ref cC0) "corner"=some none)
   (cf0_turn:findIn K (.ref cC0) "turn"=some none)
   (ca1:nsIn K mainGlobals "Curve"=some (some (.ref cC1))) (ci1:findIn K (.ref cC1) "__init__"=some (some (.ref cF1))) (cn1:isFn K (.ref cF1)=true) (cl1:K.lookup cF1=some ⟨coc1,codi1,.func (fnOf "__init__" "Curve.__init__" (vC kN) (wJ kN) (zS kN) .none ckV1 cdc1 cpm1 cani1 ccd1 cct1),csl1⟩) (cc1:codeIn K ccd1 "Curve.__init__"=true) (ck1:keepIn K (.ref cF1)=true)
   (cpg1:plainGet K cC1 Str.empty=true) (chd1:hasDictIn K cC1=true) (cpo1:plainOver K cC1=true) (csa1:findIn K (.ref cC1) "__setattr__"=some (some (.builtin "object.__setattr__"))) (cmk1:makesIn K cC1=true) (ckc1:keepIn K (.ref cC1)=true)
   (cf1_dims:findIn K (.ref cC1) "dims"=some none)
   (cf1_joined:findIn K (.ref cC1) "joined"=some none)
   (cf1_name:findIn K (.ref cC1) "name"=some none)
   (cf1_parts:findIn K (.ref cC1) "parts"=some none)
   (ca2:nsIn K mainGlobals "Scene"=some (some (.ref cC2))) (ci2:findIn K (.ref cC2) "__init__"=some (some (.ref cF2))) (cn2:isFn K (.ref cF2)=true) (cl2:K.lookup cF2=some ⟨coc2,codi2,.func (fnOf "__init__" "Scene.__init__" (vC kW) (wJ kW) (zS kW) .none ckV2 cdc2 cpm2 cani2 ccd2 cct2),csl2⟩) (cc2:codeIn K ccd2 "Scene.__init__"=true) (ck2:keepIn K (.ref cF2)=true)
   (cpg2:plainGet K cC2 Str.empty=true) (chd2:hasDictIn K cC2=true) (cpo2:plainOver K cC2=true) (csa2:findIn K (.ref cC2) "__setattr__"=some (some (.builtin "object.__setattr__"))) (cmk2:makesIn K cC2=true) (ckc2:keepIn K (.ref cC2)=true)
   (cf2_curve:findIn K (.ref cC2) "curve"=some none)
   (cf2_deeds:findIn K (.ref cC2) "deeds"=some none)
   (cf2_level:findIn K (.ref cC2) "level"=some none)
   (cf2_size:findIn K (.ref cC2) "size"=some none)
   (g_BITS:nsIn K mainGlobals "BITS"=some (some (.str "01" t_BITS)))
   (g_FLIPS:nsIn K mainGlobals "FLIPS"=some (some (.str "+-" t_FLIPS)))
   (g_AXES:nsIn K mainGlobals "AXES"=some (some (.str "xyz" t_AXES)))
   (g_FIGURES:nsIn K mainGlobals "FIGURES"=some (some (.str "0123456789" t_FIGURES)))
   (g_LETTERS:nsIn K mainGlobals "LETTERS"=some (some (.str "abcdefghijklmnopqrstuvwxyz" t_LETTERS)))
   (g_LONGEST_NUMBER:nsIn K mainGlobals "LONGEST_NUMBER"=some (some (.int 60 t_LONGEST_NUMBER)))
   (g_LONGEST_WORD:nsIn K mainGlobals "LONGEST_WORD"=some (some (.int 12 t_LONGEST_WORD)))
   (g_PROMISES:nsIn K mainGlobals "PROMISES"=some (some (.ref da_PROMISES))) (dl_PROMISES:K.lookup da_PROMISES=some ⟨.type "dict",none,.dict #[⟨PyData.keyHash w.params "joined",.str "joined" dt_PROMISES_0,.bool true⟩,⟨PyData.keyHash w.params "loose",.str "loose" dt_PROMISES_1,.bool false⟩] dn_PROMISES,#[]⟩) (ds_PROMISES:(da_PROMISES==sysModules)=false)
   (g_DIMS:nsIn K mainGlobals "DIMS"=some (some (.ref da_DIMS))) (dl_DIMS:K.lookup da_DIMS=some ⟨.type "dict",none,.dict #[⟨PyData.keyHash w.params "2",.str "2" dt_DIMS_0,.int 2 dv_DIMS_0⟩,⟨PyData.keyHash w.params "3",.str "3" dt_DIMS_1,.int 3 dv_DIMS_1⟩] dn_DIMS,#[]⟩) (ds_DIMS:(da_DIMS==sysModules)=false)
   (g_MOST_LEVEL:nsIn K mainGlobals "MOST_LEVEL"=some (some (.ref da_MOST_LEVEL))) (dl_MOST_LEVEL:K.lookup da_MOST_LEVEL=some ⟨.type "dict",none,.dict #[⟨2,.int 2 dt_MOST_LEVEL_0,.int 6 dv_MOST_LEVEL_0⟩,⟨3,.int 3 dt_MOST_LEVEL_1,.int 4 dv_MOST_LEVEL_1⟩] dn_MOST_LEVEL,#[]⟩)
   (g_LEAST_SIZE:nsIn K mainGlobals "LEAST_SIZE"=some (some (.int 4 t_LEAST_SIZE)))
   (g_MOST_SIZE:nsIn K mainGlobals "MOST_SIZE"=some (some (.int 12 t_MOST_SIZE)))
   (g_LEAST_MANY:nsIn K mainGlobals "LEAST_MANY"=some (some (.int 1 t_LEAST_MANY)))
   (g_MOST_MANY:nsIn K mainGlobals "MOST_MANY"=some (some (.int 999 t_MOST_MANY)))
   (g_MOST_DEEDS:nsIn K mainGlobals "MOST_DEEDS"=some (some (.int 400 t_MOST_DEEDS)))
   (g_FORMS:nsIn K mainGlobals "FORMS"=some (some (.ref da_FORMS))) (dl_FORMS:K.lookup da_FORMS=some ⟨.type "dict",none,.dict #[⟨PyData.keyHash w.params "put",.str "put" dt_FORMS_0,.ref ta_FORMS_0⟩,⟨PyData.keyHash w.params "move",.str "move" dt_FORMS_1,.ref ta_FORMS_1⟩,⟨PyData.keyHash w.params "take",.str "take" dt_FORMS_2,.ref ta_FORMS_2⟩,⟨PyData.keyHash w.params "names",.str "names" dt_FORMS_3,.ref ta_FORMS_3⟩,⟨PyData.keyHash w.params "where",.str "where" dt_FORMS_4,.ref ta_FORMS_4⟩,⟨PyData.keyHash w.params "inside",.str "inside" dt_FORMS_5,.ref ta_FORMS_5⟩,⟨PyData.keyHash w.params "meeting",.str "meeting" dt_FORMS_6,.ref ta_FORMS_6⟩,⟨PyData.keyHash w.params "near",.str "near" dt_FORMS_7,.ref ta_FORMS_7⟩,⟨PyData.keyHash w.params "sharing",.str "sharing" dt_FORMS_8,.ref ta_FORMS_8⟩,⟨PyData.keyHash w.params "number",.str "number" dt_FORMS_9,.ref ta_FORMS_9⟩,⟨PyData.keyHash w.params "place",.str "place" dt_FORMS_10,.ref ta_FORMS_10⟩,⟨PyData.keyHash w.params "spans",.str "spans" dt_FORMS_11,.ref ta_FORMS_11⟩,⟨PyData.keyHash w.params "cover",.str "cover" dt_FORMS_12,.ref ta_FORMS_12⟩] dn_FORMS,#[]⟩) (ds_FORMS:(da_FORMS==sysModules)=false)
   (tl_FORMS_0:K.lookup ta_FORMS_0=some ⟨.type "tuple",none,.seq #[.str "name" tt_FORMS_0_0,.str "place" tt_FORMS_0_1,.str "place" tt_FORMS_0_2] tn_FORMS_0,#[]⟩)
   (tl_FORMS_1:K.lookup ta_FORMS_1=some ⟨.type "tuple",none,.seq #[.str "name" tt_FORMS_1_0,.str "place" tt_FORMS_1_1,.str "place" tt_FORMS_1_2] tn_FORMS_1,#[]⟩)
   (tl_FORMS_2:K.lookup ta_FORMS_2=some ⟨.type "tuple",none,.seq #[.str "name" tt_FORMS_2_0] tn_FORMS_2,#[]⟩)
   (tl_FORMS_3:K.lookup ta_FORMS_3=some ⟨.type "tuple",none,.seq #[] tn_FORMS_3,#[]⟩)
   (tl_FORMS_4:K.lookup ta_FORMS_4=some ⟨.type "tuple",none,.seq #[.str "name" tt_FORMS_4_0] tn_FORMS_4,#[]⟩)
   (tl_FORMS_5:K.lookup ta_FORMS_5=some ⟨.type "tuple",none,.seq #[.str "place" tt_FORMS_5_0,.str "place" tt_FORMS_5_1] tn_FORMS_5,#[]⟩)
   (tl_FORMS_6:K.lookup ta_FORMS_6=some ⟨.type "tuple",none,.seq #[.str "place" tt_FORMS_6_0,.str "place" tt_FORMS_6_1] tn_FORMS_6,#[]⟩)
   (tl_FORMS_7:K.lookup ta_FORMS_7=some ⟨.type "tuple",none,.seq #[.str "place" tt_FORMS_7_0,.str "many" tt_FORMS_7_1] tn_FORMS_7,#[]⟩)
   (tl_FORMS_8:K.lookup ta_FORMS_8=some ⟨.type "tuple",none,.seq #[] tn_FORMS_8,#[]⟩)
   (tl_FORMS_9:K.lookup ta_FORMS_9=some ⟨.type "tuple",none,.seq #[.str "place" tt_FORMS_9_0] tn_FORMS_9,#[]⟩)
   (tl_FORMS_10:K.lookup ta_FORMS_10=some ⟨.type "tuple",none,.seq #[.str "number" tt_FORMS_10_0] tn_FORMS_10,#[]⟩)
   (tl_FORMS_11:K.lookup ta_FORMS_11=some ⟨.type "tuple",none,.seq #[.str "place" tt_FORMS_11_0,.str "place" tt_FORMS_11_1] tn_FORMS_11,#[]⟩)
   (tl_FORMS_12:K.lookup ta_FORMS_12=some ⟨.type "tuple",none,.seq #[.str "place" tt_FORMS_12_0,.str "place" tt_FORMS_12_1,.str "many" tt_FORMS_12_2] tn_FORMS_12,#[]⟩)
   (z_abs:nsIn K mainGlobals "abs"=some none)
   (z_all:nsIn K mainGlobals "all"=some none)
   (z_bool:nsIn K mainGlobals "bool"=some none)
   (z_enumerate:nsIn K mainGlobals "enumerate"=some none)
   (z_int:nsIn K mainGlobals "int"=some none)
   (z_isinstance:nsIn K mainGlobals "isinstance"=some none)
   (z_len:nsIn K mainGlobals "len"=some none)
   (z_list:nsIn K mainGlobals "list"=some none)
   (z_max:nsIn K mainGlobals "max"=some none)
   (z_min:nsIn K mainGlobals "min"=some none)
   (z_range:nsIn K mainGlobals "range"=some none)
   (z_reversed:nsIn K mainGlobals "reversed"=some none)
   (z_sorted:nsIn K mainGlobals "sorted"=some none)
   (z_str:nsIn K mainGlobals "str"=some none)
   (z_sum:nsIn K mainGlobals "sum"=some none)
   (z_tuple:nsIn K mainGlobals "tuple"=some none)
   (z_zip:nsIn K mainGlobals "zip"=some none) :
   ∃fd:FuncData,(∀(s:Shared) (v:Value),BindsTo s fd ⟨[v],[]⟩ [("_law_script",v)])/\∀base:Heap,K.In base->base.Ns mainGlobals mg->FnOk l.prog w K mg base CX0 9 fa fd ["_law_script"] (spF K 1 zW3):=by
 have F14:FunD K "number_of" "number_of" wR _ _:=⟨⟨_,_,_,_,_,_,_,_,_,_,rfl,l14,c14⟩,k14⟩
 have b14:Binds K (fnOf "number_of" "number_of" (vC wR) (wJ wR) (zS wR) (.ref tD14) kV14 dc14 pm14 an14 cd14 ct14) ["text","most"] []:=fun s us hK hl=>by
   rw[Er] at hl ⊢
   obtain⟨u0,u1,rfl⟩:∃u0 u1,us=[u0,u1]:=by
     have hl':us.length=2:=by simpa using hl
     match us,hl' with
     | [u0,u1],_=>exact⟨u0,u1,rfl⟩
   exact binds_K hK rfl dl14 dd14 rfl rfl
 have e14:Binds K (fnOf "number_of" "number_of" (vC wR) (wJ wR) (zS wR) (.ref tD14) kV14 dc14 pm14 an14 cd14 ct14) ["text","most"] [.none]:=fun s us hK hl=>by
   obtain⟨u0,rfl⟩:∃u0,us=[u0]:=by
     have hl':us.length=1:=by simpa using hl
     match us,hl' with
     | [u0],_=>exact⟨u0,rfl⟩
   exact binds_K hK rfl dl14 dd14 rfl rfl
 have cFF0:=zXE (st:=eQ) cl0 cc0 ck0
 have cb0:=cFF0.binds (ps:=["self","corner","turn","back"]) fun _ _ _ _ _ _ us hl=>match us,hl with | [_,_,_,_],_=>rfl
 have cFF1:=zXE (st:=kN) cl1 cc1 ck1
 have cb1:=cFF1.binds (ps:=["self","name","dims","joined","parts"]) fun _ _ _ _ _ _ us hl=>match us,hl with | [_,_,_,_,_],_=>rfl
 have cFF2:=zXE (st:=kW) cl2 cc2 ck2
 have cb2:=cFF2.binds (ps:=["self","curve","level","size","deeds"]) fun _ _ _ _ _ _ us hl=>match us,hl with | [_,_,_,_,_],_=>rfl
 exact zKn _ (bd1 fun _ _ _ _ _ _ _=>rfl) hfa fun base=>zJv ({ q0:=vW X G g0 (bd2 fun _ _ _ _ _ _ _ _=>rfl),q1:=vW X G g1 (bd1 fun _ _ _ _ _ _ _=>rfl),q2:=vW X G g2 (bd2 fun _ _ _ _ _ _ _ _=>rfl),q3:=vW X G g3 (bd2 fun _ _ _ _ _ _ _ _=>rfl),q4:=vW X G g4 (bd4 fun _ _ _ _ _ _ _ _ _ _=>rfl),q5:=vW X G g5 (bd3 fun _ _ _ _ _ _ _ _ _=>rfl),q6:=vW X G g6 (bd1 fun _ _ _ _ _ _ _=>rfl),q7:=vW X G g7 (bd1 fun _ _ _ _ _ _ _=>rfl),q8:=vW X G g8 (bd2 fun _ _ _ _ _ _ _ _=>rfl),q9:=vW X G g9 (bd2 fun _ _ _ _ _ _ _ _=>rfl),q10:=vW X G g10 (bd2 fun _ _ _ _ _ _ _ _=>rfl),q11:=vW X G g11 (bd3 fun _ _ _ _ _ _ _ _ _=>rfl),q12:=vW X G g12 (bd2 fun _ _ _ _ _ _ _ _=>rfl),q13:=vW X G g13 (bd1 fun _ _ _ _ _ _ _=>rfl),f_number_of:=_,fd_number_of:=_,F_number_of:=F14,b_number_of:=b14,bd_number_of:=e14,m_number_of:=mg_of X G a14,q15:=vW X G g15 (bd3 fun _ _ _ _ _ _ _ _ _=>rfl),q16:=vW X G g16 (bd3 fun _ _ _ _ _ _ _ _ _=>rfl),q17:=vW X G g17 (bd1 fun _ _ _ _ _ _ _=>rfl),q18:=vW X G g18 (bd1 fun _ _ _ _ _ _ _=>rfl),q19:=vW X G g19 (bd3 fun _ _ _ _ _ _ _ _ _=>rfl),q20:=vW X G g20 (bd2 fun _ _ _ _ _ _ _ _=>rfl),q21:=vW X G g21 (bd2 fun _ _ _ _ _ _ _ _=>rfl),q22:=vW X G g22 (bd3 fun _ _ _ _ _ _ _ _ _=>rfl),q23:=vW X G g23 (bd2 fun _ _ _ _ _ _ _ _=>rfl),q24:=vW X G g24 (bd2 fun _ _ _ _ _ _ _ _=>rfl),q25:=vW X G g25 (bd2 fun _ _ _ _ _ _ _ _=>rfl),q26:=vW X G g26 (bd1 fun _ _ _ _ _ _ _=>rfl),q27:=vW X G g27 (bd1 fun _ _ _ _ _ _ _=>rfl),q28:=vW X G g28 (bd2 fun _ _ _ _ _ _ _ _=>rfl),q29:=vW X G g29 (bd3 fun _ _ _ _ _ _ _ _ _=>rfl),q30:=vW X G g30 (bd3 fun _ _ _ _ _ _ _ _ _=>rfl),q31:=vW X G g31 (bd1 fun _ _ _ _ _ _ _=>rfl),q32:=vW X G g32 (bd2 fun _ _ _ _ _ _ _ _=>rfl),q33:=vW X G g33 (bd1 fun _ _ _ _ _ _ _=>rfl),q34:=vW X G g34 (bd2 fun _ _ _ _ _ _ _ _=>rfl),q35:=vW X G g35 (bd1 fun _ _ _ _ _ _ _=>rfl),q36:=vW X G g36 (bd2 fun _ _ _ _ _ _ _ _=>rfl),q37:=vW X G g37 (bd2 fun _ _ _ _ _ _ _ _=>rfl),q38:=vW X G g38 (bd2 fun _ _ _ _ _ _ _ _=>rfl),q39:=vW X G g39 (bd3 fun _ _ _ _ _ _ _ _ _=>rfl),q40:=vW X G g40 (bd4 fun _ _ _ _ _ _ _ _ _ _=>rfl),q41:=vW X G g41 (bd5 fun _ _ _ _ _ _ _ _ _ _ _=>rfl),q42:=vW X G g42 (bd2 fun _ _ _ _ _ _ _ _=>rfl),q43:=vW X G g43 (bd1 fun _ _ _ _ _ _ _=>rfl),q44:=vW X G g44 (bd1 fun _ _ _ _ _ _ _=>rfl),q45:=vW X G g45 (bd1 fun _ _ _ _ _ _ _=>rfl),q46:=vW X G g46 (bd1 fun _ _ _ _ _ _ _=>rfl),q47:=vW X G g47 (bd3 fun _ _ _ _ _ _ _ _ _=>rfl),q48:=vW X G g48 (bd1 fun _ _ _ _ _ _ _=>rfl),C_Part:=_,fi_Part:=_,fdi_Part:=_,ca_Part:=ca0,cl_Part:=⟨cpg0,chd0,cpo0,csa0⟩,mc_Part:=mg_of X G ca0,Fi_Part:=cFF0,bi_Part:=cb0,mk_Part:=⟨cmk0,ci0,cn0,ckc0⟩,n_Part_back:=cf0_back,n_Part_corner:=cf0_corner,n_Part_turn:=cf0_turn,C_Curve:=_,fi_Curve:=_,fdi_Curve:=_,ca_Curve:=ca1,cl_Curve:=⟨cpg1,chd1,cpo1,csa1⟩,mc_Curve:=mg_of X G ca1,Fi_Curve:=cFF1,bi_Curve:=cb1,mk_Curve:=⟨cmk1,ci1,cn1,ckc1⟩,n_Curve_dims:=cf1_dims,n_Curve_joined:=cf1_joined,n_Curve_name:=cf1_name,n_Curve_parts:=cf1_parts,C_Scene:=_,fi_Scene:=_,fdi_Scene:=_,ca_Scene:=ca2,cl_Scene:=⟨cpg2,chd2,cpo2,csa2⟩,mc_Scene:=mg_of X G ca2,Fi_Scene:=cFF2,bi_Scene:=cb2,mk_Scene:=⟨cmk2,ci2,cn2,ckc2⟩,n_Scene_curve:=cf2_curve,n_Scene_deeds:=cf2_deeds,n_Scene_level:=cf2_level,n_Scene_size:=cf2_size,t_BITS:=t_BITS,c_BITS:=mg_of X G g_BITS,t_FLIPS:=t_FLIPS,c_FLIPS:=mg_of X G g_FLIPS,t_AXES:=t_AXES,c_AXES:=mg_of X G g_AXES,t_FIGURES:=t_FIGURES,c_FIGURES:=mg_of X G g_FIGURES,t_LETTERS:=t_LETTERS,c_LETTERS:=mg_of X G g_LETTERS,t_LONGEST_NUMBER:=t_LONGEST_NUMBER,c_LONGEST_NUMBER:=mg_of X G g_LONGEST_NUMBER,t_LONGEST_WORD:=t_LONGEST_WORD,c_LONGEST_WORD:=mg_of X G g_LONGEST_WORD,da_PROMISES:=da_PROMISES,c_PROMISES:=mg_of X G g_PROMISES,dc_PROMISES:=zSR [("joined",dt_PROMISES_0,.bool true),("loose",dt_PROMISES_1,.bool false)] dl_PROMISES ds_PROMISES,da_DIMS:=da_DIMS,c_DIMS:=mg_of X G g_DIMS,dc_DIMS:=zSR [("2",dt_DIMS_0,.int 2 dv_DIMS_0),("3",dt_DIMS_1,.int 3 dv_DIMS_1)] dl_DIMS ds_DIMS,da_MOST_LEVEL:=da_MOST_LEVEL,c_MOST_LEVEL:=mg_of X G g_MOST_LEVEL,dc_MOST_LEVEL:=zMK [(2,dt_MOST_LEVEL_0,.int 6 dv_MOST_LEVEL_0),(3,dt_MOST_LEVEL_1,.int 4 dv_MOST_LEVEL_1)] dl_MOST_LEVEL,t_LEAST_SIZE:=t_LEAST_SIZE,c_LEAST_SIZE:=mg_of X G g_LEAST_SIZE,t_MOST_SIZE:=t_MOST_SIZE,c_MOST_SIZE:=mg_of X G g_MOST_SIZE,t_LEAST_MANY:=t_LEAST_MANY,c_LEAST_MANY:=mg_of X G g_LEAST_MANY,t_MOST_MANY:=t_MOST_MANY,c_MOST_MANY:=mg_of X G g_MOST_MANY,t_MOST_DEEDS:=t_MOST_DEEDS,c_MOST_DEEDS:=mg_of X G g_MOST_DEEDS,da_FORMS:=da_FORMS,c_FORMS:=mg_of X G g_FORMS,dc_FORMS:=zNt [("put",dt_FORMS_0,.ref ta_FORMS_0),("move",dt_FORMS_1,.ref ta_FORMS_1),("take",dt_FORMS_2,.ref ta_FORMS_2),("names",dt_FORMS_3,.ref ta_FORMS_3),("where",dt_FORMS_4,.ref ta_FORMS_4),("inside",dt_FORMS_5,.ref ta_FORMS_5),("meeting",dt_FORMS_6,.ref ta_FORMS_6),("near",dt_FORMS_7,.ref ta_FORMS_7),("sharing",dt_FORMS_8,.ref ta_FORMS_8),("number",dt_FORMS_9,.ref ta_FORMS_9),("place",dt_FORMS_10,.ref ta_FORMS_10),("spans",dt_FORMS_11,.ref ta_FORMS_11),("cover",dt_FORMS_12,.ref ta_FORMS_12)] dl_FORMS ds_FORMS (.cons ⟨rfl,uY [("name",tt_FORMS_0_0),("place",tt_FORMS_0_1),("place",tt_FORMS_0_2)] tl_FORMS_0⟩ (.cons ⟨rfl,uY [("name",tt_FORMS_1_0),("place",tt_FORMS_1_1),("place",tt_FORMS_1_2)] tl_FORMS_1⟩ (.cons ⟨rfl,uY [("name",tt_FORMS_2_0)] tl_FORMS_2⟩ (.cons ⟨rfl,uY [] tl_FORMS_3⟩ (.cons ⟨rfl,uY [("name",tt_FORMS_4_0)] tl_FORMS_4⟩ (.cons ⟨rfl,uY [("place",tt_FORMS_5_0),("place",tt_FORMS_5_1)] tl_FORMS_5⟩ (.cons ⟨rfl,uY [("place",tt_FORMS_6_0),("place",tt_FORMS_6_1)] tl_FORMS_6⟩ (.cons ⟨rfl,uY [("place",tt_FORMS_7_0),("many",tt_FORMS_7_1)] tl_FORMS_7⟩ (.cons ⟨rfl,uY [] tl_FORMS_8⟩ (.cons ⟨rfl,uY [("place",tt_FORMS_9_0)] tl_FORMS_9⟩ (.cons ⟨rfl,uY [("number",tt_FORMS_10_0)] tl_FORMS_10⟩ (.cons ⟨rfl,uY [("place",tt_FORMS_11_0),("place",tt_FORMS_11_1)] tl_FORMS_11⟩ (.cons ⟨rfl,uY [("place",tt_FORMS_12_0),("place",tt_FORMS_12_1),("many",tt_FORMS_12_2)] tl_FORMS_12⟩ (.nil)))))))))))))),z_abs:=mg_none_of X G z_abs,z_all:=mg_none_of X G z_all,z_bool:=mg_none_of X G z_bool,z_enumerate:=mg_none_of X G z_enumerate,z_int:=mg_none_of X G z_int,z_isinstance:=mg_none_of X G z_isinstance,z_len:=mg_none_of X G z_len,z_list:=mg_none_of X G z_list,z_max:=mg_none_of X G z_max,z_min:=mg_none_of X G z_min,z_range:=mg_none_of X G z_range,z_reversed:=mg_none_of X G z_reversed,z_sorted:=mg_none_of X G z_sorted,z_str:=mg_none_of X G z_str,z_sum:=mg_none_of X G z_sum,z_tuple:=mg_none_of X G z_tuple,z_zip:=mg_none_of X G z_zip }:Txt w K mg)
theorem zIP {K:Frag}{H:Hp}{a:Addr}{ns:List Int}(hS:SqL K H a (ns.map V.int))(h:zW3 [.lst (ns.map .int)]=some (.bl true)):spF K 1 zW3 [.ref a] H (fun v _=>v = .bl true) fun _ _ _=>False:=by
 have rs:∀ns:List Int,Reps K H (ns.map .int) (ns.map V.int):=fun ns=>by
   induction ns with
   | nil=>exact yV.mpr rfl
   | cons n r ih=>exact zE.mpr ⟨_,_,rfl,zG.mpr rfl,ih⟩
 exact⟨H,[.lst (ns.map .int)],.bl true,Same.refl _,zE.mpr ⟨_,_,rfl,xH.mpr ⟨a,_,rfl,hS,rs ns⟩,yV.mpr rfl⟩,rfl,h,fun v H' G' _ r=>w6.mp r⟩
end My
end
namespace My
open PySem L2
theorem zK2:tV 0 2=[.int 0,.int 1]:=rfl
theorem zI5:tV 0 3=[.int 0,.int 1,.int 2]:=rfl
theorem bit (x:Int):x % 2=0∨x % 2=1:=by omega
def zPG (a b c:Int):Prop:=(a=0/\b=1/\c=2)∨(a=0/\b=2/\c=1)∨(a=1/\b=0/\c=2)∨(a=1/\b=2/\c=0)∨(a=2/\b=0/\c=1)∨(a=2/\b=1/\c=0)
abbrev Tn:=List (Int×Int)
def iD (p:Int×Int):D:=.tup [.int p.1,.int p.2]
def yU (t:Tn):D:=.tup (t.map iD)
def zA (c:List Int):D:=.tup (c.map .int)
def zQ (t:Tn)(c:List Int):List Int:=t.map fun p=>Builtin.bitXor (c.getD p.1.toNat 0) p.2
def yD (t u:Tn):Tn:=t.map fun p=>((u.getD p.1.toNat (0,0)).1,Builtin.bitXor (u.getD p.1.toNat (0,0)).2 p.2)
theorem cE {elt:Ef}{h:Int×Int->D}{rest:List B}:∀(t:Tn) (x0 x1:B) (acc:List D),(∀p∈t,elt (.fz (.int p.1) :: .fz (.int p.2)::rest)=some (h p)) ->
   uF (gT (zL (gN 0) (zL (gN 1) xP))) tOK elt (t.map iD) (x0::x1::rest) acc=some (acc++t.map h)
 | [],_,_,acc,_=>by simp[uF]
 | p::r,x0,x1,acc,hh=>by
   rw[Qp]
   unfold uF
   have e1:gT (zL (gN 0) (zL (gN 1) xP)) (iD p) (x0::x1::rest)=some (.fz (.int p.1) :: .fz (.int p.2)::rest):=rfl
   rw[e1,Qw]
   have e2:tOK (.fz (.int p.1) :: .fz (.int p.2)::rest)=some true:=rfl
   rw[e2,Qw,Qb rfl,hh p Qh,Qw,cE r _ _ _ fun q hq=>hh q (Qd _ hq)]
   simp
theorem gH {α:Type}(xs:List α)(i:Int)(d:α)(h0:0<=i)(h1:i < xs.length):atI xs i=some (xs.getD i.toNat d):=by
 unfold atI ixN
 rw[Qb h0,Qb h1]
 have:i.toNat < xs.length:=by omega
 simp[List.getD,this]
def zIN (t:Tn)(n:Nat):Prop:=∀p∈t,0<=p.1/\p.1 < n
theorem zQ5 {t:List D}(h:t.length<=1000):okL t=some t:=by
 unfold okL
 rw[Qb (Ey h (by decide))]
theorem eJ {α β:Type}(f:α->β)(xs:List α)(i:Int):atI (xs.map f) i=(atI xs i).map f:=by
 unfold atI
 rw[Qy]
 cases ixN xs.length i with
 | none=>rfl
 | some j=>simp
theorem zVX (t:Tn)(c:List Int)(h:zIN t c.length)(hl:t.length<=1000):nB [yU t,zA c]=some (zA (zQ t c)):=by
 have e1:nD 2 [yU t,zA c]=[.fz (yU t),.fz (zA c)]:=rfl
 have e2:=cE (elt:=zVl (eIx (eV 2) (eV 0)) (eV 1)) (h:=fun p=>.int (Builtin.bitXor (c.getD p.1.toNat 0) p.2)) (rest:=[.fz (zA c)]) t .no .no [] fun p hp=>by
   obtain⟨h0,h1⟩:=h p hp
   simp[eI,eIx,eV,sA,zA,atD,eJ,gH c p.1 0 h0 h1]
 have e3:okL (t.map iD)=some (t.map iD):=zQ5 (by rw[Qy];exact hl)
 have e4:upB 2 [1] [.fz (yU t),.fz (zA c)]=[.no,.no,.fz (zA c)]:=rfl
 unfold nB fnF
 rw[e1]
 have e5:yJ (iT (eV 0)) 2 [1] (gT (zL (gN 0) (zL (gN 1) xP))) tOK (zVl (eIx (eV 2) (eV 0)) (eV 1)) [.fz (yU t),.fz (zA c)]=some (t.map fun p=>D.int (Builtin.bitXor (c.getD p.1.toNat 0) p.2)):=by
   unfold yJ
   have e6:iT (eV 0) [.fz (yU t),.fz (zA c)]=some (t.map iD):=rfl
   rw[e6,Qw,e3,Qw,e4,e2]
   simp
 simp only[zTW,zY0,yO,wX,eL,e5,Ww,Qw,zSJ,xV]
 simp only[zA,zQ,Rp,Il]
theorem zUa (t u:Tn)(h:zIN t u.length)(hl:t.length<=1000):kA [yU t,yU u]=some (yU (yD t u)):=by
 have e1:nD 2 [yU t,yU u]=[.fz (yU t),.fz (yU u)]:=rfl
 have e2:=cE (elt:=yW (zY (eIx (eIx (eV 2) (eV 0)) (eC (.int 0))) (zY (zVl (eIx (eIx (eV 2) (eV 0)) (eC (.int 1))) (eV 1)) zR))) (h:=fun p=>iD ((u.getD p.1.toNat (0,0)).1,Builtin.bitXor (u.getD p.1.toNat (0,0)).2 p.2)) (rest:=[.fz (yU u)]) t .no .no [] fun p hp=>by
   obtain⟨h0,h1⟩:=h p hp
   have a0:∀x y:D,atI [x,y] 0=some x:=fun _ _=>rfl
   have a1:∀x y:D,atI [x,y] 1=some y:=fun _ _=>rfl
   simp[eI,eIx,eV,eC,sA,yU,atD,eJ,gH u p.1 (0,0) h0 h1,iD,yW,zY,zR,okL,lim,a0,a1]
 have e3:okL (t.map iD)=some (t.map iD):=zQ5 (by rw[Qy];exact hl)
 have e4:upB 2 [1] [.fz (yU t),.fz (yU u)]=[.no,.no,.fz (yU u)]:=rfl
 unfold kA fnF
 rw[e1]
 have e5:yJ (iT (eV 0)) 2 [1] (gT (zL (gN 0) (zL (gN 1) xP))) tOK (yW (zY (eIx (eIx (eV 2) (eV 0)) (eC (.int 0))) (zY (zVl (eIx (eIx (eV 2) (eV 0)) (eC (.int 1))) (eV 1)) zR))) [.fz (yU t),.fz (yU u)]=some (t.map fun p=>iD ((u.getD p.1.toNat (0,0)).1,Builtin.bitXor (u.getD p.1.toNat (0,0)).2 p.2)):=by
   unfold yJ
   have e6:iT (eV 0) [.fz (yU t),.fz (yU u)]=some (t.map iD):=rfl
   rw[e6,Qw,e3,Qw,e4,e2]
   simp
 simp only[zQY,zWI,yO,wX,eL,e5,Ww,Qw,zSJ,xV]
 simp only[yU,yD,Rp,Il]
def rN:List Int:=[0,1]
def tY:List Tn:=[((0:Int),(1:Int)),(1,0)].flatMap fun o=>rN.flatMap fun f=>rN.map fun g=>[(o.1,f),(o.2,g)]
def tZ:List Tn:=[((0:Int),(1:Int),(2:Int)),(0,2,1),(1,0,2),(1,2,0),(2,0,1),(2,1,0)].flatMap fun o=>rN.flatMap fun f=>rN.flatMap fun g=>rN.map fun h=>[(o.1,f),(o.2.1,g),(o.2.2,h)]
theorem zKp {a b f g:Int}(h1:a=0/\b=1∨a=1/\b=0)(h2:f=0∨f=1)(h3:g=0∨g=1):[(a,f),(b,g)]∈tY:=by
 rcases h1 with⟨rfl,rfl⟩ | ⟨rfl,rfl⟩<;>rcases h2 with rfl | rfl<;>rcases h3 with rfl | rfl<;>decide
theorem zIB {a b c f g h:Int}(h1:zPG a b c)(h2:f=0∨f=1)(h3:g=0∨g=1)(h4:h=0∨h=1):[(a,f),(b,g),(c,h)]∈tZ:=by
 rcases h1 with⟨rfl,rfl,rfl⟩ | ⟨rfl,rfl,rfl⟩ | ⟨rfl,rfl,rfl⟩ | ⟨rfl,rfl,rfl⟩ | ⟨rfl,rfl,rfl⟩ | ⟨rfl,rfl,rfl⟩<;>rcases h2 with rfl | rfl<;>rcases h3 with rfl | rfl<;>rcases h4 with rfl | rfl<;>decide
theorem zQN {t:Tn}(h:t∈tY):∃a b f g,(a=0/\b=1∨a=1/\b=0)/\(f=0∨f=1)/\(g=0∨g=1)/\t=[(a,f),(b,g)]:=by
 simp only[tY,rN,Ts,Wa,Qa,Wi,Rr] at h
 obtain⟨o,ho,f,hf,g,hg,rfl⟩:=h
 refine⟨o.1,o.2,f,g,?_,hf,hg,rfl⟩
 rcases ho with rfl | rfl
 · exact .inl ⟨rfl,rfl⟩
 · exact .inr ⟨rfl,rfl⟩
theorem zQI {t:Tn}(h:t∈tZ):∃a b c f g j,zPG a b c/\(f=0∨f=1)/\(g=0∨g=1)/\(j=0∨j=1)/\t=[(a,f),(b,g),(c,j)]:=by
 simp only[tZ,rN,Ts,Wa,Qa,Wi,Rr] at h
 obtain⟨o,ho,f,hf,g,hg,j,hj,rfl⟩:=h
 refine⟨o.1,o.2.1,o.2.2,f,g,j,?_,hf,hg,hj,rfl⟩
 unfold zPG
 rcases ho with rfl | rfl | rfl | rfl | rfl | rfl<;>simp
structure Tr (n:Nat)(t:Tn):Prop where
 len:t.length=n
 fits:zIN t n
 flip:∀p∈t,p.2=0∨p.2=1
theorem tr2 {t:Tn}(h:t∈tY):Tr 2 t:=by
 obtain⟨a,b,f,g,h1,h2,h3,rfl⟩:=zQN h
 refine⟨rfl,fun p hp=>?_,fun p hp=>?_⟩
 · simp only[Qa,Wi,Rr] at hp
   rcases h1 with⟨rfl,rfl⟩ | ⟨rfl,rfl⟩<;>rcases hp with rfl | rfl<;>exact⟨by simp,by simp⟩
 · simp only[Qa,Wi,Rr] at hp
   rcases hp with rfl | rfl
   · exact h2
   · exact h3
theorem tr3 {t:Tn}(h:t∈tZ):Tr 3 t:=by
 obtain⟨a,b,c,f,g,j,h1,h2,h3,h4,rfl⟩:=zQI h
 refine⟨rfl,fun p hp=>?_,fun p hp=>?_⟩
 · simp only[Qa,Wi,Rr] at hp
   unfold zPG at h1
   rcases h1 with⟨rfl,rfl,rfl⟩ | ⟨rfl,rfl,rfl⟩ | ⟨rfl,rfl,rfl⟩ | ⟨rfl,rfl,rfl⟩ | ⟨rfl,rfl,rfl⟩ | ⟨rfl,rfl,rfl⟩<;>rcases hp with rfl | rfl | rfl<;>exact⟨by simp,by simp⟩
 · simp only[Qa,Wi,Rr] at hp
   rcases hp with rfl | rfl | rfl
   · exact h2
   · exact h3
   · exact h4
theorem zOO {x y z:Int}(hx:x=0∨x=1)(hy:y=0∨y=1)(hz:z=0∨z=1):Builtin.bitXor x (Builtin.bitXor y z)=Builtin.bitXor (Builtin.bitXor x y) z:=by
 rcases hx with rfl | rfl<;>rcases hy with rfl | rfl<;>rcases hz with rfl | rfl<;>rfl
theorem zQz {α:Type}(l:List α)(i:Int)(d:α)(h0:0<=i)(h1:i < l.length):l.getD i.toNat d∈l:=by
 have:i.toNat < l.length:=by omega
 rw[Wu,Qu this]
 exact Rj this
theorem zNO {α β:Type}(f:α->β)(l:List α)(i:Int)(d:α)(e:β)(h0:0<=i)(h1:i < l.length):(l.map f).getD i.toNat e=f (l.getD i.toNat d):=by
 have:i.toNat < l.length:=by omega
 rw[Wu,Wu,Wp,Qu this]
 rfl
theorem aZ {n:Nat}{t u:Tn}{c:List Int}(ht:Tr n t)(hu:Tr n u)(hc:c.length=n)(bc:∀x∈c,x=0∨x=1):zQ (yD t u) c=zQ t (zQ u c):=by
 unfold zQ yD
 rw[Rp]
 refine Rn fun p hp=>?_
 obtain⟨h0,h1⟩:=ht.fits p hp
 have hul:p.1 < u.length:=by rw[hu.len];exact h1
 have hq:=zQz u p.1 (0,0) h0 hul
 obtain⟨q0,q1⟩:=hu.fits _ hq
 show Builtin.bitXor (c.getD (u.getD p.1.toNat (0,0)).1.toNat 0) (Builtin.bitXor (u.getD p.1.toNat (0,0)).2 p.2)=Builtin.bitXor ((u.map fun p=>Builtin.bitXor (c.getD p.1.toNat 0) p.2).getD p.1.toNat 0) p.2
 rw[zNO _ u p.1 (0,0) 0 h0 hul]
 exact zOO (bc _ (zQz c _ 0 q0 (by rw[hc];exact q1))) (hu.flip _ hq) (ht.flip p hp)
def zOy (t:Tn):Bool:=match t with | [(a,f),(b,g)]=>(decide (a=0)&&decide (b=1)||decide (a=1)&&decide (b=0))&&(decide (f=0)||decide (f=1))&&(decide (g=0)||decide (g=1)) | _=>false
def zHH (a b c:Int):Bool:=(decide (a=0)&&decide (b=1)&&decide (c=2))||(decide (a=0)&&decide (b=2)&&decide (c=1))||(decide (a=1)&&decide (b=0)&&decide (c=2))||(decide (a=1)&&decide (b=2)&&decide (c=0))||(decide (a=2)&&decide (b=0)&&decide (c=1))||(decide (a=2)&&decide (b=1)&&decide (c=0))
def zNd (t:Tn):Bool:=match t with | [(a,f),(b,g),(c,h)]=>zHH a b c&&(decide (f=0)||decide (f=1))&&(decide (g=0)||decide (g=1))&&(decide (h=0)||decide (h=1)) | _=>false
theorem zTj {t:Tn}(h:zOy t=true):t∈tY:=by
 unfold zOy at h
 split at h
 · simp only[Qx,Tj,Wh] at h
   exact zKp h.1.1 h.1.2 h.2
 · cases h
theorem zTy {t:Tn}(h:zNd t=true):t∈tZ:=by
 unfold zNd zHH at h
 split at h
 · simp only[Qx,Tj,Wh] at h
   obtain⟨⟨⟨h1,h2⟩,h3⟩,h4⟩:=h
   refine zIB ?_ h2 h3 h4
   unfold zPG
   rcases h1 with((((h1 | h1) | h1) | h1) | h1) | h1
   · exact .inl ⟨h1.1.1,h1.1.2,h1.2⟩
   · exact .inr (.inl ⟨h1.1.1,h1.1.2,h1.2⟩)
   · exact .inr (.inr (.inl ⟨h1.1.1,h1.1.2,h1.2⟩))
   · exact .inr (.inr (.inr (.inl ⟨h1.1.1,h1.1.2,h1.2⟩)))
   · exact .inr (.inr (.inr (.inr (.inl ⟨h1.1.1,h1.1.2,h1.2⟩))))
   · exact .inr (.inr (.inr (.inr (.inr ⟨h1.1.1,h1.1.2,h1.2⟩))))
 · cases h
theorem zSp {t u:Tn}(ht:t∈tY)(hu:u∈tY):yD t u∈tY:=by
 have key:(tY.all fun t=>tY.all fun u=>zOy (yD t u))=true:=by decide +kernel
 exact zTj (Qv.mp (Qv.mp key t ht) u hu)
theorem zRT {t u:Tn}(ht:t∈tZ)(hu:u∈tZ):yD t u∈tZ:=by
 have key:(tZ.all fun t=>tZ.all fun u=>zNd (yD t u))=true:=by decide +kernel
 exact zTy (Qv.mp (Qv.mp key t ht) u hu)
def zLJ (k n:Nat):List Int:=(List.range n).map fun i=>(((k >>> i) % 2:Nat):Int)
def zH (n:Nat):List (List Int):=(List.range (2^n)).map fun k=>zLJ k n
def qL (n:Nat):Tn:=(List.range n).map fun(i:Nat)=>((i:Int),(0:Int))
def vQ (t:Tn):Tn:=(List.range t.length).map fun(i:Nat)=>match t.zipIdx.find? fun q=>q.1.1==(i:Int) with | some q=>((q.2:Int),q.1.2) | none=>(0,0)
def lF (n:Nat)(ok:Tn->Bool)(t:Tn):Bool:=ok (vQ t)&&decide (yD (vQ t) t=qL n)&&decide (yD t (vQ t)=qL n)&&(zH n).all fun c=>decide (zQ (vQ t) (zQ t c)=c)
theorem zS5 {t:Tn}(ht:t∈tY):lF 2 zOy t=true:=Qv.mp (show(tY.all (lF 2 zOy))=true by decide +kernel) t ht
theorem zRO {t:Tn}(ht:t∈tZ):lF 3 zNd t=true:=Qv.mp (show(tZ.all (lF 3 zNd))=true by decide +kernel) t ht
def zB (n:Nat):List Tn:=if n=2 then tY else tZ
section
variable {n:Nat} (hn:n=2∨n=3)
include hn
theorem trM {t:Tn}(h:t∈zB n):Tr n t:=by
 rcases hn with rfl | rfl
 · exact tr2 h
 · exact tr3 h
theorem pM {t u:Tn}(h:t∈zB n)(h':u∈zB n):yD t u∈zB n:=by
 rcases hn with rfl | rfl
 · exact zSp h h'
 · exact zRT h h'
theorem eU {t:Tn}(h:t∈zB n):vQ t∈zB n/\∀c∈zH n,zQ (vQ t) (zQ t c)=c:=by
 rcases hn with rfl | rfl
 · have q:=zS5 h
   unfold lF at q
   simp only[Qx,Wh,Qv] at q
   exact⟨zTj q.1.1.1,q.2⟩
 · have q:=zRO h
   unfold lF at q
   simp only[Qx,Wh,Qv] at q
   exact⟨zTy q.1.1.1,q.2⟩
end
def zZH (c f:Int):Int:=((c*f+12345) % 2147483647)*((c*f+12345) % 2147483647) % 2147483629 / 3
theorem fU (c f:Int)(h1 : -18446744073709551616 < f)(h2:f < 18446744073709551616):wL [.int c,.int f]=some (.int (zZH c f)):=by
 have e1:zZM c f=true:=zMM h1 h2
 have e2:zZM ((c*f+12345) % 2147483647) ((c*f+12345) % 2147483647)=true:=rV (by omega) (by omega)
 have d1:decide ((0:Int) < 2147483647)=true:=rfl
 have d2:decide ((0:Int) < 2147483629)=true:=rfl
 have d3:(decide ((0:Int) < 3)&&decide ((3:Int) < 1073741824))=true:=rfl
 simp only[wL,fnF,zW9,eY,zZm,nD,zP,yP,yO,eI,eV,eC,sA,List.map,Qo,Eh,List.replicate,Ry,Wn,Qn,Qc,Qw,Ww,e1,e2,d1,d2,d3,Rq,xV,List.set,zVG]
 rfl
mutual
def okS:Nat->D->Bool
 | 0,_=>false
 | _+1,.obj _ _ _=>false
 | _+1,.exc _ _ _=>false
 | n+1,.tup ds=>decide (ds.length<=1000)&&dU n ds
 | n+1,.lst ds=>decide (ds.length<=1000)&&dU n ds
 | _+1,_=>true
def dU:Nat->List D->Bool
 | _,[]=>true
 | n,d::r=>okS n d&&dU n r
end
theorem zXA {n:Nat}:∀ {ds:List D} {i:Nat} {d:D},dU n ds=true->ds[i]?=some d->okS n d=true
 | [],_,_,_,h=>by simp at h
 | x::r,0,_,h,e=>by
   unfold dU at h
   rw[Qx] at h
   cases e
   exact h.1
 | x::r,i+1,_,h,e=>by
   unfold dU at h
   rw[Qx] at h
   exact zXA h.2 (by simpa using e)
theorem aT {α:Type}{n:Nat}{f:α->D}:∀ {l:List α},(∀x∈l,okS n (f x)=true)->dU n (l.map f)=true
 | [],_=>rfl
 | x::r,h=>by
   rw[Qp]
   unfold dU
   rw[h x Qh,aT fun y hy=>h y (Qd _ hy)]
   rfl
theorem zLb {n:Nat}{ds:List D}(hl:ds.length<=1000)(h:dU n ds=true):okS (n+1) (.tup ds)=true:=by
 unfold okS
 rw[Qi hl,h]
 rfl
theorem zPO {n:Nat}{d:D}{r:List D}(h1:okS n d=true)(h2:dU n r=true):dU n (d::r)=true:=by
 unfold dU
 rw[h1,h2]
 rfl
theorem zIu {n:Nat}{c:List Int}(h:c.length<=1000):okS (n+2) (zA c)=true:=by
 unfold zA okS
 rw[Qy,Qi h,aT fun x _=>rfl]
 rfl
structure Pt where
 c:List Int
 t:Tn
 b:Bool
def xA (p:Pt):D:=.tup [zA p.c,yU p.t,.bl p.b]
def xF (p:Pt):D:=.obj (Str.ofString "Part") [Str.ofString "corner",Str.ofString "turn",Str.ofString "back"] [zA p.c,yU p.t,.bl p.b]
def yT (wN:Str)(n:Int)(j:Bool)(ps:List Pt):D:=.obj (Str.ofString "Curve") [Str.ofString "name",Str.ofString "dims",Str.ofString "joined",Str.ofString "parts"] [.str wN,.int n,.bl j,.lst (ps.map xF)]
theorem zUy (ρ:List B)(f:Ef)(p:Pt)(h:f ρ=some (xF p)):wM (Str.ofString "Part") (Str.ofString "corner") f ρ=some (zA p.c):=by
 unfold wM;rw[h];rfl
theorem zJb (ρ:List B)(f:Ef)(p:Pt)(h:f ρ=some (xF p)):wM (Str.ofString "Part") (Str.ofString "turn") f ρ=some (yU p.t):=by
 unfold wM;rw[h];rfl
theorem zJC (ρ:List B)(f:Ef)(p:Pt)(h:f ρ=some (xF p)):wM (Str.ofString "Part") (Str.ofString "back") f ρ=some (.bl p.b):=by
 unfold wM;rw[h];rfl
theorem zYO (ρ:List B)(f:Ef){n:Int}{j:Bool}{ps:List Pt}(h:f ρ=some (yT wN n j ps)):wM (Str.ofString "Curve") (Str.ofString "parts") f ρ=some (.lst (ps.map xF)):=by
 unfold wM;rw[h];rfl
structure PtsOk (n:Nat)(ps:List Pt):Prop where
 perm:(ps.map (·.c)).Perm (zH n)
 turn:∀p∈ps,p.t∈zB n
theorem zXv {n:Nat}(hn:n=2∨n=3):(zH n).Nodup:=by
 rcases hn with rfl | rfl<;>decide +kernel
theorem sX {n:Nat}(hn:n=2∨n=3):∀c∈zH n,c.length=n:=by
 rcases hn with rfl | rfl<;>decide +kernel
theorem dP (n:Nat):(zH n).length=2^n:=by simp[zH]
theorem PtsOk.len {n:Nat}{ps:List Pt}(h:PtsOk n ps):ps.length=2^n:=by
 have:=h.perm.length_eq
 rw[Qy,dP] at this
 exact this
theorem PtsOk.small {n:Nat}{ps:List Pt}(hn:n=2∨n=3)(h:PtsOk n ps):ps.length<=8:=by
 rw[h.len]
 rcases hn with rfl | rfl<;>decide
theorem zQ3 (q:Int){n:Nat}(hn:n=2∨n=3):∃t∈zB n,vT [.int q,.int n]=some (yU t):=by
 have q1:q / 1=q:=Int.ediv_one q
 rcases hn with rfl | rfl
 · rcases bit (q / 8) with h | h
   · refine⟨[(0,q / 1 % 2),(1,q / 2 % 2)],zKp (.inl ⟨rfl,rfl⟩) (bit _) (bit _),?_⟩
     simp[vT,fnF,jV,qW,rA,qZ,nD,zP,yP,sIf,yO,xT,eI,eV,eC,sA,xV,zVG,eL,yA,zR,zY,okL,lim,eB2,gEq,h,yJ,iR,zK2,upB,uF,gN,tOK,yW,eIx,atD,atI,ixN,wX,zSJ,yU,iD]
   · refine⟨[(1,q / 1 % 2),(0,q / 2 % 2)],zKp (.inr ⟨rfl,rfl⟩) (bit _) (bit _),?_⟩
     simp[vT,fnF,jV,qW,rA,qZ,nD,zP,yP,sIf,yO,xT,eI,eV,eC,sA,xV,zVG,eL,yA,zR,zY,okL,lim,eB2,gEq,h,yJ,iR,zK2,upB,uF,gN,tOK,yW,eIx,atD,atI,ixN,wX,zSJ,yU,iD]
 · have h6:q / 8 % 6=0∨q / 8 % 6=1∨q / 8 % 6=2∨q / 8 % 6=3∨q / 8 % 6=4∨q / 8 % 6=5:=by omega
   have key:∀a b c:Int,zPG a b c->atD (.lst [.lst [.int 0,.int 1,.int 2],.lst [.int 0,.int 2,.int 1],.lst [.int 1,.int 0,.int 2],.lst [.int 1,.int 2,.int 0],.lst [.int 2,.int 0,.int 1],.lst [.int 2,.int 1,.int 0]]) (.int (q / 8 % 6))=some (.lst [.int a,.int b,.int c])->∃t∈zB 3,vT [.int q,.int 3]=some (yU t):=fun a b c ho ha=>by
     refine⟨[(a,q / 1 % 2),(b,q / 2 % 2),(c,q / 4 % 2)],zIB ho (bit _) (bit _) (bit _),?_⟩
     have r:vT [.int q,.int 3]=(qZ [.fz (.int q),.fz (.int 3),.fz (.lst [.int a,.int b,.int c])]).bind xV:=by
       have d6:decide ((0:Int) < 6)=true:=rfl
       have o3:∀x y z:D,okL [x,y,z]=some [x,y,z]:=fun _ _ _=>rfl
       have o2:∀x y:D,okL [x,y]=some [x,y]:=fun _ _=>rfl
       have o6:∀x y z u v w:D,okL [x,y,z,u,v,w]=some [x,y,z,u,v,w]:=fun _ _ _ _ _ _=>rfl
       have g3:gEq (.int 3) (.int 3)=some true:=rfl
       have c8:zVG q 8=true:=rfl
       simp only[vT,fnF,jV,qW,rA,nD,zP,yP,sIf,eI,eV,eC,sA,eL,yA,zR,zY,eB2,eIx,Qp,Wv,Qo,Eh,List.replicate,Ry,Wn,Qn,Qc,Qw,Ww,o2,o3,o6,g3,c8,d6,Rq,ha,List.set]
     rw[r]
     simp[qZ,yO,eI,eV,eC,sA,xV,zVG,eL,yA,zR,zY,okL,lim,yJ,iR,zI5,upB,uF,gN,tOK,yW,eIx,atD,atI,ixN,wX,zSJ,yU,iD]
   rcases h6 with h | h | h | h | h | h
   · exact key 0 1 2 (.inl ⟨rfl,rfl,rfl⟩) (by rw[h];rfl)
   · exact key 0 2 1 (.inr (.inl ⟨rfl,rfl,rfl⟩)) (by rw[h];rfl)
   · exact key 1 0 2 (.inr (.inr (.inl ⟨rfl,rfl,rfl⟩))) (by rw[h];rfl)
   · exact key 1 2 0 (.inr (.inr (.inr (.inl ⟨rfl,rfl,rfl⟩)))) (by rw[h];rfl)
   · exact key 2 0 1 (.inr (.inr (.inr (.inr (.inl ⟨rfl,rfl,rfl⟩))))) (by rw[h];rfl)
   · exact key 2 1 0 (.inr (.inr (.inr (.inr (.inr ⟨rfl,rfl,rfl⟩))))) (by rw[h];rfl)
def zZW:Sf:=zP (yP 4 (zO 2 wL (zY (eV 1) (zY (vV (eC (.int 48271)) (sJ (eC (.int 997)) (gP 2))) zR))))
   (zP (zOH 5 2 (xW (eV 4) (gP 2)))
   (iC 3 (yW (zY (eV 5) (zY (zO 2 vT (zY (wW (eV 4) (eC (.int 8))) (zY (eV 0) zR))) (zY (vI (eB2 gEq (xW (wW (eV 4) (eC (.int 800))) (eC (.int 2))) (eC (.int 1)))) zR))))))
theorem cV {α:Type}:∀(l:List α) (i:Nat) (x:α),l[i]?=some x->(x::l.eraseIdx i).Perm l
 | [],_,_,h=>by simp at h
 | a::r,0,x,h=>by cases h;exact .refl _
 | a::r,i+1,x,h=>by
   rw[Qc] at h
   rw[Yn]
   exact(List.Perm.swap a x _).trans (List.Perm.cons a (cV r i x h))
theorem aN {α β:Type}(f:α->β):∀(l:List α) (i:Nat),(l.map f).eraseIdx i=(l.eraseIdx i).map f
 | [],_=>rfl
 | a::r,0=>rfl
 | a::r,i+1=>by rw[Qp,Yn,Yn,Qp,aN f r i]
theorem zSr {n:Nat}(hn:n=2∨n=3)(cell:Int)(left:List (List Int))(acc:List Pt)(x4 x5:B)(h0:left≠[])(hl:left.length<=8)(ha:acc.length<=8)(ht:∀p∈acc,p.t∈zB n) :
   ∃(left':List (List Int)) (acc':List Pt) (y4 y5:B),left'.length+1=left.length/\acc'.length=acc.length+1/\(acc'.map (·.c)++left').Perm (acc.map (·.c)++left)/\(∀p∈acc',p.t∈zB n) /\
     zZW [.fz (.int n),.fz (.int cell),.ow (left.map zA),.ow (acc.map xA),x4,x5]=some (.nx [.fz (.int n),.fz (.int cell),.ow (left'.map zA),.ow (acc'.map xA),y4,y5]):=by
 have hpos:0 < left.length:=List.length_pos_iff.mpr h0
 have m1:zZM 997 (left.length:Int)=true:=rV (by decide) (by decide)
 have hm:=fU cell (48271+997*(left.length:Int)) (by omega) (by omega)
 generalize zZH cell (48271+997*(left.length:Int))=r at hm
 have i0:0<=r % (left.length:Int):=Rs _ (by omega)
 have i1:r % (left.length:Int) < left.length:=Rt _ (by omega)
 generalize hi:r % (left.length:Int)=iv at i0 i1
 have hlt:iv.toNat < left.length:=by omega
 obtain⟨t,tm,te⟩:=zQ3 (r / 8) hn
 have px:=Qu hlt
 have pm:=cV left iv.toNat _ px
 generalize left[iv.toNat]=c at px pm
 refine⟨left.eraseIdx iv.toNat,acc++[⟨c,t,decide (r / 800 % 2=1)⟩],.fz (.int r),.fz (zA c),?_,?_,?_,?_,?_⟩
 · rw[List.length_eraseIdx_of_lt hlt];omega
 · simp
 · rw[Wy,Ek]
   exact List.Perm.append_left _ pm
 · intro p hp
   rcases Ee.mp hp with q | q
   · exact ht p q
   · rw[Wk.mp q];exact tm
 · have d1:decide ((0:Int) < (left.length:Nat))=true:=Qi (by omega)
   have d2:decide ((0:Int) < 2)=true:=rfl
   have c8:zVG r 8=true:=rfl
   have c800:zVG r 800=true:=rfl
   have ix:ixN left.length iv=some iv.toNat:=by unfold ixN;rw[Qb i0,Qb i1]
   have lz:left.length<=lim:=by show left.length<=100000;omega
   have az:acc.length < lim:=by show acc.length < 100000;omega
   have gx:(left.map zA)[iv.toNat]?=some (zA c):=by rw[Wp,px];rfl
   have o3:okL [zA c,yU t,.bl (decide (r / 800 % 2=1))]=some [zA c,yU t,.bl (decide (r / 800 % 2=1))]:=rfl
   simp only[zZW,zP,yP,zOH,iC,zO,zY,zR,eI,eV,eC,sA,gP,yW,vI,eB2,gEq,Qn,Qc,Qy,Qo,Eh,Qw,Ww,m1,hm,d1,d2,hi,ix,Qb lz,Qb az,gx,c8,c800,te,o3,Rq,List.set,aN,Wy,Qp,Wv,xA]
theorem zY4 {n:Nat}(hn:n=2∨n=3)(cell:Int):∀(m fuel:Nat) (left:List (List Int)) (acc:List Pt) (x4 x5:B),left.length=m->m < fuel->left.length+acc.length<=8->(∀p∈acc,p.t∈zB n) ->
   ∃(acc':List Pt) (y4 y5:B),(acc'.map (·.c)).Perm (acc.map (·.c)++left)/\(∀p∈acc',p.t∈zB n) /\
     rG (zZT 2) zZW fuel [.fz (.int n),.fz (.int cell),.ow (left.map zA),.ow (acc.map xA),x4,x5]=some (.nx [.fz (.int n),.fz (.int cell),.ow [],.ow (acc'.map xA),y4,y5])
 | 0,0,_,_,_,_,_,hf,_,_=>by omega
 | m+1,0,_,_,_,_,_,hf,_,_=>by omega
 | 0,f+1,left,acc,x4,x5,hm,_,_,ht=>by
   have e:left=[]:=Oy hm
   subst e
   exact⟨acc,x4,x5,by rw[Er],ht,rfl⟩
 | m+1,f+1,left,acc,x4,x5,hm,hf,hs,ht=>by
   have hne:left≠[]:=fun z=>by rw[z] at hm;simp at hm
   obtain⟨left',acc',y4,y5,l1,l2,l3,l4,l5⟩:=zSr hn cell left acc x4 x5 hne (by omega) (by omega) ht
   obtain⟨acc2,z4,z5,p1,p2,p3⟩:=zY4 hn cell m f left' acc' y4 y5 (by omega) (by omega) (by omega) l4
   refine⟨acc2,z4,z5,p1.trans l3,p2,?_⟩
   have t:zZT 2 [.fz (.int n),.fz (.int cell),.ow (left.map zA),.ow (acc.map xA),x4,x5]=some true:=by
     cases left with
     | nil=>exact absurd rfl hne
     | cons a r=>rfl
   rw[rG,t,Qw,Qb rfl,l5,Qw]
   exact p3
theorem zPk (n:Int)(j:Bool)(ps:List Pt)(b:Bool)(k:Int):gJ [yT wN n j ps,.bl b,.int k]=some (.int (if b=true then(ps.length:Int) - 1 - k else k)):=by
 have e:=zYO [.fz (yT wN n j ps),.fz (.bl b),.fz (.int k)] (eV 0) (wN:=wN) (n:=n) (j:=j) (ps:=ps) rfl
 have l:xB (wM (Str.ofString "Curve") (Str.ofString "parts") (eV 0)) [.fz (yT wN n j ps),.fz (.bl b),.fz (.int k)]=some (.int (ps.length:Nat)):=by
   unfold xB
   rw[e]
   show some (D.int ((ps.map xF).length:Nat))=_
   rw[Qy]
 have q:=zXV (eIf (tB1 (eV 1)) (rO (rO (xB (wM (Str.ofString "Curve") (Str.ofString "parts") (eV 0))) (eC (.int 1))) (eV 2)) (eV 2) [.fz (yT wN n j ps),.fz (.bl b),.fz (.int k)])
 have r:eIf (tB1 (eV 1)) (rO (rO (xB (wM (Str.ofString "Curve") (Str.ofString "parts") (eV 0))) (eC (.int 1))) (eV 2)) (eV 2) [.fz (yT wN n j ps),.fz (.bl b),.fz (.int k)]=some (.int (if b=true then(ps.length:Int) - 1 - k else k)):=by
   cases b with
   | true=>simp only[eIf,tB1,eI,l,eV,eC,sA,Qn,Qc,Qw,Rq]
   | false=>rfl
 exact q.trans r
theorem zRR:oV=nB:=rfl
theorem zPw:uX=kA:=rfl
def ixB (b:Bool)(len k:Nat):Nat:=if b=true then len - 1 - k else k
theorem zO4 {b:Bool}{len k:Nat}(h:k < len):(if b=true then(len:Int) - 1 - (k:Int) else(k:Int))=((ixB b len k:Nat):Int):=by
 unfold ixB
 cases b
 · rfl
 · rw[Qb rfl,Qb rfl];omega
theorem zXz {b:Bool}{len k:Nat}(h:k < len):ixB b len k < len:=by
 unfold ixB
 split<;>omega
def stD (t:Tn)(b:Bool):D:=.tup [yU t,.bl b]
def zHb (t:Tn)(b:Bool)(p:Pt):D:=.tup [zA (zQ t p.c),.tup [yU (yD t p.t),.bl (b != p.b)]]
theorem zJY (x y:Bool):gNe (.bl x) (.bl y)=some (x != y):=by cases x<;>cases y<;>rfl
section
variable {n:Nat} (hn:n=2∨n=3) {ps:List Pt} (ok:PtsOk n ps) {t:Tn} (ht:t∈zB n) (b j:Bool)
include hn ok ht
theorem zN9 {p:Pt}(hp:p∈ps):nB [yU t,zA p.c]=some (zA (zQ t p.c))/\kA [yU t,yU p.t]=some (yU (yD t p.t)):=by
 have T:=trM hn ht
 have U:=trM hn (ok.turn p hp)
 have small:n<=1000:=by rcases hn with rfl | rfl<;>decide
 have hc:p.c.length=n:=sX hn _ (ok.perm.mem_iff.mp (Wa.mpr ⟨p,hp,rfl⟩))
 exact⟨zVX t p.c (by rw[hc];exact T.fits) (by rw[T.len];exact small),zUa t p.t (by rw[U.len];exact T.fits) (by rw[T.len];exact small)⟩
theorem zMc {k:Nat}(hk:k < ps.length):vB [yT wN n j ps,stD t b,.int k]=some (zHb t b (ps[ixB b ps.length k]'(zXz hk))):=by
 generalize hp:ps[ixB b ps.length k]'(zXz hk)=p
 have hm:p∈ps:=by rw[←hp];exact Rj _
 obtain⟨f1,f2⟩:=zN9 hn ok ht hm
 have s0:mO (eV 1) (gT (zL (gN 3) (zL (gN 4) xP))) [.fz (yT wN n j ps),.fz (stD t b),.fz (.int k),.no,.no,.no,.no]=some (.nx [.fz (yT wN n j ps),.fz (stD t b),.fz (.int k),.fz (yU t),.fz (.bl b),.no,.no]):=rfl
 have q7:=fun r hk=>xZ (g:=fV) (r:=r) s0 hk
 refine q7 _ ?_
 have w:=zPk (wN:=wN) n j ps b k
 rw[zO4 hk] at w
 have at_:atD (.lst (ps.map xF)) (.int ((ixB b ps.length k:Nat):Int))=some (xF p):=by
   show atI (ps.map xF) _=_
   rw[eJ,zYQ (Qu (zXz hk)),hp]
   rfl
 have s1:yP 5 (eIx (wM (Str.ofString "Curve") (Str.ofString "parts") (eV 0)) (zO 3 gJ (zY (eV 0) (zY (eV 4) (zY (eV 2) zR))))) [.fz (yT wN n j ps),.fz (stD t b),.fz (.int k),.fz (yU t),.fz (.bl b),.no,.no]=some (.nx [.fz (yT wN n j ps),.fz (stD t b),.fz (.int k),.fz (yU t),.fz (.bl b),.fz (xF p),.no]):=by
   have e:=zYO [.fz (yT wN n j ps),.fz (stD t b),.fz (.int k),.fz (yU t),.fz (.bl b),.no,.no] (eV 0) (wN:=wN) (n:=n) (j:=j) (ps:=ps) rfl
   have e2:zO 3 gJ (zY (eV 0) (zY (eV 4) (zY (eV 2) zR))) [.fz (yT wN n j ps),.fz (stD t b),.fz (.int k),.fz (yU t),.fz (.bl b),.no,.no]=some (.int ((ixB b ps.length k:Nat):Int)):=w
   simp only[yP,eIx,e,e2,Qw,at_,Ww,List.set]
 have q8:=fun r hk=>xZ (g:=gI) (r:=r) s1 hk
 refine q8 _ ?_
 have o2:∀x y:D,okL [x,y]=some [x,y]:=fun _ _=>rfl
 have s2:yP 6 (yW (zY (zO 2 kA (zY (eV 3) (zY (wM (Str.ofString "Part") (Str.ofString "turn") (eV 5)) zR))) (zY (vI (eB2 gNe (eV 4) (wM (Str.ofString "Part") (Str.ofString "back") (eV 5)))) zR))) [.fz (yT wN n j ps),.fz (stD t b),.fz (.int k),.fz (yU t),.fz (.bl b),.fz (xF p),.no]=some (.nx [.fz (yT wN n j ps),.fz (stD t b),.fz (.int k),.fz (yU t),.fz (.bl b),.fz (xF p),.fz (.tup [yU (yD t p.t),.bl (b != p.b)])]):=by
   have e1:=zJb [.fz (yT wN n j ps),.fz (stD t b),.fz (.int k),.fz (yU t),.fz (.bl b),.fz (xF p),.no] (eV 5) p rfl
   have e2:=zJC [.fz (yT wN n j ps),.fz (stD t b),.fz (.int k),.fz (yU t),.fz (.bl b),.fz (xF p),.no] (eV 5) p rfl
   simp only[yP,yW,zY,zR,zO,vI,eB2,e1,e2]
   simp only[eV,sA,Qn,Qc,Qo,Eh,Qw,Ww,Rq,f2,zJY,o2,List.set]
 have q9:=fun r hk=>xZ (g:=zZb) (r:=r) s2 hk
 refine q9 _ ?_
 have e3:=zUy [.fz (yT wN n j ps),.fz (stD t b),.fz (.int k),.fz (yU t),.fz (.bl b),.fz (xF p),.fz (.tup [yU (yD t p.t),.bl (b != p.b)])] (eV 5) p rfl
 show((yW (zY (zO 2 nB (zY (eV 3) (zY (wM (Str.ofString "Part") (Str.ofString "corner") (eV 5)) zR))) (zY (eV 6) zR)) _).map Out.rt).bind xV=_
 simp only[yW,zY,zR,zO,e3]
 simp only[eV,sA,Qn,Qc,Qo,Eh,Qw,Ww,Rq,f1,o2,xV]
 rfl
end
theorem zR5 {n:Nat}(hn:n=2∨n=3):pT [.int n]=some ((zH n).map zA):=by
 rcases hn with rfl | rfl<;>kernel_rfl
theorem zM6 {n:Nat}(hn:n=2∨n=3)(cell:Int):∃ps:List Pt,PtsOk n ps/\eR [.int n,.int cell]=some (ps.map xA):=by
 have hl:(zH n).length+([]:List Pt).length<=8:=by rw[dP];rcases hn with rfl | rfl<;>decide
 have hl2:(zH n).length<=8:=by simpa using hl
 obtain⟨ps,y4,y5,p1,p2,p3⟩:=zY4 hn cell _ 100 (zH n) [] .no .no rfl (by omega) hl (by simp)
 refine⟨ps,⟨p1,p2⟩,?_⟩
 have hc:=zR5 hn
 have s0:uT 2 (sV 1 pT (zY (eV 0) zR)) [.fz (.int n),.fz (.int cell),.no,.no,.no,.no]=some (.nx [.fz (.int n),.fz (.int cell),.ow ((zH n).map zA),.no,.no,.no]):=by
   simp only[uT,sV,zY,zR,eV,sA,Qn,Qw,Ww,Qo,Eh,Rq,hc,List.set]
 have s1:uT 3 (yA zR) [.fz (.int n),.fz (.int cell),.ow ((zH n).map zA),.no,.no,.no]=some (.nx [.fz (.int n),.fz (.int cell),.ow ((zH n).map zA),.ow [],.no,.no]):=rfl
 rw[Wv] at p3
 show(pO [.fz (.int n),.fz (.int cell),.no,.no,.no,.no]).bind zR4=_
 unfold pO
 rw[yL s0]
 unfold lX
 rw[yL s1]
 unfold lY
 have p4:rG (zZT 2) (zP (yP 4 (zO 2 wL (zY (eV 1) (zY (vV (eC (.int 48271)) (sJ (eC (.int 997)) (gP 2))) zR)))) (zP (zOH 5 2 (xW (eV 4) (gP 2))) (iC 3 (yW (zY (eV 5) (zY (zO 2 vT (zY (wW (eV 4) (eC (.int 8))) (zY (eV 0) zR))) (zY (vI (eB2 gEq (xW (wW (eV 4) (eC (.int 800))) (eC (.int 2))) (eC (.int 1)))) zR))))))) 100 _=_:=p3
 rw[yL p4]
 rfl
def p0:Pt:=⟨[],[],false⟩
def enB (e f:List Int)(b:Bool):List Int:=if b then f else e
def zUo (n i:Nat)(c c' x y:List Int):Prop:=i < n/\c.getD i 0≠c'.getD i 0/\x.getD i 0=c'.getD i 0/\y.getD i 0=c.getD i 0/\∀j,j < n->j≠i->c.getD j 0=c'.getD j 0/\x.getD j 0=y.getD j 0
structure Mt (n:Nat)(ps:List Pt)(e f:List Int):Prop where
 ec:e∈zH n
 fc:f∈zH n
 first:(ps.getD 0 p0).c=e/\zQ (ps.getD 0 p0).t (enB e f (ps.getD 0 p0).b)=e
 last:(ps.getD (ps.length - 1) p0).c=f/\zQ (ps.getD (ps.length - 1) p0).t (enB f e (ps.getD (ps.length - 1) p0).b)=f
 next:∀k,k+1 < ps.length->∃i,zUo n i (ps.getD k p0).c (ps.getD (k+1) p0).c (zQ (ps.getD k p0).t (enB f e (ps.getD k p0).b)) (zQ (ps.getD (k+1) p0).t (enB e f (ps.getD (k+1) p0).b))
theorem rS {i:Nat}{f:Ef}{g:Sf}{ρ:List B}{d:D}(h:f ρ=some d):zP (yP i f) g ρ=g (ρ.set i (.fz d)):=yL (by unfold yP;rw[h];rfl)
theorem pA {f:List D->Option D}{fa:Ef}{ρ:List B}{x:D}(h:fa ρ=some x):zO 1 f (zY fa zR) ρ=f [x]:=gK (yZ h rfl) rfl
theorem vJ {f:List D->Option D}{fa fb:Ef}{ρ:List B}{x y:D}(h1:fa ρ=some x)(h2:fb ρ=some y):zO 2 f (zY fa (zY fb zR)) ρ=f [x,y]:=gK (yZ h1 (yZ h2 rfl)) rfl
theorem iE {f:List D->Option D}{fa fb fc:Ef}{ρ:List B}{x y z:D}(h1:fa ρ=some x)(h2:fb ρ=some y)(h3:fc ρ=some z):zO 3 f (zY fa (zY fb (zY fc zR))) ρ=f [x,y,z]:=gK (yZ h1 (yZ h2 (yZ h3 rfl))) rfl
theorem zK0 {f:List D->Option D}{fa fb fc fd:Ef}{ρ:List B}{x y z u:D}(h1:fa ρ=some x)(h2:fb ρ=some y)(h3:fc ρ=some z)(h4:fd ρ=some u):zO 4 f (zY fa (zY fb (zY fc (zY fd zR)))) ρ=f [x,y,z,u]:=gK (yZ h1 (yZ h2 (yZ h3 (yZ h4 rfl)))) rfl
theorem cQ {f:List D->Option (List D)}{fa fb:Ef}{ρ:List B}{x y:D}(h1:fa ρ=some x)(h2:fb ρ=some y):sV 2 f (zY fa (zY fb zR)) ρ=f [x,y]:=by unfold sV;rw[yZ h1 (yZ h2 rfl),Qw];rfl
theorem zD {C:Int->Int->Bool}{g:Int->Int->Int}{fa fb:Ef}{ρ:List B}{i j:Int}(h1:fa ρ=some (.int i))(h2:fb ρ=some (.int j))(h:C i j=true):eI C g fa fb ρ=some (.int (g i j)):=by
 unfold eI
 rw[h1,Qw,h2,Qw]
 show(if C i j then _ else none)=_
 rw[Qb h]
theorem sN {t:Tf}{f:Sf}{ρ:List B}{b:Bool}(h:t ρ=some b):sIf t f xT ρ=if b then f ρ else some (.nx ρ):=by unfold sIf;rw[h];cases b<;>rfl
theorem qH {i:Nat}{f:Ef}{ρ:List B}{d:D}{ds:List D}(e1:f ρ=some d)(e2:ρ[i]?=some (.ow ds))(e3:ds.length<=1000):iC i f ρ=some (.nx (ρ.set i (.ow (ds++[d])))):=by
 unfold iC;rw[e1,Qw,e2]
 show(if ds.length < lim then _ else none)=_
 rw[Qb (show ds.length < 100000 by omega)]
theorem xE {f:Ef}{ρ:List B}{x k:Int}(h:f ρ=some (.int x)):eB2 gEq f (eC (.int k)) ρ=some (decide (x=k)):=by unfold eB2;rw[h];rfl
theorem zLo {fa fb fc:Ef}{ρ:List B}{x y z:D}(h1:fa ρ=some x)(h2:fb ρ=some y)(h3:fc ρ=some z):yW (zY fa (zY fb (zY fc zR))) ρ=some (.tup [x,y,z]):=by
 unfold yW;rw[yZ h1 (yZ h2 (yZ h3 rfl))];rfl
theorem zO3 {t:Tn}(ht:t∈tY):sW [yU t]=some (yU (vQ t)):=by
 obtain⟨a,b,f,g,h1,h2,h3,rfl⟩:=zQN ht
 rcases h1 with⟨rfl,rfl⟩ | ⟨rfl,rfl⟩<;>rcases h2 with rfl | rfl<;>rcases h3 with rfl | rfl<;>kernel_rfl
theorem zMz {t:Tn}(ht:t∈tZ):sW [yU t]=some (yU (vQ t)):=by
 obtain⟨a,b,c,f,g,j,h1,h2,h3,h4,rfl⟩:=zQI ht
 rcases h1 with⟨rfl,rfl,rfl⟩ | ⟨rfl,rfl,rfl⟩ | ⟨rfl,rfl,rfl⟩ | ⟨rfl,rfl,rfl⟩ | ⟨rfl,rfl,rfl⟩ | ⟨rfl,rfl,rfl⟩<;>rcases h2 with rfl | rfl<;>rcases h3 with rfl | rfl<;>rcases h4 with rfl | rfl<;>kernel_rfl
theorem zWq {n:Nat}(hn:n=2∨n=3){t:Tn}(h:t∈zB n):sW [yU t]=some (yU (vQ t)):=by
 rcases hn with rfl | rfl
 · exact zO3 h
 · exact zMz h
theorem fT {n:Nat}(hn:n=2∨n=3){t u:Tn}(h:t∈zB n)(h':u∈zB n):uX [yU t,yU u]=some (yU (yD t u)):=by
 have T:=trM hn h
 have U:=trM hn h'
 have small:n<=1000:=by rcases hn with rfl | rfl<;>decide
 rw[zPw]
 exact zUa t u (by rw[U.len];exact T.fits) (by rw[T.len];exact small)
def zJw:List (List Int×Tn):=[([0,0],[(1,0),(0,0)]),([0,1],[(0,0),(1,0)]),([1,1],[(0,0),(1,0)]),([1,0],[(1,1),(0,1)])]
def zJq:List (List Int×Tn):=[([0,0,0],[(1,0),(0,0),(2,0)]),([0,1,0],[(1,0),(2,0),(0,0)]),([0,1,1],[(0,0),(1,0),(2,0)]),([0,0,1],[(1,1),(2,1),(0,0)]),([1,0,1],[(1,0),(2,1),(0,1)]),([1,1,1],[(0,0),(1,0),(2,0)]),([1,1,0],[(1,1),(2,0),(0,1)]),([1,0,0],[(1,1),(0,1),(2,0)])]
def hG (x:List Int×Tn):D:=.tup [zA x.1,yU x.2]
def cZ (n:Nat):List (List Int×Tn):=if n=2 then zJw else zJq
theorem zKK {n:Nat}(hn:n=2∨n=3):cF [.int n]=some ((cZ n).map hG):=by
 rcases hn with rfl | rfl<;>kernel_rfl
theorem zQG {n:Nat}(hn:n=2∨n=3):∀x∈cZ n,x.1∈zH n/\x.2∈zB n:=by
 rcases hn with rfl | rfl<;>decide +kernel
theorem zWh {n:Nat}(hn:n=2∨n=3):∀t∈zB n,((cZ n).map fun x=>zQ t x.1).Perm (zH n):=by
 rcases hn with rfl | rfl<;>decide +kernel
def gG (t u:Tn):Tn:=yD t (yD u (vQ t))
def mkP (t m:Tn)(x:List Int×Tn)(b:Bool):Pt:=⟨zQ t x.1,if b then yD (gG t x.2) m else gG t x.2,b⟩
theorem zOY {n:Nat}(hn:n=2∨n=3){t m u:Tn}{c:List Int}(ht:t∈zB n)(hm:m∈zB n)(hu:u∈zB n)(hc:c∈zH n)(x0 x1 x2 x9:B)(acc:List D)(ha:acc.length<=100)(rN:Int) :
   ∃b:Bool,(mkP t m (c,u) b).t∈zB n/\vK [x0,x1,x2,.fz (yU t),.fz (yU m),.ow acc,.fz (.int rN),.fz (zA c),.fz (yU u),x9]=some (.nx [x0,x1,x2,.fz (yU t),.fz (yU m),.ow (acc++[xA (mkP t m (c,u) b)]),.fz (.int (rN / 2)),.fz (zA c),.fz (yU u),.fz (yU (mkP t m (c,u) b).t)]):=by
 have um:=(eU hn ht).1
 have e1:=zWq hn ht
 have e2:=fT hn hu um
 have m2:=pM hn hu um
 have e3:=fT hn ht m2
 have m3:=pM hn ht m2
 have hl:gG t u=yD t (yD u (vQ t)):=rfl
 rw[←hl] at e3 m3
 generalize hlg:gG t u=l at e3 m3
 have e4:=fT hn m3 hm
 have m4:=pM hn m3 hm
 have T:=trM hn ht
 have small:n<=1000:=by rcases hn with rfl | rfl<;>decide
 have e5:oV [yU t,zA c]=some (zA (zQ t c)):=by
   rw[zRR]
   exact zVX t c (by rw[sX hn c hc];exact T.fits) (by rw[T.len];exact small)
 have fin:∀w:Tn,w∈zB n->sD [x0,x1,x2,.fz (yU t),.fz (yU m),.ow acc,.fz (.int rN),.fz (zA c),.fz (yU u),.fz (yU w)]=some (.nx [x0,x1,x2,.fz (yU t),.fz (yU m),.ow (acc++[xA ⟨zQ t c,w,decide (rN % 2=1)⟩]),.fz (.int (rN / 2)),.fz (zA c),.fz (yU u),.fz (yU w)]):=fun w hw=>by
   unfold sD
   rw[yL (qH (d:=xA ⟨zQ t c,w,decide (rN % 2=1)⟩) (ds:=acc) (zLo ((vJ rfl rfl).trans e5) rfl (by unfold vI;rw[xE (x:=rN % 2) (zD rfl rfl rfl)];rfl)) rfl (by omega))]
   rfl
 unfold vK
 rw[rS (d:=yU l) ((vJ rfl ((vJ rfl ((pA rfl).trans e1)).trans e2)).trans e3)]
 unfold pF
 have ht1:eB2 gEq (xW (eV 6) (eC (.int 2))) (eC (.int 1)) [x0,x1,x2,.fz (yU t),.fz (yU m),.ow acc,.fz (.int rN),.fz (zA c),.fz (yU u),.fz (yU l)]=some (decide (rN % 2=1)):=xE (zD rfl rfl rfl)
 by_cases hb:rN % 2=1
 · have hmk:mkP t m (c,u) true=⟨zQ t c,yD l m,decide (rN % 2=1)⟩:=by unfold mkP;rw[Qi hb,hlg];rfl
   refine⟨true,by rw[hmk];exact m4,?_⟩
   rw[hmk]
   rw[yL (ρ':=[x0,x1,x2,.fz (yU t),.fz (yU m),.ow acc,.fz (.int rN),.fz (zA c),.fz (yU u),.fz (yU (yD l m))])]
   · exact fin _ m4
   · refine(sN ht1).trans ?_
     rw[Qi hb,Qb rfl]
     unfold yP
     rw[vJ rfl rfl,e4]
     rfl
 · have hmk:mkP t m (c,u) false=⟨zQ t c,l,decide (rN % 2=1)⟩:=by unfold mkP;rw[Qz hb,hlg];rfl
   refine⟨false,by rw[hmk];exact m3,?_⟩
   rw[hmk]
   rw[yL (ρ':=[x0,x1,x2,.fz (yU t),.fz (yU m),.ow acc,.fz (.int rN),.fz (zA c),.fz (yU u),.fz (yU l)])]
   · exact fin _ m3
   · refine(sN ht1).trans ?_
     rw[Qz hb]
     rfl
theorem zW5 {n:Nat}(hn:n=2∨n=3){t m:Tn}(ht:t∈zB n)(hm:m∈zB n)(x0 x1 x2:B):∀(bs:List (List Int×Tn)) (acc:List Pt) (rN:Int) (x7 x8 x9:B),(∀x∈bs,x.1∈zH n/\x.2∈zB n)->acc.length+bs.length<=100->(∀p∈acc,p.t∈zB n) ->
   ∃(bl:List Bool) (y6 y7 y8 y9:B),bl.length=bs.length/\(∀p∈acc++List.zipWith (mkP t m) bs bl,p.t∈zB n) /\
     nH (gT (zL (gN 7) (zL (gN 8) xP))) vK (bs.map hG) [x0,x1,x2,.fz (yU t),.fz (yU m),.ow (acc.map xA),.fz (.int rN),x7,x8,x9]=some (.nx [x0,x1,x2,.fz (yU t),.fz (yU m),.ow ((acc++List.zipWith (mkP t m) bs bl).map xA),y6,y7,y8,y9])
 | [],acc,rN,x7,x8,x9,_,_,ha=>⟨[],.fz (.int rN),x7,x8,x9,rfl,by simpa using ha,by simp[nH]⟩
 | x::r,acc,rN,x7,x8,x9,hb,hl,ha=>by
   obtain⟨h1,h2⟩:=hb x Qh
   obtain⟨b,p2,p3⟩:=zOY hn ht hm h2 h1 x0 x1 x2 x9 (acc.map xA) (by rw[Qy];simp at hl;omega) rN
   obtain⟨bl,y6,y7,y8,y9,q1,q2,q3⟩:=zW5 hn ht hm x0 x1 x2 r (acc++[mkP t m (x.1,x.2) b]) (rN / 2) (.fz (zA x.1)) (.fz (yU x.2)) (.fz (yU (mkP t m (x.1,x.2) b).t)) (fun y hy=>hb y (Qd _ hy)) (by simp at hl ⊢;omega) (fun q hq=>by
     rcases Ee.mp hq with z | z
     · exact ha q z
     · rw[Wk.mp z];exact p2)
   rw[Ek] at q2 q3
   refine⟨b::bl,y6,y7,y8,y9,by simp[q1],q2,?_⟩
   · rw[Qp,oU (ρ1:=[x0,x1,x2,.fz (yU t),.fz (yU m),.ow (acc.map xA),.fz (.int rN),.fz (zA x.1),.fz (yU x.2),x9]) rfl p3]
     rw[Wy,Wy] at q3
     rw[Wy]
     exact q3
def e0M (n:Nat):List Int:=if n=2 then [0,0] else [0,0,0]
def f0M (n:Nat):List Int:=if n=2 then [1,0] else [1,0,0]
def zU0 (n:Nat):Tn:=if n=2 then [(0,1),(1,0)] else [(0,1),(1,0),(2,0)]
def tW (n:Nat)(rev:Bool):List (List Int×Tn):=if rev then(cZ n).reverse else cZ n
def eM (n:Nat)(t:Tn)(rev:Bool):List Int:=zQ t (if rev then f0M n else e0M n)
def fM (n:Nat)(t:Tn)(rev:Bool):List Int:=zQ t (if rev then e0M n else f0M n)
def b0:List Int×Tn:=([],[])
instance (n i:Nat)(c c' x y:List Int):Decidable (zUo n i c c' x y):=by unfold zUo;infer_instance
def zQE (n:Nat)(t:Tn)(rev:Bool):Bool :=
 decide (eM n t rev∈zH n)&&decide (fM n t rev∈zH n)&&decide (zQ (gG t (zU0 n)) (eM n t rev)=fM n t rev)&&decide (zQ (gG t (zU0 n)) (fM n t rev)=eM n t rev) &&
 decide (zQ t ((tW n rev).getD 0 b0).1=eM n t rev)&&decide (zQ (gG t ((tW n rev).getD 0 b0).2) (eM n t rev)=eM n t rev) &&
 decide (zQ t ((tW n rev).getD (2^n - 1) b0).1=fM n t rev)&&decide (zQ (gG t ((tW n rev).getD (2^n - 1) b0).2) (fM n t rev)=fM n t rev) &&
 (List.range (2^n - 1)).all fun k=>(List.range n).any fun i=>decide (zUo n i (zQ t ((tW n rev).getD k b0).1) (zQ t ((tW n rev).getD (k+1) b0).1) (zQ (gG t ((tW n rev).getD k b0).2) (fM n t rev)) (zQ (gG t ((tW n rev).getD (k+1) b0).2) (eM n t rev)))
theorem zM9 {n:Nat}(hn:n=2∨n=3):∀t∈zB n,∀rev,zQE n t rev=true:=by
 rcases hn with rfl | rfl
 · have:∀t∈zB 2,∀rev,zQE 2 t rev=true:=by decide +kernel
   exact this
 · have:∀t∈zB 3,∀rev,zQE 3 t rev=true:=by decide +kernel
   exact this
theorem zVA {n:Nat}(hn:n=2∨n=3){t u:Tn}(ht:t∈zB n)(hu:u∈zB n):gG t u∈zB n:=pM hn ht (pM hn hu (eU hn ht).1)
theorem zRa {n:Nat}(hn:n=2∨n=3):zU0 n∈zB n:=by
 rcases hn with rfl | rfl<;>decide +kernel
theorem zWj {n:Nat}(hn:n=2∨n=3)(rev:Bool):(tW n rev).length=2^n:=by
 rcases hn with rfl | rfl<;>cases rev<;>rfl
theorem zXP {n:Nat}(hn:n=2∨n=3)(rev:Bool):∀x∈tW n rev,x.1∈zH n/\x.2∈zB n:=by
 intro x hx
 cases rev with
 | false=>exact zQG hn x hx
 | true=>exact zQG hn x (List.mem_reverse.mp hx)
theorem zR1 {t m:Tn}{bs:List (List Int×Tn)}{bl:List Bool}(h:bl.length=bs.length):(List.zipWith (mkP t m) bs bl).length=bs.length:=by
 rw[List.length_zipWith,h,Nat.min_self]
theorem zV9 {t m:Tn}{bs:List (List Int×Tn)}{bl:List Bool}(h:bl.length=bs.length){k:Nat}(hk:k < bs.length):(List.zipWith (mkP t m) bs bl).getD k p0=mkP t m (bs.getD k b0) (bl.getD k false):=by
 rw[Wu,Qu (by rw[zR1 h];exact hk),List.getElem_zipWith,Wu,Qu hk,Wu,Qu (by rw[h];exact hk)]
 rfl
theorem zTd {n:Nat}(hn:n=2∨n=3){s t:Tn}(hs:s∈zB n)(ht:t∈zB n){c:List Int}(hc:c∈zH n):zQ (yD s t) c=zQ s (zQ t c) :=
 aZ (trM hn hs) (trM hn ht) (sX hn c hc) (by
   have key:∀c∈zH n,∀x∈c,x=0∨x=1:=by rcases hn with rfl | rfl<;>decide +kernel
   exact key c hc)
theorem zL2 {n:Nat}(hn:n=2∨n=3){t:Tn}(ht:t∈zB n)(rev:Bool){bl:List Bool}(hl:bl.length=(tW n rev).length):Mt n (List.zipWith (mkP t (gG t (zU0 n))) (tW n rev) bl) (eM n t rev) (fM n t rev):=by
 have hb:=zM9 hn t ht rev
 unfold zQE at hb
 simp only[Qx,Wh,Qv,List.any_eq_true,Rz] at hb
 obtain⟨⟨⟨⟨⟨⟨⟨⟨h1,h2⟩,h3⟩,h4⟩,h5⟩,h6⟩,h7⟩,h8⟩,h9⟩:=hb
 have hlen:=zWj hn rev
 have hpos:0 < 2^n:=Nat.pow_pos (by decide)
 have mm:=zVA hn ht (zRa hn)
 have mem:∀k,k < 2^n->(tW n rev).getD k b0∈tW n rev:=fun k hk=>by
   rw[Wu,Qu (by rw[hlen];exact hk)]
   exact Rj _
 have en:∀k,k < 2^n->∀b,zQ (mkP t (gG t (zU0 n)) ((tW n rev).getD k b0) b).t (enB (eM n t rev) (fM n t rev) b)=zQ (gG t ((tW n rev).getD k b0).2) (eM n t rev):=fun k hk b=>by
   have lm:=zVA hn ht (zXP hn rev _ (mem k hk)).2
   cases b with
   | false=>rfl
   | true =>
     show zQ (yD _ _) (fM n t rev)=_
     rw[zTd hn lm mm h2,h4]
 have ex:∀k,k < 2^n->∀b,zQ (mkP t (gG t (zU0 n)) ((tW n rev).getD k b0) b).t (enB (fM n t rev) (eM n t rev) b)=zQ (gG t ((tW n rev).getD k b0).2) (fM n t rev):=fun k hk b=>by
   have lm:=zVA hn ht (zXP hn rev _ (mem k hk)).2
   cases b with
   | false=>rfl
   | true =>
     show zQ (yD _ _) (eM n t rev)=_
     rw[zTd hn lm mm h1,h3]
 refine⟨h1,h2,?_,?_,fun k hk=>?_⟩
 · rw[zV9 hl (by omega)]
   exact⟨h5,(en 0 hpos _).trans h6⟩
 · rw[zR1 hl,hlen,zV9 hl (by omega)]
   exact⟨h7,(ex _ (by omega) _).trans h8⟩
 · rw[zR1 hl,hlen] at hk
   obtain⟨i,hi,ha⟩:=h9 k (by omega)
   refine⟨i,?_⟩
   rw[zV9 hl (by omega),zV9 hl (by omega)]
   have a1:=ex k (by omega) (bl.getD k false)
   have a2:=en (k+1) (by omega) (bl.getD (k+1) false)
   show zUo n i _ _ (zQ _ (enB _ _ (bl.getD k false))) (zQ _ (enB _ _ (bl.getD (k+1) false)))
   rw[a1,a2]
   exact ha
theorem zYm {t m:Tn}:∀ {bs:List (List Int×Tn)} {bl:List Bool},bl.length=bs.length->(List.zipWith (mkP t m) bs bl).map (·.c)=bs.map fun x=>zQ t x.1
 | [],[],_=>rfl
 | [],_::_,h=>by simp at h
 | _::_,[],h=>by simp at h
 | x::bs,b::bl,h=>by
   rw[Ui,Qp,Qp,zYm (by simpa using h)]
   rfl
theorem zOX {n:Nat}(hn:n=2∨n=3)(q:Int):∃(ps:List Pt) (e f:List Int),PtsOk n ps/\Mt n ps e f/\jQ [.int n,.int q]=some (ps.map xA):=by
 obtain⟨t,tm,te⟩:=zQ3 q hn
 have hmir:∃m,m=zU0 n/\∀r:List B,wX (eL (yJ (iR (eV 0)) 1 [] (gN 0) tOK (yW (zY (eV 0) (zY (sS (vI (eB2 gEq (eV 0) (eC (.int 0))))) zR))))) (.fz (.int (n:Nat))::r)=some (yU m):=by
   rcases hn with rfl | rfl
   · exact⟨[(0,1),(1,0)],rfl,fun r=>by kernel_rfl⟩
   · exact⟨[(0,1),(1,0),(2,0)],rfl,fun r=>by kernel_rfl⟩
 obtain⟨m,mdef,me⟩:=hmir
 have mm:m∈zB n:=by rw[mdef];exact zRa hn
 have um:=(eU hn tm).1
 have e1:=zWq hn tm
 have e2:=fT hn mm um
 have m2:=pM hn mm um
 have e3:=fT hn tm m2
 have m3:=pM hn tm m2
 have go:∀rev:Bool,((tW n rev).map fun x=>zQ t x.1).Perm (zH n)->∃(ps:List Pt) (e f:List Int),PtsOk n ps/\Mt n ps e f/\(rH [.fz (.int n),.fz (.int q),.fz (.lst ((tW n rev).map hG)),.fz (yU t),.no,.no,.no,.no,.no,.no]).bind zR4=some (ps.map xA):=fun rev h3=>by
   have hsm:(tW n rev).length<=100:=by rw[zWj hn];rcases hn with rfl | rfl<;>decide
   obtain⟨bl,y6,y7,y8,y9,q1,q2,q3⟩:=zW5 hn tm m3 (.fz (.int n)) (.fz (.int q)) (.fz (.lst ((tW n rev).map hG))) (tW n rev) [] (q / 96) .no .no .no (zXP hn rev) (by simpa using hsm) (by simp)
   rw[Wn] at q2 q3
   have mt:=zL2 hn tm rev q1
   rw[show gG t (zU0 n)=yD t (yD m (vQ t)) by rw[mdef];rfl] at mt
   have hpc:=zYm (t:=t) (m:=yD t (yD m (vQ t))) q1
   generalize hbs:tW n rev=bs at *
   generalize List.zipWith (mkP t (yD t (yD m (vQ t)))) bs bl=ps at *
   refine⟨ps,_,_,⟨?_,q2⟩,mt,?_⟩
   · rw[hpc];exact h3
   · unfold rH
     rw[rS (d:=yU m) (me _)]
     unfold mZ
     rw[rS (d:=yU (yD t (yD m (vQ t)))) ((vJ rfl ((vJ rfl ((pA rfl).trans e1)).trans e2)).trans e3)]
     unfold nO
     rw[yL (ρ':=[.fz (.int n),.fz (.int q),.fz (.lst (bs.map hG)),.fz (yU t),.fz (yU (yD t (yD m (vQ t)))),.ow [],.no,.no,.no,.no]) rfl]
     unfold nS
     rw[rS (d:=.int (q / 96)) (zD rfl rfl rfl)]
     unfold mU
     have fr:qO (iL (eV 2)) (gT (zL (gN 7) (zL (gN 8) xP))) vK [.fz (.int n),.fz (.int q),.fz (.lst (bs.map hG)),.fz (yU t),.fz (yU (yD t (yD m (vQ t)))),.ow [],.fz (.int (q / 96)),.no,.no,.no]=some (.nx [.fz (.int n),.fz (.int q),.fz (.lst (bs.map hG)),.fz (yU t),.fz (yU (yD t (yD m (vQ t)))),.ow (ps.map xA),y6,y7,y8,y9]):=q3
     dsimp only[List.set]
     rw[yL fr]
     rfl
 show ∃(ps:List Pt) (e f:List Int),PtsOk n ps/\Mt n ps e f/\(rK [.fz (.int n),.fz (.int q),.no,.no,.no,.no,.no,.no,.no,.no]).bind zR4=some (ps.map xA)
 unfold rK
 rw[rS (d:=.lst ((cZ n).map hG)) (dN (by unfold sV;rw[yZ (d:=.int n) rfl rfl,Qw];exact zKK hn))]
 unfold nA
 rw[rS (d:=yU t) ((vJ rfl rfl).trans te)]
 unfold nR
 have ht1:eB2 gEq (xW (wW (eV 1) (eC (.int 48))) (eC (.int 2))) (eC (.int 1)) [.fz (.int n),.fz (.int q),.fz (.lst ((cZ n).map hG)),.fz (yU t),.no,.no,.no,.no,.no,.no]=some (decide (q / 48 % 2=1)):=xE (zD (zD rfl rfl rfl) rfl rfl)
 by_cases hb:q / 48 % 2=1
 · obtain⟨ps,e,f,g1,g3,g2⟩:=go true (by show((cZ n).reverse.map _).Perm _;rw[List.map_reverse];exact(List.reverse_perm _).trans (zWh hn t tm))
   refine⟨ps,e,f,g1,g3,?_⟩
   rw[yL (ρ':=[.fz (.int n),.fz (.int q),.fz (.lst ((cZ n).reverse.map hG)),.fz (yU t),.no,.no,.no,.no,.no,.no])]
   · exact g2
   · refine(sN ht1).trans ?_
     rw[Qi hb,Qb rfl,List.map_reverse]
     rfl
 · obtain⟨ps,e,f,g1,g3,g2⟩:=go false (zWh hn t tm)
   refine⟨ps,e,f,g1,g3,?_⟩
   rw[yL (ρ':=[.fz (.int n),.fz (.int q),.fz (.lst ((cZ n).map hG)),.fz (yU t),.no,.no,.no,.no,.no,.no])]
   · exact g2
   · refine(sN ht1).trans ?_
     rw[Qz hb]
     rfl
def wQ (ps:List Pt)(b:Bool)(k:Nat):Pt:=ps.getD (ixB b ps.length k) ⟨[],[],false⟩
theorem zRj {ps:List Pt}{b:Bool}{k:Nat}(hk:k < ps.length):ps[ixB b ps.length k]'(zXz hk)=wQ ps b k:=by
 unfold wQ
 rw[Wu,Qu (zXz hk)]
 rfl
theorem lG {ps:List Pt}{b:Bool}{k:Nat}(hk:k < ps.length):wQ ps b k∈ps:=by rw[←zRj hk];exact Rj _
def cW (ps:List Pt)(i:Nat):Tn->Bool->Int->List Nat->Int
 | _,_,x,[]=>x
 | t,b,x,d::r=>cW ps i (yD t (wQ ps b d).t) (b != (wQ ps b d).b) (2*x+(zQ t (wQ ps b d).c).getD i 0) r
theorem zZG (ps:List Pt)(i:Nat):∀(ds:List Nat) (t:Tn) (b:Bool) (x:Int),cW ps i t b x ds=x*2^ds.length+cW ps i t b 0 ds
 | [],t,b,x=>by simp[cW]
 | d::r,t,b,x=>by
   unfold cW
   rw[zZG ps i r _ _ (2*x+_),zZG ps i r _ _ (2*0+_)]
   rw[Qo]
   generalize(zQ t (wQ ps b d).c).getD i 0=e
   generalize cW ps i _ _ 0 r=y
   rw[Int.pow_succ]
   generalize(2:Int)^r.length=p
   rw[Ym,Ym,Int.mul_comm 2 x,Int.mul_assoc,Int.mul_comm 2 p]
   omega
theorem mF {n:Nat}(hn:n=2∨n=3){c:List Int}(hc:c∈zH n)(i:Nat):c.getD i 0=0∨c.getD i 0=1:=by
 have key:∀c∈zH n,∀x∈c,x=0∨x=1:=by rcases hn with rfl | rfl<;>decide +kernel
 rw[Wu]
 cases h:c[i]? with
 | none=>exact .inl rfl
 | some x=>exact key c hc x (Ye h)
theorem kZ {n:Nat}(hn:n=2∨n=3):∀t∈zB n,∀c∈zH n,zQ t c∈zH n:=by
 rcases hn with rfl | rfl<;>decide +kernel
section
variable {n:Nat} (hn:n=2∨n=3) {ps:List Pt} (ok:PtsOk n ps)
include hn ok
theorem zMi {b:Bool}{k:Nat}(hk:k < ps.length):(wQ ps b k).c∈zH n:=ok.perm.mem_iff.mp (Wa.mpr ⟨_,lG hk,rfl⟩)
theorem zNh {t:Tn}(ht:t∈zB n){b:Bool}{k:Nat}(hk:k < ps.length):yD t (wQ ps b k).t∈zB n:=pM hn ht (ok.turn _ (lG hk))
theorem zLF (f:Nat->Int)(c:List Int)(hc:c.length=n):qK [zA ((List.range n).map f),zA c]=some (zA ((List.range n).map fun i=>2*f i+c.getD i 0)):=by
 rcases hn with rfl | rfl
 · match c,hc with
   | [a,b],_=>show qK [.tup [.int (f 0),.int (f 1)],.tup [.int a,.int b]]=some (.tup [.int (2*f 0+a),.int (2*f 1+b)]);generalize f 0=u;generalize f 1=v;kernel_rfl
 · match c,hc with
   | [a,b,e],_=>show qK [.tup [.int (f 0),.int (f 1),.int (f 2)],.tup [.int a,.int b,.int e]]=some (.tup [.int (2*f 0+a),.int (2*f 1+b),.int (2*f 2+e)]);generalize f 0=u;generalize f 1=v;generalize f 2=w;kernel_rfl
end
section
variable {ps:List Pt} (hB:0 < ps.length) (hs:ps.length<=8)
include hB hs
end
theorem rR {t:Tf}{f g:Sf}{ρ:List B}{r:Option D}(h:t ρ=some false)(k:(g ρ).bind xV=r):(zP (sIf t f xT) g ρ).bind xV=r:=xZ (by unfold sIf;rw[h];rfl) k
theorem vN {i:Nat}{f:Ef}{g:Sf}{ρ:List B}{d:D}{r:Option D}(h:f ρ=some d)(k:(g (ρ.set i (.fz d))).bind xV=r):(zP (yP i f) g ρ).bind xV=r:=xZ (by unfold yP;rw[h];rfl) k
theorem zIn {f:Ef}{ρ:List B}(h:f ρ=some (.bl true)):sO (tB1 f) ρ=some false:=by unfold sO tB1;rw[h];rfl
theorem zMH {n:Nat}(hn:n=2∨n=3):lZ [.int (n:Nat)]=some (stD (qL n) false):=by rcases hn with rfl | rfl<;>kernel_rfl
theorem zWw {n:Nat}(hn:n=2∨n=3):qL n∈zB n:=by rcases hn with rfl | rfl<;>decide +kernel
theorem zWm {n:Int}{j:Bool}{ps:List Pt}{ρ:List B}(h:eV 0 ρ=some (yT wN n j ps)):xB (wM (Str.ofString "Curve") (Str.ofString "parts") (eV 0)) ρ=some (.int (ps.length:Nat)):=by
 unfold xB
 rw[zYO ρ (eV 0) h,Qw]
 show some (D.int ((ps.map xF).length:Nat))=_
 rw[Qy]
theorem zMU {n:Int}{j:Bool}{ps:List Pt}{ρ:List B}(h:eV 0 ρ=some (yT wN n j ps)):wM (Str.ofString "Curve") (Str.ofString "dims") (eV 0) ρ=some (.int n):=by
 unfold wM;rw[h];rfl
section
variable {n:Nat} (hn:n=2∨n=3) {ps:List Pt} (ok:PtsOk n ps) (j:Bool)
include hn ok
end
theorem zYF {n:Nat}{e f:List Int}(he:e∈zH n)(hf:f∈zH n)(b:Bool):enB e f b∈zH n:=by cases b<;>assumption
theorem pL (e f:List Int)(b c:Bool):enB e f (b != c)=if b then enB f e c else enB e f c:=by cases b<;>cases c<;>rfl
theorem vZ {n:Nat}{s:Tn}(hs:Tr n s){c:List Int}{i:Nat}(hi:i < n):(zQ s c).getD i 0=Builtin.bitXor (c.getD (s.getD i (0,0)).1.toNat 0) (s.getD i (0,0)).2:=by
 unfold zQ
 rw[Wu,Wp,Qu (by rw[hs.len];exact hi),Wu (l:=s),Qu (by rw[hs.len];exact hi)]
 rfl
theorem zLM {n:Nat}(hn:n=2∨n=3){s:Tn}(hs:s∈zB n){c c' x y:List Int}(hc:c∈zH n)(hc':c'∈zH n)(hx:x∈zH n)(hy:y∈zH n){i:Nat}(h:zUo n i c c' x y):∃j,zUo n j (zQ s c) (zQ s c') (zQ s x) (zQ s y):=by
 have T:=trM hn hs
 -- the axis that turns to i
 have key:∀s∈zB n,∀i,i < n->∃j,j < n/\(s.getD j (0,0)).1.toNat=i/\∀k,k < n->k≠j->(s.getD k (0,0)).1.toNat≠i/\(s.getD k (0,0)).1.toNat < n:=by
   rcases hn with rfl | rfl
   · have:∀s∈zB 2,∀i,i < 2->∃j,j < 2/\(s.getD j (0,0)).1.toNat=i/\∀k,k < 2->k≠j->(s.getD k (0,0)).1.toNat≠i/\(s.getD k (0,0)).1.toNat < 2:=by decide +kernel
     exact this
   · have:∀s∈zB 3,∀i,i < 3->∃j,j < 3/\(s.getD j (0,0)).1.toNat=i/\∀k,k < 3->k≠j->(s.getD k (0,0)).1.toNat≠i/\(s.getD k (0,0)).1.toNat < 3:=by decide +kernel
     exact this
 have fl:∀s∈zB n,∀j,j < n->(s.getD j (0,0)).2=0∨(s.getD j (0,0)).2=1:=by
   rcases hn with rfl | rfl
   · have:∀s∈zB 2,∀j,j < 2->(s.getD j (0,0)).2=0∨(s.getD j (0,0)).2=1:=by decide +kernel
     exact this
   · have:∀s∈zB 3,∀j,j < 3->(s.getD j (0,0)).2=0∨(s.getD j (0,0)).2=1:=by decide +kernel
     exact this
 obtain⟨hi,h1,h2,h3,h4⟩:=h
 obtain⟨j,hj,e,ho⟩:=key s hs i hi
 have bc:=mF hn hc
 have bc':=mF hn hc'
 have xr:∀a b g:Int,(a=0∨a=1)->(b=0∨b=1)->(g=0∨g=1)->a≠b->Builtin.bitXor a g≠Builtin.bitXor b g:=by
   intro a b g ha hb hg hab
   rcases ha with rfl | rfl<;>rcases hb with rfl | rfl<;>rcases hg with rfl | rfl<;>first | exact absurd rfl hab | decide
 refine⟨j,hj,?_,?_,?_,fun k hk hkj=>?_⟩
 · rw[vZ T hj,vZ T hj,e]
   exact xr _ _ _ (bc i) (bc' i) (fl s hs j hj) h1
 · rw[vZ T hj,vZ T hj,e,h2]
 · rw[vZ T hj,vZ T hj,e,h3]
 · obtain⟨q1,q2⟩:=ho k hk hkj
   obtain⟨g1,g2⟩:=h4 _ q2 q1
   rw[vZ T hk,vZ T hk,vZ T hk,vZ T hk,g1,g2]
   exact⟨rfl,rfl⟩
section
variable {n:Nat} (hn:n=2∨n=3) {ps:List Pt} (ok:PtsOk n ps) {e f:List Int} (M:Mt n ps e f)
include hn ok M
theorem zQD:0 < ps.length:=by rw[ok.len];exact Nat.pow_pos (by decide)
theorem ta {s t:Tn}(hs:s∈zB n)(ht:t∈zB n){c:List Int}(hc:c∈zH n):zQ (yD s t) c=zQ s (zQ t c) :=
 aZ (trM hn hs) (trM hn ht) (sX hn c hc) (by
   have key:∀c∈zH n,∀x∈c,x=0∨x=1:=by rcases hn with rfl | rfl<;>decide +kernel
   exact key c hc)
theorem zNc (i:Nat):∀(m:Nat) (s:Tn) (b:Bool),s∈zB n->cW ps i s b 0 (List.replicate m 0)=(zQ s (enB e f b)).getD i 0*(2^m - 1)
 | 0,s,b,hs=>by simp[cW]
 | m+1,s,b,hs=>by
   have hp:=zQD hn ok M
   have pm:wQ ps b 0∈ps:=lG hp
   have hc:(wQ ps b 0).c=enB e f b/\zQ (wQ ps b 0).t (enB e f (b != (wQ ps b 0).b))=enB e f b:=by
     cases b with
     | false =>
       have:wQ ps false 0=ps.getD 0 p0:=rfl
       rw[this]
       refine⟨M.first.1,?_⟩
       rw[pL,Ws (by decide)]
       exact M.first.2
     | true =>
       have:wQ ps true 0=ps.getD (ps.length - 1) p0:=rfl
       rw[this]
       refine⟨M.last.1,?_⟩
       rw[pL,Qb rfl]
       exact M.last.2
   rw[Wf]
   unfold cW
   rw[zZG,zNc i m _ _ (zNh hn ok hs hp),ta hn ok M hs (ok.turn _ pm) (zYF M.ec M.fc _),hc.2,hc.1,Ev,Int.pow_succ]
   generalize(zQ s (enB e f b)).getD i 0=g
   generalize(2:Int)^m=p
   rw[Int.mul_zero,Int.zero_add,Os,Os,←Int.mul_assoc]
   omega
theorem zHT (i:Nat):∀(m:Nat) (s:Tn) (b:Bool),s∈zB n->cW ps i s b 0 (List.replicate m (ps.length - 1))=(zQ s (enB f e b)).getD i 0*(2^m - 1)
 | 0,s,b,hs=>by simp[cW]
 | m+1,s,b,hs=>by
   have hp:=zQD hn ok M
   have hq:ps.length - 1 < ps.length:=by omega
   have pm:wQ ps b (ps.length - 1)∈ps:=lG hq
   have hc:(wQ ps b (ps.length - 1)).c=enB f e b/\zQ (wQ ps b (ps.length - 1)).t (enB f e (b != (wQ ps b (ps.length - 1)).b))=enB f e b:=by
     cases b with
     | false =>
       have:wQ ps false (ps.length - 1)=ps.getD (ps.length - 1) p0:=rfl
       rw[this]
       refine⟨M.last.1,?_⟩
       rw[pL,Ws (by decide)]
       exact M.last.2
     | true =>
       have:wQ ps true (ps.length - 1)=ps.getD 0 p0:=by
         unfold wQ ixB
         rw[Qb rfl,show ps.length - 1 - (ps.length - 1)=0 by omega]
         rfl
       rw[this]
       refine⟨M.first.1,?_⟩
       rw[pL,Qb rfl]
       exact M.first.2
   rw[Wf]
   unfold cW
   rw[zZG,zHT i m _ _ (zNh hn ok hs hq),ta hn ok M hs (ok.turn _ pm) (zYF M.fc M.ec _),hc.2,hc.1,Ev,Int.pow_succ]
   generalize(zQ s (enB f e b)).getD i 0=g
   generalize(2:Int)^m=p
   rw[Int.mul_zero,Int.zero_add,Os,Os,←Int.mul_assoc]
   omega
theorem zID {k:Nat}(hk:k+1 < ps.length)(b:Bool):∃i,zUo n i (wQ ps b k).c (wQ ps b (k+1)).c (zQ (wQ ps b k).t (enB f e (b != (wQ ps b k).b))) (zQ (wQ ps b (k+1)).t (enB e f (b != (wQ ps b (k+1)).b))):=by
 cases b with
 | false =>
   obtain⟨i,h⟩:=M.next k hk
   refine⟨i,?_⟩
   rw[pL,pL,Ws (by decide),Ws (by decide)]
   exact h
 | true =>
   obtain⟨i,h1,h2,h3,h4,h5⟩:=M.next (ps.length - 1 - (k+1)) (by omega)
   have e1:wQ ps true k=ps.getD (ps.length - 1 - (k+1)+1) p0:=by
     unfold wQ ixB
     rw[Qb rfl,show ps.length - 1 - (k+1)+1=ps.length - 1 - k by omega]
     rfl
   have e2:wQ ps true (k+1)=ps.getD (ps.length - 1 - (k+1)) p0:=rfl
   refine⟨i,?_⟩
   rw[pL,pL,Qb rfl,Qb rfl,e1,e2]
   exact⟨h1,fun z=>h2 z.symm,h4,h3,fun j hj hji=>⟨(h5 j hj hji).1.symm,(h5 j hj hji).2.symm⟩⟩
def yB (ps:List Pt):Tn->Bool->List Nat->Tn×Bool
 | s,b,[]=>(s,b)
 | s,b,d::r=>yB ps (yD s (wQ ps b d).t) (b != (wQ ps b d).b) r
theorem zZy:∀(pre:List Nat) (s:Tn) (b:Bool),s∈zB n->(∀d∈pre,d < ps.length)->(yB ps s b pre).1∈zB n
 | [],s,b,hs,_=>hs
 | d::pre,s,b,hs,hd=>zZy pre _ _ (zNh hn ok hs (hd d Qh)) fun y hy=>hd y (Qd _ hy)
theorem zUD (i:Nat):∀(pre:List Nat) (s:Tn) (b:Bool) (x:Int) (r:List Nat),cW ps i s b x (pre++r)=cW ps i (yB ps s b pre).1 (yB ps s b pre).2 (cW ps i s b x pre) r
 | [],s,b,x,r=>rfl
 | d::pre,s,b,x,r=>zUD i pre _ _ _ r
theorem zIH (pre:List Nat)(k m:Nat)(hk:k+1 < ps.length)(hd:∀d∈pre,d < ps.length)(s:Tn)(b:Bool)(hs:s∈zB n) :
   ∃i,i < n/\(cW ps i s b 0 (pre++(k+1)::List.replicate m 0) - cW ps i s b 0 (pre++k::List.replicate m (ps.length - 1))=1∨cW ps i s b 0 (pre++(k+1)::List.replicate m 0) - cW ps i s b 0 (pre++k::List.replicate m (ps.length - 1)) = -1) /\
     ∀j,j < n->j≠i->cW ps j s b 0 (pre++(k+1)::List.replicate m 0)=cW ps j s b 0 (pre++k::List.replicate m (ps.length - 1)):=by
 have hs':=zZy hn ok M pre s b hs hd
 have hk0:k < ps.length:=by omega
 obtain⟨i,ag⟩:=zID hn ok M hk (yB ps s b pre).2
 have p1:=ok.turn _ (lG (b:=(yB ps s b pre).2) hk0)
 have p2:=ok.turn _ (lG (b:=(yB ps s b pre).2) hk)
 have c1:=zMi hn ok (b:=(yB ps s b pre).2) hk0
 have c2:=zMi hn ok (b:=(yB ps s b pre).2) hk
 have x1:=zYF M.fc M.ec ((yB ps s b pre).2 != (wQ ps (yB ps s b pre).2 k).b)
 have x2:=zYF M.ec M.fc ((yB ps s b pre).2 != (wQ ps (yB ps s b pre).2 (k+1)).b)
 obtain⟨j,hj,g1,g2,g3,g4⟩:=zLM hn hs' c1 c2 (kZ hn _ p1 _ x1) (kZ hn _ p2 _ x2) ag
 have val:∀a:Nat,cW ps a s b 0 (pre++(k+1)::List.replicate m 0)=(2*cW ps a s b 0 pre+(zQ (yB ps s b pre).1 (wQ ps (yB ps s b pre).2 (k+1)).c).getD a 0)*2^m+(zQ (yB ps s b pre).1 (zQ (wQ ps (yB ps s b pre).2 (k+1)).t (enB e f ((yB ps s b pre).2 != (wQ ps (yB ps s b pre).2 (k+1)).b)))).getD a 0*(2^m - 1):=fun a=>by
   rw[zUD hn ok M a pre]
   show cW ps a _ _ _ (List.replicate m 0)=_
   rw[zZG,zNc hn ok M a m _ _ (zNh hn ok hs' hk),ta hn ok M hs' p2 x2,Ev]
 have val':∀a:Nat,cW ps a s b 0 (pre++k::List.replicate m (ps.length - 1))=(2*cW ps a s b 0 pre+(zQ (yB ps s b pre).1 (wQ ps (yB ps s b pre).2 k).c).getD a 0)*2^m+(zQ (yB ps s b pre).1 (zQ (wQ ps (yB ps s b pre).2 k).t (enB f e ((yB ps s b pre).2 != (wQ ps (yB ps s b pre).2 k).b)))).getD a 0*(2^m - 1):=fun a=>by
   rw[zUD hn ok M a pre]
   show cW ps a _ _ _ (List.replicate m (ps.length - 1))=_
   rw[zZG,zHT hn ok M a m _ _ (zNh hn ok hs' hk0),ta hn ok M hs' p1 x1,Ev]
 have b1:=mF hn (kZ hn _ hs' _ c1)
 have b2:=mF hn (kZ hn _ hs' _ c2)
 refine⟨j,hj,?_,fun a ha haj=>?_⟩
 · rw[val j,val' j,g2,g3]
   have u1:=b1 j
   have u2:=b2 j
   generalize(zQ (yB ps s b pre).1 (wQ ps (yB ps s b pre).2 (k+1)).c).getD j 0=u at *
   generalize(zQ (yB ps s b pre).1 (wQ ps (yB ps s b pre).2 k).c).getD j 0=v at *
   generalize cW ps j s b 0 pre=w
   generalize(2:Int)^m=p
   rcases u1 with rfl | rfl<;>rcases u2 with rfl | rfl
   · exact absurd rfl g1
   · left
     rw[Ym,Ym]
     omega
   · right
     rw[Ym,Ym]
     omega
   · exact absurd rfl g1
 · obtain⟨q1,q2⟩:=g4 a ha haj
   rw[val a,val' a,q1,q2]
end
def aI (i:Int):Int:=if i < 0 then -i else i
def dst (xs ys:List Int):Int:=(List.zipWith (fun a b=>aI (a - b)) xs ys).sum
theorem zJ4 (a b:Int):aI (a - b)=aI (b - a):=by unfold aI;split<;>split<;>omega
theorem zRe:∀xs ys:List Int,dst xs ys=dst ys xs
 | [],[]=>rfl
 | [],_::_=>rfl
 | _::_,[]=>rfl
 | x::xs,y::ys=>by
   have:=zRe xs ys
   unfold dst at this ⊢
   rw[Ui,Ui,Rm,Rm,this,zJ4]
theorem zLn {n:Nat}(hn:n=2∨n=3):∀xs ys:List Int,xs.length=n->ys.length=n->nU [zA xs,zA ys]=some (.bl (decide (dst xs ys=1))):=by
 rcases hn with rfl | rfl
 · intro xs ys hx hy
   match xs,ys,hx,hy with
   | [a,b],[c,d],_,_=>kernel_rfl
 · intro xs ys hx hy
   match xs,ys,hx,hy with
   | [a,b,e],[c,d,f],_,_=>kernel_rfl
theorem zYf {x:Int}(h:x=1∨x = -1):aI x=1:=by rcases h with rfl | rfl<;>rfl
theorem hW {x y:Int}(h:x=y):aI (x - y)=0:=by rw[h,Int.sub_self];rfl
theorem zPb {n:Nat}(hn:n=2∨n=3)(f g:Nat->Int){i:Nat}(hi:i < n)(h1:f i - g i=1∨f i - g i = -1)(h2:∀j,j < n->j≠i->f j=g j):dst ((List.range n).map f) ((List.range n).map g)=1:=by
 rcases hn with rfl | rfl
 · show aI (f 0 - g 0)+(aI (f 1 - g 1)+0)=1
   match i,hi with
   | 0,_=>rw[zYf h1,hW (h2 1 (by decide) (by decide))];rfl
   | 1,_=>rw[zYf h1,hW (h2 0 (by decide) (by decide))];rfl
 · show aI (f 0 - g 0)+(aI (f 1 - g 1)+(aI (f 2 - g 2)+0))=1
   match i,hi with
   | 0,_=>rw[zYf h1,hW (h2 1 (by decide) (by decide)),hW (h2 2 (by decide) (by decide))];rfl
   | 1,_=>rw[zYf h1,hW (h2 0 (by decide) (by decide)),hW (h2 2 (by decide) (by decide))];rfl
   | 2,_=>rw[zYf h1,hW (h2 0 (by decide) (by decide)),hW (h2 1 (by decide) (by decide))];rfl
end My
noncomputable section
namespace My
open PySem L2
theorem pig {α:Type}:∀(l m:List α),l.Nodup->(∀x∈l,x∈m)->l.length<=m.length
 | [],m,_,_=>Td _
 | a::t,m,nd,h=>by
   obtain⟨m1,m2,rfl⟩:=List.append_of_mem (h a Qh)
   obtain⟨na,nt⟩:=Yp.mp nd
   have:=pig t (m1++m2) nt fun x hx=>by
     have hm:=h x (Qd _ hx)
     rcases Ee.mp hm with z | z
     · exact Uc _ z
     · rcases Qa.mp z with rfl | z
       · exact absurd hx na
       · exact Eu _ z
   simp only[Wq,Qo] at this ⊢
   omega
def kP (p:Int×Int):KT:=.tup [.int p.1,.int p.2]
def kS (t:Tn)(b:Bool):KT:=.tup [.tup (t.map kP),.int (if b then 1 else 0)]
def zWV (x y:Tn×Bool):KT:=.tup [kS x.1 x.2,kS y.1 y.2]
theorem zQT (n:Nat)(i:Int):ktD n (.int i)=some (.int i):=by cases n<;>rfl
theorem zIc (n:Nat)(p:Int×Int):ktD (n+1) (iD p)=some (kP p):=by
 show(zZL (ktD n) [.int p.1,.int p.2]).map KT.tup=_
 rw[zZL,zQT,Qw,zZL,zQT]
 rfl
theorem zT6 (n:Nat):∀t:Tn,zZL (ktD (n+1)) (t.map iD)=some (t.map kP)
 | []=>rfl
 | p::r=>by
   rw[Qp,Qp,zZL,zT6 n r,zIc]
   rfl
theorem zTN (n:Nat)(t:Tn)(b:Bool):ktD (n+3) (stD t b)=some (kS t b):=by
 unfold stD
 show((((zZL (ktD (n+1)) (t.map iD)).map KT.tup).bind fun k=>_).map KT.tup)=_
 rw[zT6 n t]
 rfl
theorem zJI (x y:Tn×Bool):zN1 (.tup [stD x.1 x.2,stD y.1 y.2])=some (zWV x y):=by
 show((((ktD 7 (stD x.1 x.2)).bind fun k=>((ktD 7 (stD y.1 y.2)).bind fun k=>(some []).map _).map _)).map KT.tup)=_
 rw[zTN 4,zTN 4]
 rfl
def sts (n:Nat):List (Tn×Bool):=(zB n).flatMap fun t=>[(t,false),(t,true)]
def zRW (n:Nat):List KT:=(sts n).flatMap fun x=>(sts n).map fun y=>zWV x y
theorem zRi {n:Nat}{t:Tn}(h:t∈zB n)(b:Bool):(t,b)∈sts n:=Ts.mpr ⟨t,h,by cases b<;>simp⟩
theorem zNv {n:Nat}{x y:Tn×Bool}(hx:x∈sts n)(hy:y∈sts n):zWV x y∈zRW n:=Ts.mpr ⟨x,hx,Wa.mpr ⟨y,hy,rfl⟩⟩
theorem zTg {n:Nat}(hn:n=2∨n=3):(zRW n).length<=9216:=by
 rcases hn with rfl | rfl
 · have:(zRW 2).length<=9216:=by decide +kernel
   exact this
 · have:(zRW 3).length<=9216:=by decide +kernel
   exact this
section
variable {n:Nat} (hn:n=2∨n=3) {ps:List Pt} (ok:PtsOk n ps) {e f:List Int} (M:Mt n ps e f) (j:Bool)
def wS (ps:List Pt)(n:Nat)(pre:List Nat):Tn×Bool:=yB ps (qL n) false pre
def wP (ps:List Pt)(n:Nat)(pre:List Nat):List Int:=(List.range n).map fun i=>cW ps i (qL n) false 0 pre
theorem zKX (pre:List Nat)(d:Nat):wS ps n (pre++[d])=(yD (wS ps n pre).1 (wQ ps (wS ps n pre).2 d).t,(wS ps n pre).2 != (wQ ps (wS ps n pre).2 d).b):=by
 unfold wS
 have:∀(pre:List Nat) (s:Tn) (b:Bool),yB ps s b (pre++[d])=(yD (yB ps s b pre).1 (wQ ps (yB ps s b pre).2 d).t,(yB ps s b pre).2 != (wQ ps (yB ps s b pre).2 d).b):=by
   intro pre
   induction pre with
   | nil=>intro s b;rfl
   | cons x r ih=>intro s b;exact ih _ _
 exact this pre _ _
include hn ok M
theorem zQB (pre:List Nat)(d:Nat):wP ps n (pre++[d])=(List.range n).map fun i=>2*cW ps i (qL n) false 0 pre+(zQ (wS ps n pre).1 (wQ ps (wS ps n pre).2 d).c).getD i 0:=by
 unfold wP
 refine Rn fun i _=>?_
 rw[zUD hn ok M i pre]
 rfl
theorem zXH {pre:List Nat}(hd:∀d∈pre,d < ps.length):(wS ps n pre).1∈zB n:=zZy hn ok M pre _ _ (zWw hn) hd
theorem eH {pre:List Nat}(hd:∀d∈pre,d < ps.length){d:Nat}(hk:d < ps.length):vB [yT wN n j ps,stD (wS ps n pre).1 (wS ps n pre).2,.int (d:Nat)]=some (.tup [zA (zQ (wS ps n pre).1 (wQ ps (wS ps n pre).2 d).c),stD (wS ps n (pre++[d])).1 (wS ps n (pre++[d])).2]):=by
 have e1:=zMc (wN:=wN) hn ok (zXH hn ok M hd) (wS ps n pre).2 j hk
 rw[zRj hk] at e1
 rw[e1,zKX]
 rfl
theorem zVY {pre:List Nat}(hd:∀d∈pre,d < ps.length){d:Nat}(hk:d < ps.length):qK [zA (wP ps n pre),zA (zQ (wS ps n pre).1 (wQ ps (wS ps n pre).2 d).c)]=some (zA (wP ps n (pre++[d]))):=by
 rw[zQB hn ok M]
 exact zLF hn ok _ _ (sX hn _ (kZ hn _ (zXH hn ok M hd) _ (zMi hn ok (b:=(wS ps n pre).2) hk)))
theorem zZw {k:Nat}(hk:k < ps.length):zQ (wS ps n []).1 (wQ ps (wS ps n []).2 k).c=wP ps n [k]:=by
 have h:=zQB hn ok M [] k
 rw[Wn] at h
 rw[h]
 have hl:=sX hn _ (kZ hn _ (zXH hn ok M (pre:=[]) (by simp)) _ (zMi hn ok (b:=(wS ps n []).2) hk))
 generalize zQ (wS ps n []).1 (wQ ps (wS ps n []).2 k).c=c at hl
 rcases hn with rfl | rfl
 · match c,hl with
   | [a,b],_=>simp[List.range,List.range.loop,cW]
 · match c,hl with
   | [a,b,e],_=>simp[List.range,List.range.loop,cW]
theorem zLE (k m:Nat)(hk:k+1 < ps.length):dst (wP ps n (k::List.replicate m (ps.length - 1))) (wP ps n ((k+1)::List.replicate m 0))=1:=by
 obtain⟨i,hi,h1,h3⟩:=zIH hn ok M [] k m hk (by simp) (qL n) false (zWw hn)
 rw[zRe]
 exact zPb hn _ _ hi h1 h3
def zR2:Sf:=(zP (sIf (zVd 8 (yW (zY (eV 4) (zY (eV 6) zR)))) (yO (eC .non)) xT)
   (zP (zZq 8 (yW (zY (eV 4) (zY (eV 6) zR))) (eC (.bl true)))
   (zP (mO (zO 3 vB (zY (eV 0) (zY (eV 4) (zY (rO (xB (wM "Curve" "parts" (eV 0))) (eC (.int 1))) zR)))) (gT (zL (gN 9) (zL (gN 4) xP))))
   (zP (yP 3 (zO 2 qK (zY (eV 3) (zY (eV 9) zR))))
   (zP (mO (zO 3 vB (zY (eV 0) (zY (eV 6) (zY (eC (.int 0)) zR)))) (gT (zL (gN 9) (zL (gN 6) xP))))
   (zP (yP 5 (zO 2 qK (zY (eV 5) (zY (eV 9) zR))))
   (yP 7 (vV (eV 7) (eC (.int 1))))))))))
theorem zHE:iY=zP (rG (tB1 (zO 2 nU (zY (eV 3) (zY (eV 5) zR)))) zR2 10000) bB:=rfl
def zJQ (wN:Str)(n:Nat)(j:Bool)(ps:List Pt)(k m:Nat)(x1 x2:B)(lv:Int)(kvs:List (D×D))(x9:D)(o9:Bool):List B :=
 [.fz (yT wN n j ps),x1,x2,.fz (zA (wP ps n (k::List.replicate m (ps.length - 1)))),.fz (stD (wS ps n (k::List.replicate m (ps.length - 1))).1 (wS ps n (k::List.replicate m (ps.length - 1))).2),
   .fz (zA (wP ps n ((k+1)::List.replicate m 0))),.fz (stD (wS ps n ((k+1)::List.replicate m 0)).1 (wS ps n ((k+1)::List.replicate m 0)).2),.fz (.int lv),.od kvs,if o9 then .fz x9 else .no]
theorem zXU {k:Nat}(hk:k+1 < ps.length)(d1 d2:D):∀(fuel m:Nat) (lv:Int) (kvs:List (D×D)) (ks:List KT) (x9:D) (o9:Bool),(kvs.map fun p=>ktD 8 p.1)=ks.map some->ks.Nodup->(∀x∈ks,x∈zRW n)->9216 < ks.length+fuel ->
   rG (tB1 (zO 2 nU (zY (eV 3) (zY (eV 5) zR)))) zR2 fuel (zJQ wN n j ps k m (.fz d1) (.fz d2) lv kvs x9 o9)=some (.rt .non)
 | 0,m,lv,kvs,ks,x9,o9,h1,h2,h3,h4=>by
   have:=pig ks (zRW n) h2 h3
   have:=zTg hn
   omega
 | fuel+1,m,lv,kvs,ks,x9,o9,h1,h2,h3,h4=>by
   have hB:0 < ps.length:=by omega
   have hlast:ps.length - 1 < ps.length:=by omega
   have hdE:∀d∈k::List.replicate m (ps.length - 1),d < ps.length:=fun d hd=>by
     rcases Qa.mp hd with rfl | hd
     · omega
     · rw[List.eq_of_mem_replicate hd];exact hlast
   have hdS:∀d∈(k+1)::List.replicate m 0,d < ps.length:=fun d hd=>by
     rcases Qa.mp hd with rfl | hd
     · exact hk
     · rw[List.eq_of_mem_replicate hd];exact hB
   have near:=zLE hn ok M k m hk
   have nx:=zLn hn (wP ps n (k::List.replicate m (ps.length - 1))) (wP ps n ((k+1)::List.replicate m 0)) (by simp[wP]) (by simp[wP])
   rw[near,Qi rfl] at nx
   have p1:=eH (wN:=wN) hn ok M j hdE hlast
   have p2:=zVY hn ok M hdE hlast
   have p3:=eH (wN:=wN) hn ok M j hdS hB
   have p4:=zVY hn ok M hdS hB
   have r1:k::List.replicate m (ps.length - 1)++[ps.length - 1]=k::List.replicate (m+1) (ps.length - 1):=by rw[List.replicate_succ',Ry]
   have r2:(k+1)::List.replicate m 0++[0]=(k+1)::List.replicate (m+1) 0:=by rw[List.replicate_succ',Ry]
   have tE:=zRi (zXH hn ok M hdE) (wS ps n (k::List.replicate m (ps.length - 1))).2
   have tS:=zRi (zXH hn ok M hdS) (wS ps n ((k+1)::List.replicate m 0)).2
   have hkey:=zJI (wS ps n (k::List.replicate m (ps.length - 1))) (wS ps n ((k+1)::List.replicate m 0))
   have hin:=zNv tE tS
   have mem:some (zWV (wS ps n (k::List.replicate m (ps.length - 1))) (wS ps n ((k+1)::List.replicate m 0)))∈(kvs.map fun p=>ktD 8 p.1)↔zWV (wS ps n (k::List.replicate m (ps.length - 1))) (wS ps n ((k+1)::List.replicate m 0))∈ks:=by
     rw[h1]
     constructor
     · intro z;obtain⟨x,hx,e⟩:=Wa.mp z;cases e;exact hx
     · intro z;exact Wa.mpr ⟨_,z,rfl⟩
   have hlk:kvs.length=ks.length:=by
     have:=Ea List.length h1
     simpa using this
   have hle:=Ey (pig ks (zRW n) h2 h3) (zTg hn)
   have ih:=zXU (wN:=wN) hk d1 d2 fuel (m+1) (lv+1)
   unfold zJQ at ih ⊢
   rw[r1] at p1 p2
   rw[r2] at p3 p4
   generalize wP ps n (k::List.replicate m (ps.length - 1))=a3 at *
   generalize hw4:wS ps n (k::List.replicate m (ps.length - 1))=a4 at *
   generalize wP ps n ((k+1)::List.replicate m 0)=a5 at *
   generalize hw6:wS ps n ((k+1)::List.replicate m 0)=a6 at *
   rw[rG]
   have tst:tB1 (zO 2 nU (zY (eV 3) (zY (eV 5) zR))) [.fz (yT wN n j ps),.fz d1,.fz d2,.fz (zA a3),.fz (stD a4.1 a4.2),.fz (zA a5),.fz (stD a6.1 a6.2),.fz (.int lv),.od kvs,if o9 then .fz x9 else .no]=some true:=by
     unfold tB1;rw[vJ rfl rfl,nx];rfl
   rw[tst,Qw,Qb rfl]
   have tin:zVd 8 (yW (zY (eV 4) (zY (eV 6) zR))) [.fz (yT wN n j ps),.fz d1,.fz d2,.fz (zA a3),.fz (stD a4.1 a4.2),.fz (zA a5),.fz (stD a6.1 a6.2),.fz (.int lv),.od kvs,if o9 then .fz x9 else .no]=some (decide (some (zWV a4 a6)∈kvs.map fun p=>ktD 8 p.1)):=by
     unfold zVd
     show((some (D.tup [stD a4.1 a4.2,stD a6.1 a6.2])).bind fun d=>_)=_
     rw[Qw,hkey]
     rfl
   unfold zR2
   by_cases hm:zWV a4 a6∈ks
   · rw[bH (d:=.non) ((sN tin).trans (by rw[Qi (mem.mpr hm)];rfl))]
     rfl
   · have hm':some (zWV a4 a6)∉kvs.map fun p=>ktD 8 p.1:=fun z=>hm (mem.mp z)
     rw[yL ((sN tin).trans (by rw[Qz hm'];rfl))]
     have sd:zZq 8 (yW (zY (eV 4) (zY (eV 6) zR))) (eC (.bl true)) [.fz (yT wN n j ps),.fz d1,.fz d2,.fz (zA a3),.fz (stD a4.1 a4.2),.fz (zA a5),.fz (stD a6.1 a6.2),.fz (.int lv),.od kvs,if o9 then .fz x9 else .no]=some (.nx [.fz (yT wN n j ps),.fz d1,.fz d2,.fz (zA a3),.fz (stD a4.1 a4.2),.fz (zA a5),.fz (stD a6.1 a6.2),.fz (.int lv),.od (kvs++[(.tup [stD a4.1 a4.2,stD a6.1 a6.2],.bl true)]),if o9 then .fz x9 else .no]):=by
       unfold zZq
       show((some (D.bl true)).bind fun e=>((some (D.tup [stD a4.1 a4.2,stD a6.1 a6.2])).bind fun d=>_))=_
       rw[Qw,Qw,hkey,Qw]
       show(if kvs.length<=lim/\_/\_ then _ else none)=_
       rw[Qb ⟨show kvs.length<=100000 by omega,by cases o9<;>rfl,hm'⟩]
       rfl
     rw[yL sd]
     have hlp:∀ρ,eV 0 ρ=some (yT wN n j ps)->rO (xB (wM "Curve" "parts" (eV 0))) (eC (.int 1)) ρ=some (.int ((ps.length - 1:Nat):Nat)):=fun ρ h=>by
       rw[show((ps.length - 1:Nat):Int)=(ps.length:Int) - 1 by omega]
       exact zD (zWm h) rfl rfl
     rw[yL (ρ':=[.fz (yT wN n j ps),.fz d1,.fz d2,.fz (zA a3),.fz (stD (wS ps n (k::List.replicate (m+1) (ps.length - 1))).1 (wS ps n (k::List.replicate (m+1) (ps.length - 1))).2),.fz (zA a5),.fz (stD a6.1 a6.2),.fz (.int lv),.od (kvs++[(.tup [stD a4.1 a4.2,stD a6.1 a6.2],.bl true)]),.fz (zA (zQ a4.1 (wQ ps a4.2 (ps.length - 1)).c))]) (by
       unfold mO
       rw[iE rfl rfl (hlp _ rfl),p1]
       cases o9<;>rfl)]
     rw[rS ((vJ rfl rfl).trans p2)]
     dsimp only[List.set]
     rw[yL (ρ':=[.fz (yT wN n j ps),.fz d1,.fz d2,.fz (zA (wP ps n (k::List.replicate (m+1) (ps.length - 1)))),.fz (stD (wS ps n (k::List.replicate (m+1) (ps.length - 1))).1 (wS ps n (k::List.replicate (m+1) (ps.length - 1))).2),.fz (zA a5),.fz (stD (wS ps n ((k+1)::List.replicate (m+1) 0)).1 (wS ps n ((k+1)::List.replicate (m+1) 0)).2),.fz (.int lv),.od (kvs++[(.tup [stD a4.1 a4.2,stD a6.1 a6.2],.bl true)]),.fz (zA (zQ a6.1 (wQ ps a6.2 0).c))]) (by
       unfold mO
       rw[iE rfl rfl (show eC (.int 0) _=some (.int ((0:Nat):Nat)) from rfl),p3]
       rfl)]
     rw[rS ((vJ rfl rfl).trans p4)]
     dsimp only[List.set]
     have last:yP 7 (vV (eV 7) (eC (.int 1))) [.fz (yT wN n j ps),.fz d1,.fz d2,.fz (zA (wP ps n (k::List.replicate (m+1) (ps.length - 1)))),.fz (stD (wS ps n (k::List.replicate (m+1) (ps.length - 1))).1 (wS ps n (k::List.replicate (m+1) (ps.length - 1))).2),.fz (zA (wP ps n ((k+1)::List.replicate (m+1) 0))),.fz (stD (wS ps n ((k+1)::List.replicate (m+1) 0)).1 (wS ps n ((k+1)::List.replicate (m+1) 0)).2),.fz (.int lv),.od (kvs++[(.tup [stD a4.1 a4.2,stD a6.1 a6.2],.bl true)]),.fz (zA (zQ a6.1 (wQ ps a6.2 0).c))]=some (.nx [.fz (yT wN n j ps),.fz d1,.fz d2,.fz (zA (wP ps n (k::List.replicate (m+1) (ps.length - 1)))),.fz (stD (wS ps n (k::List.replicate (m+1) (ps.length - 1))).1 (wS ps n (k::List.replicate (m+1) (ps.length - 1))).2),.fz (zA (wP ps n ((k+1)::List.replicate (m+1) 0))),.fz (stD (wS ps n ((k+1)::List.replicate (m+1) 0)).1 (wS ps n ((k+1)::List.replicate (m+1) 0)).2),.fz (.int (lv+1)),.od (kvs++[(.tup [stD a4.1 a4.2,stD a6.1 a6.2],.bl true)]),.fz (zA (zQ a6.1 (wQ ps a6.2 0).c))]):=rfl
     rw[last,Qw]
     refine ih (kvs++[(.tup [stD a4.1 a4.2,stD a6.1 a6.2],.bl true)]) (ks++[zWV a4 a6]) (zA (zQ a6.1 (wQ ps a6.2 0).c)) true ?_ ?_ ?_ ?_
     · rw[Wy,Wy,h1]
       show _++[ktD 8 (.tup [stD a4.1 a4.2,stD a6.1 a6.2])]=_
       rw[show ktD 8 (.tup [stD a4.1 a4.2,stD a6.1 a6.2])=some (zWV a4 a6) from hkey]
       rfl
     · exact Yc.mpr ⟨h2,by simp,fun x hx y hy=>by rw[Wk] at hy;subst hy;intro z;exact hm (z ▸ hx)⟩
     · intro x hx
       rcases Ee.mp hx with z | z
       · exact h3 x z
       · rw[Wk.mp z];exact hin
     · rw[Wq,Ei];omega
theorem zMv {k:Nat}(hk:k+1 < ps.length):iQ [yT wN n j ps,.int (k:Nat)]=some .non:=by
 have e0:=zMH hn
 have p1:=eH (wN:=wN) hn ok M j (pre:=[]) (by simp) (show k < ps.length by omega)
 have p2:=eH (wN:=wN) hn ok M j (pre:=[]) (by simp) hk
 rw[zZw hn ok M (show k < ps.length by omega)] at p1
 rw[zZw hn ok M hk] at p2
 have lp:=zXU (wN:=wN) hn ok M j hk (.int (k:Nat)) (stD (qL n) false) 10000 0 1 [] [] (.non) false rfl List.nodup_nil (by simp) (by simp)
 show(oW [.fz (yT wN n j ps),.fz (.int (k:Nat)),.no,.no,.no,.no,.no,.no,.no,.no]).bind xV=_
 unfold oW
 refine vN ((pA (zMU (wN:=wN) (n:=n) (j:=j) (ps:=ps) rfl)).trans e0) ?_
 unfold jD
 refine xZ (ρ':=[.fz (yT wN n j ps),.fz (.int (k:Nat)),.fz (stD (qL n) false),.fz (zA (wP ps n [k])),.fz (stD (wS ps n [k]).1 (wS ps n [k]).2),.no,.no,.no,.no,.no]) (by
   unfold mO
   rw[iE rfl rfl rfl,show vB [yT wN n j ps,stD (qL n) false,.int (k:Nat)]=_ from p1]
   rfl) ?_
 unfold kG
 refine xZ (ρ':=[.fz (yT wN n j ps),.fz (.int (k:Nat)),.fz (stD (qL n) false),.fz (zA (wP ps n [k])),.fz (stD (wS ps n [k]).1 (wS ps n [k]).2),.fz (zA (wP ps n [k+1])),.fz (stD (wS ps n [k+1]).1 (wS ps n [k+1]).2),.no,.no,.no]) (by
   unfold mO
   rw[iE (z:=.int ((k+1:Nat):Nat)) rfl rfl (by rw[show((k+1:Nat):Int)=(k:Int)+1 by omega];exact zD rfl rfl rfl),show vB [yT wN n j ps,stD (qL n) false,.int ((k+1:Nat):Nat)]=_ from p2]
   rfl) ?_
 unfold iX
 refine vN (d:=.int 1) rfl ?_
 unfold jS
 refine xZ (ρ':=zJQ wN n j ps k 0 (.fz (.int (k:Nat))) (.fz (stD (qL n) false)) 1 [] .non false) rfl ?_
 rw[zHE hn ok M,bH lp]
 rfl
theorem zWc:∀(m:Nat) (x0:B),uF (gN 0) (eB2 nC (eV 0) (eC .non)) (eV 0) (List.replicate m .non) [x0] []=some []
 | 0,_=>rfl
 | m+1,x0=>by
   rw[Wf]
   show uF (gN 0) (eB2 nC (eV 0) (eC .non)) (eV 0) (List.replicate m .non) [.fz .non] []=some []
   exact zWc m _
theorem zSD:oX [yT wN n j ps]=some .non:=by
 have hs:=ok.small hn
 have hB:0 < ps.length:=by rw[ok.len];exact Nat.pow_pos (by decide)
 have src:iR (rO (xB (wM "Curve" "parts" (eV 0))) (eC (.int 1))) [.fz (yT wN n j ps),.no,.no]=some (tV 0 (ps.length - 1)):=by
   have e:rO (xB (wM "Curve" "parts" (eV 0))) (eC (.int 1)) [.fz (yT wN n j ps),.no,.no]=some (.int ((ps.length - 1:Nat):Nat)):=by
     rw[show((ps.length - 1:Nat):Int)=(ps.length:Int) - 1 by omega]
     exact zD (zWm (wN:=wN) (n:=n) (j:=j) (ps:=ps) rfl) rfl rfl
   unfold iR
   rw[e,Qw]
   show(if decide (-1000000<=((ps.length - 1:Nat):Int))&&decide (((ps.length - 1:Nat):Int)<=1000000) then some (tV 0 ((ps.length - 1:Nat):Int).toNat) else none)=_
   rw[Qi (by omega),Qi (by omega),Ra]
   rfl
 have comp:yJ (iR (rO (xB (wM "Curve" "parts" (eV 0))) (eC (.int 1)))) 1 [0] (gN 0) tOK (zO 2 iQ (zY (eV 1) (zY (eV 0) zR))) [.fz (yT wN n j ps),.no,.no]=some (List.replicate (ps.length - 1) .non):=by
   unfold yJ
   rw[src,Qw,rB (by rw[uL];omega),Qw]
   show uF (gN 0) tOK _ _ [.no,.fz (yT wN n j ps)] []=_
   rw[zUt (h:=fun _=>.non)]
   · rw[Wn,List.map_const',uL]
   · intro d hd
     obtain⟨i,hi,rfl⟩:=lD hd
     refine(vJ rfl rfl).trans ?_
     rw[show(0:Int)+(i:Nat)=(i:Nat) by omega]
     exact zMv hn ok M j (by omega)
 show(rC [.fz (yT wN n j ps),.no,.no]).bind xV=_
 unfold rC
 refine xZ (ρ':=[.fz (yT wN n j ps),.ow (List.replicate (ps.length - 1) .non),.no]) (by unfold uT;rw[comp];rfl) ?_
 unfold nJ
 refine xZ (ρ':=[.fz (yT wN n j ps),.fz (.lst (List.replicate (ps.length - 1) .non)),.fz .non]) ?_ rfl
 show yP 2 (zUj (yJ (iL (eV 1)) 1 [] (gN 0) (eB2 nC (eV 0) (eC .non)) (eV 0))) [.fz (yT wN n j ps),.fz (.lst (List.replicate (ps.length - 1) .non)),.no]=_
 have e2:yJ (iL (eV 1)) 1 [] (gN 0) (eB2 nC (eV 0) (eC .non)) (eV 0) [.fz (yT wN n j ps),.fz (.lst (List.replicate (ps.length - 1) .non)),.no]=some []:=by
   unfold yJ
   show((okL (List.replicate (ps.length - 1) .non)).bind fun ds=>uF (gN 0) _ _ ds [.no] [])=_
   rw[rB (by rw[Ev];omega),Qw]
   exact zWc hn ok M _ _
 unfold yP zUj
 rw[e2]
 rfl
theorem zOV:mP [yT wN n j ps]=some (yT wN n j ps):=by
 have me:=zSD (wN:=wN) hn ok M j
 have e:eIf (tB1 (wM "Curve" "joined" (eV 0))) (zO 1 oX (zY (eV 0) zR)) (eC .non) [.fz (yT wN n j ps),.no,.no,.no]=some .non:=by
   have t:tB1 (wM "Curve" "joined" (eV 0)) [.fz (yT wN n j ps),.no,.no,.no]=some j:=rfl
   unfold eIf
   rw[t,Qw]
   cases j with
   | true=>rw[Qb rfl];exact(pA rfl).trans me
   | false=>rfl
 show(kE [.fz (yT wN n j ps),.no,.no,.no]).bind xV=_
 unfold kE
 refine vN e ?_
 rfl
end
end My
end
namespace My
open PySem L2
theorem zWv {self:List D->Option D}{d:D}{ds:List D}(hd:∀i:Nat,i < ds.length->atD d (.int (0+(i:Nat)))=ds[i]?)(hl:zSk d=some (.int ds.length))(hz:ds.length<=1000)(hs:∀x∈ds,self [x,x]=some (.bl true)) :
   (rJ self [.fz d,.fz d,.no]).bind xV=some (.bl true):=by
 have c1:decide (-1000000<=((ds.length:Nat):Int))=true:=Qi (by omega)
 have c2:decide (((ds.length:Nat):Int)<=1000000)=true:=Qi (by omega)
 have src:iR (xB (eV 1)) [.fz d,.fz d,.no]=some (tV 0 ds.length):=by
   simp only[iR,xB,eV,sA,Qn,Qc,Qw,hl,c1,c2,Bool.and_true,Rq]
   rfl
 obtain⟨ρ',e,x2,rfl⟩:=zTG (g:=gN 2) (body:=pX self) (P:=fun ρ=>∃x2,ρ=[.fz d,.fz d,x2]) (tV 0 ds.length) (fun y hy ρ hρ=>by
     obtain⟨i,hi,rfl⟩:=lD hy
     obtain⟨x2,rfl⟩:=hρ
     refine⟨[.fz d,.fz d,.fz (.int (0+(i:Nat)))],[.fz d,.fz d,.fz (.int (0+(i:Nat)))],rfl,?_,_,rfl⟩
     have a:=hd i hi
     rw[Qu hi] at a
     have b:=hs _ (Rj hi)
     simp only[pX,sIf,sO,tB1,zO,zY,zR,eIx,eV,sA,xT,Qn,Qc,Qw,Ww,Qo,Eh,Rq,a,b,Yt,Wo,Ro]) [.fz d,.fz d,.no] ⟨_,rfl⟩
 have es:qO (iR (xB (eV 1))) (gN 2) (pX self) [.fz d,.fz d,.no]=some (.nx [.fz d,.fz d,x2]):=by
   unfold qO;rw[src,Qw];exact e
 have q1:=fun r hk=>xZ (g:=aX self) (r:=r) es hk
 refine q1 _ ?_
 rfl
theorem zZF:∀(n:Nat) (d:D),okS n d=true->yN n [d,d]=some (.bl true)
 | 0,_,h=>by unfold okS at h;cases h
 | n+1,d,h=>by
   have ih:=zZF n
   cases d with
   | non=>rfl
   | bl b=>cases b<;>rfl
   | int i =>
     have g:gEq (.int i) (.int i)=some true:=by show some (decide (i=i))=_;rw[Qi rfl]
     show((wI (yN n)) [.fz (.int i),.fz (.int i),.no]).bind xV=_
     simp only[wI,tK,tJ,tD,zP,sIf,xT,yO,eB2,hZ,pJ,eV,eC,sA,tB1,pI,isInt,fJ,iF,vI,sO,Qn,Qc,Qw,Ww,g,Rq,Wo,Ro,Iw,xV]
   | str i =>
     have g:gEq (.str i) (.str i)=some true:=by show some (decide (i=i))=_;rw[Qi rfl]
     show((wI (yN n)) [.fz (.str i),.fz (.str i),.no]).bind xV=_
     simp only[wI,tK,tJ,tD,rE,zP,sIf,xT,yO,eB2,hZ,pJ,eV,eC,sA,tB1,pI,isInt,hJ,iF,vI,Qn,Qc,Qw,Ww,g,Rq,Wo,Ro,xV]
   | tup ds =>
     unfold okS at h
     rw[Qx] at h
     have hz:=Ew h.1
     have g:gNe (.int (ds.length:Nat)) (.int (ds.length:Nat))=some false:=by show(some (decide _)).map _=_;rw[Qi rfl];rfl
     have r:yN (n+1) [.tup ds,.tup ds]=(rJ (yN n) [.fz (.tup ds),.fz (.tup ds),.no]).bind xV:=by
       show((wI (yN n)) [.fz (.tup ds),.fz (.tup ds),.no]).bind xV=_
       simp only[wI,tK,tJ,tD,rE,nV,oA,oR,zP,sIf,xT,yO,eB2,hZ,pJ,eV,eC,sA,tB1,rP,sO,pI,isInt,hJ,dF,rQ,xB,zSk,Qn,Qc,Qw,Ww,g,Rq,Wo,Ro,Yt]
     rw[r]
     refine zWv (ds:=ds) (fun i hi=>?_) rfl hz fun x hx=>?_
     · show atI ds _=_
       rw[show(0:Int)+((i:Nat):Int)=((i:Nat):Int) by omega,zYQ (Qu hi),Qu hi]
     · obtain⟨i,hi⟩:=List.getElem?_of_mem hx
       exact ih x (zXA h.2 hi)
   | lst ds =>
     unfold okS at h
     rw[Qx] at h
     have hz:=Ew h.1
     have g:gNe (.int (ds.length:Nat)) (.int (ds.length:Nat))=some false:=by show(some (decide _)).map _=_;rw[Qi rfl];rfl
     have r:yN (n+1) [.lst ds,.lst ds]=(rJ (yN n) [.fz (.lst ds),.fz (.lst ds),.no]).bind xV:=by
       show((wI (yN n)) [.fz (.lst ds),.fz (.lst ds),.no]).bind xV=_
       simp only[wI,tK,tJ,tD,rE,nV,oA,oR,zP,sIf,xT,yO,eB2,hZ,pJ,eV,eC,sA,tB1,rP,sO,pI,isInt,hJ,dF,rQ,xB,zSk,Qn,Qc,Qw,Ww,g,Rq,Wo,Ro,Yt]
     rw[r]
     refine zWv (ds:=ds) (fun i hi=>?_) rfl hz fun x hx=>?_
     · show atI ds _=_
       rw[show(0:Int)+((i:Nat):Int)=((i:Nat):Int) by omega,zYQ (Qu hi),Qu hi]
     · obtain⟨i,hi⟩:=List.getElem?_of_mem hx
       exact ih x (zXA h.2 hi)
   | obj a b ds=>unfold okS at h;cases h
   | exc a b ds=>unfold okS at h;cases h
theorem sR {fa fb:Ef}{ρ:List B}{i j:Int}(h1:fa ρ=some (.int i))(h2:fb ρ=some (.int j)):xX fa fb ρ=some (.int (i+j)):=by unfold xX;rw[h1,h2];rfl
theorem mV {fa fb:Ef}{ρ:List B}{x y:Str}(h1:fa ρ=some (.str x))(h2:fb ρ=some (.str y))(h:x.length+y.length<=100000):xX fa fb ρ=some (.str (x++y)):=by unfold xX;rw[h1,h2];exact zSm h
theorem nI {fa fb:Ef}{ρ:List B}{x y:D}(h1:fa ρ=some x)(h2:fb ρ=some y):eIx fa fb ρ=atD x y:=by unfold eIx;rw[h1,h2];rfl
def zC:Str:=Str.ofString "abcdefghijklmnopqrstuvwxyz"
theorem aD:zC.length=26:=by decide +kernel
def Wd (w:Str):Prop:=1<=w.length/\w.length<=12/\∀c∈w.cps.toList,c∈zC.cps.toList
theorem rX {t:Tf}{e:Ef}{g:Sf}{ρ:List B}{r:Option D}(h:t ρ=some true)(k:e ρ=r):(zP (sIf t (yO e) xT) g ρ).bind xV=r:=by
 unfold zP
 rw[sN h,Qb rfl]
 unfold yO
 rw[k]
 cases r<;>rfl
theorem lO {e:Ef}{ρ:List B}:(yO e ρ).bind xV=e ρ:=by unfold yO;cases e ρ<;>rfl
theorem aY {g:Lf}{ρ:List B}{ds:List D}(h:g ρ=some ds)(hl:ds.length<=100000):yW g ρ=some (.tup ds):=by unfold yW;rw[h,Qw,rB hl];rfl
theorem zT9 {g:Lf}{ρ:List B}{ds:List D}(h:g ρ=some ds)(hl:ds.length<=100000):yA g ρ=some ds:=by unfold yA;rw[h,Qw,rB hl]
theorem zUV {α:Type}{xs:List α}{i:Int}(h0:0<=i)(h1:i < xs.length):∃x∈xs,atI xs i=some x:=by
 have hi:i.toNat < xs.length:=by omega
 refine⟨xs[i.toNat],Rj hi,?_⟩
 unfold atI ixN
 rw[Qb h0,Qb h1]
 simp[hi]
theorem eG {α:Type}{elt:Ef}{f:α->D}{Q:α->Prop}{rest:List B}:∀(ds:List D) (x0:B) (acc:List D),(∀d∈ds,∃a,elt (.fz d::rest)=some (f a)/\Q a)->∃as:List α,uF (gN 0) tOK elt ds (x0::rest) acc=some (acc++as.map f)/\as.length=ds.length/\∀a∈as,Q a
 | [],_,acc,_=>⟨[],by simp[uF],rfl,fun _ h=>by cases h⟩
 | d::r,x0,acc,hh=>by
   obtain⟨a,ha,qa⟩:=hh d Qh
   obtain⟨as,e,el,hq⟩:=eG (Q:=Q) r (.fz d) (acc++[f a]) fun q hq=>hh q (Qd _ hq)
   refine⟨a::as,?_,by rw[Qo,Qo,el],fun b hb=>by
     rcases Qa.mp hb with z | z
     · rw[z];exact qa
     · exact hq b z⟩
   unfold uF
   have e1:gN 0 d (x0::rest)=some (.fz d::rest):=rfl
   have e2:tOK (.fz d::rest)=some true:=rfl
   rw[e1,Qw,e2,Qw,Qb rfl,ha,Qw,e]
   simp
theorem zP2 {c d:Int}{m:Nat}(hm:31<=m)(hc:Builtin.Int.intBits c<=m)(h0:0<=d)(h1:d < 2147483648):Builtin.Int.intBits (c+d)<=m+1:=by
 have h2:=PyProof.Rows.natAbs_lt_pow_bits c
 have h3:2^Builtin.Int.intBits c<=2^m:=Um (by decide) hc
 refine PyProof.Rows.intBits_le ?_
 have h5:2^31<=2^m:=Um (by decide) hm
 rw[Nat.pow_succ]
 have h6:(2147483648:Nat)=2^31:=by decide
 have h7:(2147483648:Nat)<=2^m:=by rw[h6];exact h5
 generalize 2^m=M at *
 omega
theorem zMZ {c d:Int}(hc:Builtin.Int.intBits c<=1048576)(h0:0<=d)(h1:d < 2147483648):Builtin.Int.intBits (c+d)<=2097152:=Ey (zP2 (by decide) hc h0 h1) (by decide)
theorem zZX (m:Int):∃s:Nat,s∈zC.cps.toList/\atD (.str zC) (.int (m % 26))=some (.str ⟨#[s]⟩):=by
 have e:=zQP (x:=zC) (i:=m % 26) (by omega) (by rw[aD];omega) (by rw[aD];decide)
 have hm:zC.cps.toList.getD (m % 26).toNat 0∈zC.cps.toList:=by
   have hl:(m % 26).toNat < zC.cps.toList.length:=by
     have:zC.cps.toList.length=26:=by decide +kernel
     omega
   rw[Wu,Qu hl]
   exact Rj _
 exact⟨_,hm,e⟩
theorem zMY (q k:Int)(y:Str)(n:Int)(x5 x6 x7:B)(hn0:0<=n)(hn:n < 13)(hy:y.length<=1000) :
   ∃s:Nat,s∈zC.cps.toList/\sP [.fz (.int q),.fz (.int k),.fz (.str zC),.fz (.str y),.fz (.int n),x5,x6,x7]=some (.nx [.fz (.int q),.fz (.int k),.fz (.str zC),.fz (.str (y++⟨#[s]⟩)),.fz (.int n),x5,x6,x7]):=by
 obtain⟨s,hs,e⟩:=zZX (q / 7200+7*k+n*n)
 refine⟨s,hs,?_⟩
 have m1:zZM n n=true:=rV (by omega) (by omega)
 have hl:y.length+(⟨#[s]⟩:Str).length<=100000:=by show y.length+1<=100000;omega
 unfold sP yP
 rw[mV (x:=y) (y:=⟨#[s]⟩) rfl ((nI (x:=.str zC) (y:=.int ((q / 7200+7*k+n*n) % 26)) rfl (zD (sR (sR (zD rfl rfl rfl) (zD rfl rfl (rV (by omega) (by omega)))) (zD rfl rfl m1)) rfl rfl)).trans e) hl]
 rfl
theorem zPl (q k:Int)(size place:Int)(y:Str)(n:Int)(x7:B)(hn0:0<=n)(hn:n < 13)(hy:y.length<=1000) :
   ∃s:Nat,s∈zC.cps.toList/\∃x7',uH [.fz (.int q),.fz (.int k),.fz (.str zC),.fz (.str y),.fz (.int n),.fz (.int size),.fz (.int place),x7]=some (.nx [.fz (.int q),.fz (.int k),.fz (.str zC),.fz (.str (y++⟨#[s]⟩)),.fz (.int n),.fz (.int size),.fz (.int place),x7']):=by
 have fin:∀far:Int,∃s:Nat,s∈zC.cps.toList/\lN [.fz (.int q),.fz (.int k),.fz (.str zC),.fz (.str y),.fz (.int n),.fz (.int size),.fz (.int place),.fz (.int far)]=some (.nx [.fz (.int q),.fz (.int k),.fz (.str zC),.fz (.str (y++⟨#[s]⟩)),.fz (.int n),.fz (.int size),.fz (.int place),.fz (.int far)]):=by
   intro far
   obtain⟨s,hm,e⟩:=zZX (q / 144+far)
   refine⟨s,hm,?_⟩
   unfold lN yP
   have hl:y.length+(⟨#[s]⟩:Str).length<=100000:=by show y.length+1<=100000;omega
   rw[mV (x:=y) (y:=⟨#[s]⟩) rfl ((nI (x:=.str zC) (y:=.int ((q / 144+far) % 26)) rfl (zD (sR (zD rfl rfl rfl) rfl) rfl rfl)).trans e) hl]
   rfl
 have m1:zZM n n=true:=rV (by omega) (by omega)
 have m2:zZM (n*n) (q / 7 % 3)=true:=zMM (by omega) (by omega)
 unfold uH
 rw[rS (d:=.int (n*n*(q / 7 % 3))) (zD (zD rfl rfl m1) (zD (zD rfl rfl rfl) rfl rfl) m2)]
 generalize n*n*(q / 7 % 3)=far
 unfold lU
 have t:eB2 gEq (eV 4) (eV 6) [.fz (.int q),.fz (.int k),.fz (.str zC),.fz (.str y),.fz (.int n),.fz (.int size),.fz (.int place),.fz (.int far)]=some (decide (n=place)):=rfl
 by_cases hp:n=place
 · obtain⟨s,hm,e⟩:=fin (q / 97+3*k)
   refine⟨s,hm,.fz (.int (q / 97+3*k)),?_⟩
   show zP _ _ [.fz (.int q),.fz (.int k),.fz (.str zC),.fz (.str y),.fz (.int n),.fz (.int size),.fz (.int place),.fz (.int far)]=_
   rw[yL (ρ':=[.fz (.int q),.fz (.int k),.fz (.str zC),.fz (.str y),.fz (.int n),.fz (.int size),.fz (.int place),.fz (.int (q / 97+3*k))]) ((sN t).trans (by
     rw[Qi hp,Qb rfl]
     unfold yP
     rw[sR (i:=q / 97) (j:=3*k) (zD rfl rfl rfl) (zD rfl rfl (rV (by omega) (by omega)))]
     rfl))]
   exact e
 · obtain⟨s,hm,e⟩:=fin far
   refine⟨s,hm,.fz (.int far),?_⟩
   show zP _ _ [.fz (.int q),.fz (.int k),.fz (.str zC),.fz (.str y),.fz (.int n),.fz (.int size),.fz (.int place),.fz (.int far)]=_
   rw[yL (ρ':=[.fz (.int q),.fz (.int k),.fz (.str zC),.fz (.str y),.fz (.int n),.fz (.int size),.fz (.int place),.fz (.int far)]) ((sN t).trans (by rw[Qz hp];rfl))]
   exact e
theorem zRc {y:Str}{s:Nat}(hyl:∀c∈y.cps.toList,c∈zC.cps.toList)(hm:s∈zC.cps.toList):∀c∈(y++(⟨#[s]⟩:Str)).cps.toList,c∈zC.cps.toList:=fun c hc=>by
 have hc:c∈(y.cps++#[s]).toList:=hc
 rw[Array.toList_append] at hc
 rcases Ee.mp hc with z | z
 · exact hyl c z
 · rw[Wk.mp z];exact hm
theorem zRx {f:Ef}{ρ:List B}{z:Int}(h:f ρ=some (.int z))(h0:0<=z)(h1:z<=1000):iR f ρ=some (tV 0 z.toNat):=by
 unfold iR
 rw[h,Qw]
 show(if decide (-1000000<=z)&&decide (z<=1000000) then some (tV 0 z.toNat) else none)=_
 rw[Qi (by omega),Qi (by omega)]
 rfl
def zKT:List D:=[.str "near",.str "place",.str "names",.str "floor",.str "part",.str "back",.str "none",.str "put"]
theorem zJe:∀d∈zKT,∃w:Str,d = .str w/\Wd w:=by
 intro d hd
 unfold zKT at hd
 simp only[Qa,Wi,Rr] at hd
 rcases hd with rfl | rfl | rfl | rfl | rfl | rfl | rfl | rfl<;>exact⟨_,rfl,by decide +kernel,by decide +kernel,by decide +kernel⟩
theorem zKS (q k:Int):∃w:Str,jR [.int q,.int k]=some (.str w)/\Wd w:=by
 suffices h:∃w:Str,(nW [.fz (.int q),.fz (.int k),.fz (.str zC),.no,.no,.no,.no,.no]).bind xV=some (.str w)/\Wd w by
   obtain⟨w,e,hw⟩:=h
   refine⟨w,?_,hw⟩
   show(oF [.fz (.int q),.fz (.int k),.no,.no,.no,.no,.no,.no]).bind xV=_
   unfold oF
   exact vN (d:=.str zC) rfl e
 have t1:rP (eB2 gEq (xW (eV 0) (eC (.int 8))) (eC (.int 5))) (eB2 gEq (xW (eV 1) (eC (.int 3))) (eC (.int 1))) [.fz (.int q),.fz (.int k),.fz (.str zC),.no,.no,.no,.no,.no]=some (decide (q % 8=5)&&decide (k % 3=1)):=by
   unfold rP
   rw[xE (x:=q % 8) (zD rfl rfl rfl),Qw,xE (x:=k % 3) (zD rfl rfl rfl)]
   cases decide (q % 8=5)<;>rfl
 unfold nW
 by_cases h1:(decide (q % 8=5)&&decide (k % 3=1))=true
 · rw[h1] at t1
   obtain⟨x,hx,ex⟩:=zUV (xs:=zKT) (i:=(q / 8+k) % 8) (by omega) (by show _ < (8:Int);omega)
   obtain⟨w,rfl,hw⟩:=zJe x hx
   refine⟨w,rX t1 ?_,hw⟩
   exact(nI (x:=.lst zKT) (y:=.int ((q / 8+k) % 8)) rfl (zD (sR (zD rfl rfl rfl) rfl) rfl rfl)).trans ex
 rw[show(decide (q % 8=5)&&decide (k % 3=1))=false by simpa using h1] at t1
 suffices h:∃w:Str,(oO [.fz (.int q),.fz (.int k),.fz (.str zC),.no,.no,.no,.no,.no]).bind xV=some (.str w)/\Wd w by
   obtain⟨w,e,hw⟩:=h
   exact⟨w,rR t1 e,hw⟩
 have t2:eB2 gEq (xW (wW (eV 0) (eC (.int 8))) (eC (.int 3))) (eC (.int 0)) [.fz (.int q),.fz (.int k),.fz (.str zC),.no,.no,.no,.no,.no]=some (decide (q / 8 % 3=0)):=xE (zD (zD rfl rfl rfl) rfl rfl)
 unfold oO
 by_cases h2:q / 8 % 3=0
 · rw[Qi h2] at t2
   obtain⟨s0,hs0,e0⟩:=zZX (q / 24+3*(k / 2))
   have z0:0<=(q / 600+5*k) % 12:=by omega
   have z1:(q / 600+5*k) % 12 < 12:=by omega
   have src:∀x4 x5 x6 x7:B,iR (xW (xX (wW (eV 0) (eC (.int 600))) (sJ (eC (.int 5)) (eV 1))) (eC (.int 12))) [.fz (.int q),.fz (.int k),.fz (.str zC),.fz (.str ⟨#[s0]⟩),x4,x5,x6,x7]=some (tV 0 ((q / 600+5*k) % 12).toNat):=fun x4 x5 x6 x7 =>
     zRx (zD (sR (zD rfl rfl rfl) (zD rfl rfl (rV (by omega) (by omega)))) rfl rfl) z0 (by omega)
   generalize(q / 600+5*k) % 12=m at src z0 z1
   obtain⟨ρ',e,y,x4,⟨hy,hyl⟩,rfl⟩:=zUL (g:=gN 4) (body:=sP) (P:=fun i ρ=>∃y:Str,∃x4,(y.length=1+i/\∀c∈y.cps.toList,c∈zC.cps.toList)/\ρ=[.fz (.int q),.fz (.int k),.fz (.str zC),.fz (.str y),x4,.no,.no,.no]) (tV 0 m.toNat) 0 (fun i d hd ρ hρ=>by
       obtain⟨hi,rfl⟩:=zUr hd
       obtain⟨y,x4,⟨hy,hyl⟩,rfl⟩:=hρ
       obtain⟨s,hm,e⟩:=zMY q k y (0+(i:Nat)) .no .no .no (by omega) (by omega) (by omega)
       exact⟨_,_,rfl,e,_,_,⟨by rw[xU,hy];rfl,zRc hyl hm⟩,rfl⟩) [.fz (.int q),.fz (.int k),.fz (.str zC),.fz (.str ⟨#[s0]⟩),.no,.no,.no,.no] ⟨_,_,⟨rfl,fun c hc=>by rw[Wk.mp hc];exact hs0⟩,rfl⟩
   rw[uL] at hy
   refine⟨y,?_,by omega,by omega,hyl⟩
   have es:yP 3 (eIx (eV 2) (xW (xX (wW (eV 0) (eC (.int 24))) (sJ (eC (.int 3)) (wW (eV 1) (eC (.int 2))))) (eC (.int 26)))) [.fz (.int q),.fz (.int k),.fz (.str zC),.no,.no,.no,.no,.no]=some (.nx [.fz (.int q),.fz (.int k),.fz (.str zC),.fz (.str ⟨#[s0]⟩),.no,.no,.no,.no]):=by
     unfold yP
     rw[(nI (x:=.str zC) (y:=.int ((q / 24+3*(k / 2)) % 26)) rfl (zD (sR (zD rfl rfl rfl) (zD rfl (zD rfl rfl rfl) (rV (by omega) (by omega)))) rfl rfl)).trans e0]
     rfl
   have ef:qO (iR (xW (xX (wW (eV 0) (eC (.int 600))) (sJ (eC (.int 5)) (eV 1))) (eC (.int 12)))) (gN 4) sP [.fz (.int q),.fz (.int k),.fz (.str zC),.fz (.str ⟨#[s0]⟩),.no,.no,.no,.no]=some (.nx [.fz (.int q),.fz (.int k),.fz (.str zC),.fz (.str y),x4,.no,.no,.no]):=by
     unfold qO
     rw[src,Qw]
     exact e
   rw[bH (d:=.str y) ((sN t2).trans (by
     rw[Qb rfl,yL es,yL ef]
     rfl))]
   rfl
 rw[Qz h2] at t2
 refine(fun(h:∃w:Str,(nX [.fz (.int q),.fz (.int k),.fz (.str zC),.no,.no,.no,.no,.no]).bind xV=some (.str w)/\Wd w)=>?_) ?_
 · obtain⟨w,e,hw⟩:=h
   exact⟨w,rR t2 e,hw⟩
 have z0:0<=q % 12:=by omega
 have z1:q % 12 < 12:=by omega
 have hp:xW (wW (eV 0) (eC (.int 12))) (eV 5) [.fz (.int q),.fz (.int k),.fz (.str zC),.no,.no,.fz (.int (1+q % 12)),.no,.no]=some (.int (q / 12 % (1+q % 12))):=zD (zD rfl rfl rfl) rfl (Qi (by omega))
 generalize q / 12 % (1+q % 12)=place at hp
 have src:∀x4 x7:B,iR (eV 5) [.fz (.int q),.fz (.int k),.fz (.str zC),.fz (.str (Str.ofString "")),x4,.fz (.int (1+q % 12)),.fz (.int place),x7]=some (tV 0 (1+q % 12).toNat):=fun x4 x7=>zRx rfl (by omega) (by omega)
 obtain⟨ρ',e,y,x4,x7,⟨hy,hyl⟩,rfl⟩:=zUL (g:=gN 4) (body:=uH) (P:=fun i ρ=>∃y:Str,∃x4 x7,(y.length=i/\∀c∈y.cps.toList,c∈zC.cps.toList)/\ρ=[.fz (.int q),.fz (.int k),.fz (.str zC),.fz (.str y),x4,.fz (.int (1+q % 12)),.fz (.int place),x7]) (tV 0 (1+q % 12).toNat) 0 (fun i d hd ρ hρ=>by
     obtain⟨hi,rfl⟩:=zUr hd
     obtain⟨y,x4,x7,⟨hy,hyl⟩,rfl⟩:=hρ
     obtain⟨s,hm,x7',e⟩:=zPl q k (1+q % 12) place y (0+(i:Nat)) x7 (by omega) (by omega) (by omega)
     exact⟨_,_,rfl,e,_,_,_,⟨by rw[xU,hy];rfl,zRc hyl hm⟩,rfl⟩) [.fz (.int q),.fz (.int k),.fz (.str zC),.fz (.str (Str.ofString "")),.no,.fz (.int (1+q % 12)),.fz (.int place),.no] ⟨_,_,_,⟨by decide +kernel,fun c hc=>by cases hc⟩,rfl⟩
 rw[uL] at hy
 refine⟨y,?_,by omega,by omega,hyl⟩
 unfold nX
 refine vN (d:=.int (1+q % 12)) (sR rfl (zD rfl rfl rfl)) ?_
 unfold iZ
 refine vN (d:=.int place) hp ?_
 unfold jZ
 refine vN (d:=.str (Str.ofString "")) rfl ?_
 unfold jM
 refine xZ (ρ':=[.fz (.int q),.fz (.int k),.fz (.str zC),.fz (.str y),x4,.fz (.int (1+q % 12)),.fz (.int place),x7]) ?_ rfl
 show qO (iR (eV 5)) (gN 4) uH [.fz (.int q),.fz (.int k),.fz (.str zC),.fz (.str (Str.ofString "")),.no,.fz (.int (1+q % 12)),.fz (.int place),.no]=_
 unfold qO
 rw[src,Qw]
 exact e
theorem zTa (x S:Str)(n:Int)(h:x.length<=1000):w9 [.str x,.str S,.int n]=some (.bl ((decide (1<=x.length)&&decide ((x.length:Int)<=n))&&x.cps.toList.all fun c=>decide (c∈S.cps.toList))):=by
 have hl:zSk (.str x)=some (.int x.length):=zNA (by omega)
 have hs:(iP x).length=x.length:=by simp[iP,Str.length]
 have hm:yJ (iS (eV 0)) 1 [1] (gN 0) tOK (vI (eB2 gIn (eV 0) (eV 1))) [.fz (.str x),.fz (.str S),.fz (.int n)]=some (x.cps.toList.map fun c=>D.bl (decide (c∈S.cps.toList))):=by
   unfold yJ
   have e1:iS (eV 0) [.fz (.str x),.fz (.str S),.fz (.int n)]=some (iP x):=rfl
   have e2:upB 1 [1] [.fz (.str x),.fz (.str S),.fz (.int n)]=[.no,.fz (.str S)]:=rfl
   rw[e1,Qw,rB (by rw[hs];omega),Qw,e2]
   have:∀(l:List Nat) (x0:B) (acc:List D),uF (gN 0) tOK (vI (eB2 gIn (eV 0) (eV 1))) (l.map fun c=>D.str ⟨#[c]⟩) [x0,.fz (.str S)] acc=some (acc++l.map fun c=>D.bl (decide (c∈S.cps.toList))):=by
     intro l
     induction l with
     | nil=>intro x0 acc;simp[uF]
     | cons c r ih =>
       intro x0 acc
       rw[Qp]
       unfold uF
       have e3:gN 0 (D.str ⟨#[c]⟩) [x0,.fz (.str S)]=some [.fz (.str ⟨#[c]⟩),.fz (.str S)]:=rfl
       have e4:tOK [.fz (.str ⟨#[c]⟩),.fz (.str S)]=some true:=rfl
       have e5:vI (eB2 gIn (eV 0) (eV 1)) [.fz (.str ⟨#[c]⟩),.fz (.str S)]=some (.bl (decide (c∈S.cps.toList))):=by
         have:=zKN c S
         simp only[vI,eB2,eV,sA,Qn,Qc,Qw,this,Ww]
       rw[e3,Qw,e4,Qw,Qb rfl,e5,Qw,ih]
       simp
   rw[show iP x=x.cps.toList.map fun c=>D.str ⟨#[c]⟩ from rfl,this]
   simp
 have hb:=zTq (fun c=>decide (c∈S.cps.toList)) x.cps.toList
 have hall:(x.cps.toList.map fun c=>decide (c∈S.cps.toList)).all id=x.cps.toList.all fun c=>decide (c∈S.cps.toList):=by rw[Ib];rfl
 have e0:w9 [.str x,.str S,.int n]=((iF (vI (eB3 gLe gLe (eC (.int 1)) (xB (eV 0)) (eV 2))) (zP6 (eL (yJ (iS (eV 0)) 1 [1] (gN 0) tOK (vI (eB2 gIn (eV 0) (eV 1))))))) [.fz (.str x),.fz (.str S),.fz (.int n)]):=zXV _
 rw[e0]
 have ea:zP6 (eL (yJ (iS (eV 0)) 1 [1] (gN 0) tOK (vI (eB2 gIn (eV 0) (eV 1))))) [.fz (.str x),.fz (.str S),.fz (.int n)]=some (.bl (x.cps.toList.all fun c=>decide (c∈S.cps.toList))):=by
   simp only[zP6,eL,hm,Ww,Qw,hb,hall]
 have et:tB1 (vI (eB3 gLe gLe (eC (.int 1)) (xB (eV 0)) (eV 2))) [.fz (.str x),.fz (.str S),.fz (.int n)]=some (decide (1<=x.length)&&decide ((x.length:Int)<=n)):=by
   by_cases h1:1<=x.length
   · have t1:decide ((1:Int)<=(x.length:Nat))=true:=Qi (by omega)
     simp only[tB1,vI,eB3,gLe,xB,eV,eC,sA,Qn,Qc,Qw,hl,t1,Rq,Ww,h1,decide_true,Yy]
   · have t1:decide ((1:Int)<=(x.length:Nat))=false:=Qz (by omega)
     simp[tB1,vI,eB3,gLe,xB,eV,eC,sA,hl,t1,h1]
 unfold iF
 rw[et,ea,Qw]
 cases (decide (1<=x.length)&&decide ((x.length:Int)<=n))<;>rfl
theorem bL:∀c∈zC.cps.toList,c≠32/\c≠10:=by decide +kernel
theorem Wd.free {w:Str}(h:Wd w):wK 32 w/\wK 10 w:=⟨fun z=>(bL _ (h.2.2 _ z)).1 rfl,fun z=>(bL _ (h.2.2 _ z)).2 rfl⟩
theorem zQ7 {w:Str}(h:Wd w):lA [.str w]=some (.bl true):=by
 have e:=zTa w "abcdefghijklmnopqrstuvwxyz" 12 (by have:=h.2.1;omega)
 have q:((decide (1<=w.length)&&decide ((w.length:Int)<=12))&&w.cps.toList.all fun c=>decide (c∈("abcdefghijklmnopqrstuvwxyz":Str).cps.toList))=true:=by
   have h1:=h.1
   have h2:=h.2.1
   rw[Qi h1,Qi (show(w.length:Int)<=12 by omega),Yy,Yy]
   exact Qv.mpr fun c hc=>Qi (h.2.2 c hc)
 rw[q] at e
 exact(zXV _).trans ((iE rfl rfl rfl).trans e)
def zVQ (c:List Int):Str:=⟨(c.map fun i=>if i=1 then 49 else 48).toArray⟩
def zKx (t:Tn):Str:=⟨(t.flatMap fun p=>[if p.2=1 then 45 else 43,if p.1=0 then 120 else if p.1=1 then 121 else 122]).toArray⟩
def lP (p:Pt):List Str:="part"::zVQ p.c::zKx p.t::(if p.b=true then ["back"] else [])
def sL (p:Pt):Str:=Str.join " " (lP p)
def zPT (c:List Int)(t:Tn):Str:=Str.join " " ["part",zVQ c,zKx t]
def prs (n:Nat):List (List Int×Tn):=(zH n).flatMap fun c=>(zB n).map fun t=>(c,t)
theorem pQ {n:Nat}{c:List Int}{t:Tn}(hc:c∈zH n)(ht:t∈zB n):(c,t)∈prs n:=Ts.mpr ⟨c,hc,Wa.mpr ⟨t,ht,rfl⟩⟩
def xK (k:Nat):List (List Int×Tn):=(((zH 3).drop (2*k)).take 2).flatMap fun c=>(zB 3).map fun t=>(c,t)
theorem zVU:prs 3=xK 0++xK 1++xK 2++xK 3:=by kernel_rfl
theorem zOU {β:Type}{f g:List Int×Tn->β}(h0:(xK 0).map f=(xK 0).map g)(h1:(xK 1).map f=(xK 1).map g)(h2:(xK 2).map f=(xK 2).map g)(h3:(xK 3).map f=(xK 3).map g):(prs 3).map f=(prs 3).map g:=by
 rw[zVU,Wy,Wy,Wy,Wy,Wy,Wy,h0,h1,h2,h3]
theorem mY {α β:Type}{f g:α->β}{l:List α}(h:l.map f=l.map g){x:α}(hx:x∈l):f x=g x:=List.map_inj_left.mp h x hx
def fR (n r:Int)(b:Bool)(q:List Int×Tn):Option D:=pK [.lst ((lP ⟨q.1,q.2,b⟩).map .str),.int n,.int r]
def gR (b:Bool)(q:List Int×Tn):Option D:=some (xF ⟨q.1,q.2,b⟩)
theorem zIo (r:Int)(b:Bool):b=true∨b=false->(prs 2).map (fR 2 r b)=(prs 2).map (gR b):=by
 rintro(rfl | rfl)<;>kernel_rfl
theorem zLz (r:Int):(xK 0).map (fR 3 r true)=(xK 0).map (gR true):=by kernel_rfl
theorem zMd (r:Int):(xK 1).map (fR 3 r true)=(xK 1).map (gR true):=by kernel_rfl
theorem zLu (r:Int):(xK 2).map (fR 3 r true)=(xK 2).map (gR true):=by kernel_rfl
theorem zMb (r:Int):(xK 3).map (fR 3 r true)=(xK 3).map (gR true):=by kernel_rfl
theorem zLw (r:Int):(xK 0).map (fR 3 r false)=(xK 0).map (gR false):=by kernel_rfl
theorem zKJ (r:Int):(xK 1).map (fR 3 r false)=(xK 1).map (gR false):=by kernel_rfl
theorem zLi (r:Int):(xK 2).map (fR 3 r false)=(xK 2).map (gR false):=by kernel_rfl
theorem zKH (r:Int):(xK 3).map (fR 3 r false)=(xK 3).map (gR false):=by kernel_rfl
theorem zIF (r:Int)(b:Bool):b=true∨b=false->(prs 3).map (fR 3 r b)=(prs 3).map (gR b):=by
 rintro(rfl | rfl)
 · exact zOU (zLz r) (zMd r) (zLu r) (zMb r)
 · exact zOU (zLw r) (zKJ r) (zLi r) (zKH r)
theorem dH:(" ":Str)=⟨#[32]⟩:=by decide +kernel
theorem zK1:("\n":Str)=⟨#[10]⟩:=by decide +kernel
def uE (p:Pt):Bool:=decide ((sL p).length<=30) && !(sL p).cps.toList.contains 10&&(lP p).all fun w => !w.cps.toList.contains 32
theorem zHh:((prs 2).all fun q=>uE ⟨q.1,q.2,true⟩&&uE ⟨q.1,q.2,false⟩)=true:=by kernel_rfl
theorem zJo:((xK 0).all fun q=>uE ⟨q.1,q.2,true⟩)=true:=by kernel_rfl
theorem zJl:((xK 1).all fun q=>uE ⟨q.1,q.2,true⟩)=true:=by kernel_rfl
theorem zKd:((xK 2).all fun q=>uE ⟨q.1,q.2,true⟩)=true:=by kernel_rfl
theorem zIL:((xK 3).all fun q=>uE ⟨q.1,q.2,true⟩)=true:=by kernel_rfl
theorem zJR:((xK 0).all fun q=>uE ⟨q.1,q.2,false⟩)=true:=by kernel_rfl
theorem zJ9:((xK 1).all fun q=>uE ⟨q.1,q.2,false⟩)=true:=by kernel_rfl
theorem zJz:((xK 2).all fun q=>uE ⟨q.1,q.2,false⟩)=true:=by kernel_rfl
theorem zJB:((xK 3).all fun q=>uE ⟨q.1,q.2,false⟩)=true:=by kernel_rfl
theorem zHg:((prs 3).all fun q=>uE ⟨q.1,q.2,true⟩&&uE ⟨q.1,q.2,false⟩)=true:=by
 refine Qv.mpr fun q hq=>?_
 rw[zVU,Ee,Ee,Ee] at hq
 rw[Wt]
 rcases hq with((hq | hq) | hq) | hq
 · exact⟨Qv.mp zJo q hq,Qv.mp zJR q hq⟩
 · exact⟨Qv.mp zJl q hq,Qv.mp zJ9 q hq⟩
 · exact⟨Qv.mp zKd q hq,Qv.mp zJz q hq⟩
 · exact⟨Qv.mp zIL q hq,Qv.mp zJB q hq⟩
section
variable {n:Nat} (hn:n=2∨n=3)
include hn
theorem zUM (p:Pt)(hc:p.c∈zH n)(ht:p.t∈zB n):uE p=true:=by
 obtain⟨c,t,b⟩:=p
 have h:(uE ⟨c,t,true⟩&&uE ⟨c,t,false⟩)=true:=by
   rcases hn with rfl | rfl
   · have h:=Qv.mp zHh _ (pQ hc ht);exact h
   · have h:=Qv.mp zHg _ (pQ hc ht);exact h
 have h:=Wt.mp h
 cases b with
 | true=>exact h.1
 | false=>exact h.2
theorem zLA (p:Pt)(hc:p.c∈zH n)(ht:p.t∈zB n):(sL p).length<=30:=by
 have h:=zUM hn p hc ht
 unfold uE at h
 rw[Wt,Wt] at h
 exact Ew h.1.1
theorem zNS (p:Pt)(hc:p.c∈zH n)(ht:p.t∈zB n):wK 10 (sL p):=by
 have h:=zUM hn p hc ht
 unfold uE at h
 rw[Wt,Wt] at h
 have h:=h.1.2
 intro z
 rw[Rl.mpr z] at h
 exact absurd h (by decide)
theorem zPp (p:Pt)(hc:p.c∈zH n)(ht:p.t∈zB n):lM (.str (sL p)) (.str " ")=some ((lP p).map .str):=by
 have h:=zUM hn p hc ht
 unfold uE at h
 rw[Wt,Wt] at h
 have hw:∀w∈lP p,wK 32 w:=fun w hw z=>by
   have q:=Qv.mp h.2 w hw
   rw[Rl.mpr z] at q
   exact absurd q (by decide)
 have e:Txt.split (sL p) ⟨#[32]⟩=lP p:=by
   unfold sL
   rw[dH]
   exact qA 32 (lP p) hw (by unfold lP;exact Tq _ _)
 have hl:=Ew h.1.1
 rw[dH]
 show(if 1<=(⟨#[32]⟩:Str).length/\(sL p).length<=100000 then some ((Txt.split (sL p) ⟨#[32]⟩).map D.str) else none)=_
 rw[Qb ⟨Ql 1,by omega⟩,e]
end
theorem aW (R:List Str)(i:Nat)(z:Str)(ws:List D)(hz:R[i]?=some z)(hs:lM (.str z) (.str " ")=some ws):vD [.lst (R.map .str),.int ((i:Int)+1)]=some ws:=by
 have hi:i < R.length:=by
   rcases Nat.lt_or_ge i R.length with h | h
   · exact h
   · rw[Yq h] at hz;cases hz
 show(oY [.fz (.lst (R.map .str)),.fz (.int ((i:Int)+1))]).bind zR4=some ws
 unfold oY
 have t:eB2 gGt (eV 1) (xB (eV 0)) [.fz (.lst (R.map .str)),.fz (.int ((i:Int)+1))]=some (decide ((((R.map D.str).length:Nat):Int) < (i:Int)+1)):=rfl
 rw[yL (ρ':=[.fz (.lst (R.map .str)),.fz (.int ((i:Int)+1))]) ((sN t).trans (by rw[Qy,Qz (by omega)];rfl))]
 unfold aA zT8 jA
 have e1:rO (eV 1) (eC (.int 1)) [.fz (.lst (R.map .str)),.fz (.int ((i:Int)+1))]=some (.int (i:Int)):=by
   refine(zD (i:=(i:Int)+1) (j:=1) rfl rfl rfl).trans ?_
   show some (D.int ((i:Int)+1 - 1))=_
   rw[show(i:Int)+1 - 1=i from by omega]
 have e2:eIx (eV 0) (rO (eV 1) (eC (.int 1))) [.fz (.lst (R.map .str)),.fz (.int ((i:Int)+1))]=some (.str z):=by
   unfold eIx
   rw[e1]
   show atI (R.map D.str) (i:Int)=_
   unfold atI
   rw[Qy]
   have:ixN R.length (i:Int)=some i:=by unfold ixN;rw[Qb (by omega),Qb (by omega)];rfl
   rw[this]
   show(R.map D.str)[i]?=_
   rw[Wp,hz];rfl
 rw[e2]
 show(((lM (.str z) (.str " "))).map Out.rl).bind zR4=_
 rw[hs]
 rfl
def kC (xs:List Int):KT:=.tup (xs.map .int)
theorem zWB (n:Nat):∀xs:List Int,zZL (ktD n) (xs.map .int)=some (xs.map .int)
 | []=>rfl
 | x::r=>by
   have e:ktD n (.int x)=some (.int x):=by cases n<;>rfl
   rw[Qp,zZL,e,zWB n r]
   rfl
theorem zMA (xs:List Int):zN1 (zA xs)=some (kC xs):=by
 show(zZL (ktD 7) (xs.map .int)).map KT.tup=_
 rw[zWB]
 rfl
theorem zGU (xs:List Int):ktD 8 (zA xs)=some (kC xs):=zMA xs
theorem zJc {xs ys:List Int}(h:kC xs=kC ys):xs=ys:=by
 unfold kC at h
 injection h with h
 exact(List.map_inj_right (fun a b e=>by injection e)).mp h
def uP (ps:List Pt):List (D×D):=ps.map fun p=>(zA p.c,.bl true)
theorem zPy (ps:List Pt):(uP ps).map (fun p=>ktD 8 p.1)=ps.map fun p=>some (kC p.c):=by
 unfold uP
 rw[Rp]
 exact Rn fun p _=>zGU p.c
theorem zTC {ps:List Pt}{c:List Int}(h:c∉ps.map (·.c)):some (kC c)∉(uP ps).map fun p=>ktD 8 p.1:=by
 rw[zPy]
 intro z
 obtain⟨p,hp,e⟩:=Wa.mp z
 exact h (Wa.mpr ⟨p,hp,zJc (Ep e)⟩)
section
variable {n:Nat} (hn:n=2∨n=3)
include hn
theorem zLa (p:Pt)(hc:p.c∈zH n)(ht:p.t∈zB n)(r:Int):pK [.lst ((lP p).map .str),.int n,.int r]=some (xF p):=by
 obtain⟨c,t,b⟩:=p
 have hb:b=true∨b=false:=by cases b<;>simp
 rcases hn with rfl | rfl
 · have h:=mY (zIo r b hb) (pQ hc ht);exact h
 · have h:=mY (zIF r b hb) (pQ hc ht);exact h
theorem zOJ (R:List Str)(i:Nat)(p:Pt)(hc:p.c∈zH n)(ht:p.t∈zB n)(hz:R[i]?=some (sL p))(acc:List Pt)(ha:acc.length<=100)(hnew:p.c∉acc.map (·.c))(a b:D)(x7:B) :
   uM [.fz (.lst (R.map .str)),.fz a,.fz b,.fz (.int n),.ow (acc.map xF),.od (uP acc),.fz (.int ((i:Int)+1)),x7] =
     some (.nx [.fz (.lst (R.map .str)),.fz a,.fz b,.fz (.int n),.ow ((acc++[p]).map xF),.od (uP (acc++[p])),.fz (.int ((i:Int)+1)),.fz (xF p)]):=by
 have hw:=aW R i _ _ hz (zPp hn p hc ht)
 have h1:zO 3 pK (zY (eL (sV 2 vD (zY (eV 0) (zY (eV 6) zR)))) (zY (eV 3) (zY (eV 6) zR))) [.fz (.lst (R.map .str)),.fz a,.fz b,.fz (.int n),.ow (acc.map xF),.od (uP acc),.fz (.int ((i:Int)+1)),x7]=some (xF p):=by
   refine(iE (x:=.lst ((lP p).map .str)) (y:=.int n) (z:=.int ((i:Int)+1)) ?_ rfl rfl).trans (zLa hn p hc ht _)
   unfold eL
   rw[cQ rfl rfl,hw]
   rfl
 have hf:∀ρ:List B,eV 7 ρ=some (xF p)->wM "Part" "corner" (eV 7) ρ=some (zA p.c):=fun ρ h=>zUy ρ (eV 7) p h
 unfold uM
 rw[rS h1]
 dsimp only[List.set]
 unfold pD
 have t:zVd 5 (wM "Part" "corner" (eV 7)) [.fz (.lst (R.map .str)),.fz a,.fz b,.fz (.int n),.ow (acc.map xF),.od (uP acc),.fz (.int ((i:Int)+1)),.fz (xF p)]=some false:=by
   unfold zVd
   rw[hf _ rfl,Qw,zMA,Qw]
   show some (decide (some (kC p.c)∈(uP acc).map fun p=>ktD 8 p.1))=_
   rw[Qz (zTC hnew)]
 rw[yL (ρ':=[.fz (.lst (R.map .str)),.fz a,.fz b,.fz (.int n),.ow (acc.map xF),.od (uP acc),.fz (.int ((i:Int)+1)),.fz (xF p)]) ((sN t).trans rfl)]
 unfold pG
 rw[yL (ρ':=[.fz (.lst (R.map .str)),.fz a,.fz b,.fz (.int n),.ow (acc.map xF),.od (uP (acc++[p])),.fz (.int ((i:Int)+1)),.fz (xF p)])]
 · unfold iG
   rw[qH (d:=xF p) (ds:=acc.map xF) rfl rfl (by rw[Qy];omega)]
   rw[Wy,Qp,Wv]
   rfl
 · unfold zZq
   rw[show eC (.bl true) _=some (D.bl true) from rfl,Qw,hf _ rfl,Qw,zMA,Qw]
   show(if (uP acc).length<=lim/\_ then _ else none)=_
   rw[Qb]
   · unfold uP
     rw[Wy]
     rfl
   · refine⟨?_,?_,?_⟩
     · unfold uP;rw[Qy];show acc.length<=100000;omega
     · rfl
     · exact zTC hnew
theorem zWp (R:List Str)(a b:D):∀(r acc:List Pt) (k:Nat) (x6 x7:B),(∀(i:Nat) (p:Pt),r[i]?=some p->R[k+i]?=some (sL p))->(∀p∈r,p.c∈zH n/\p.t∈zB n)->((acc++r).map (·.c)).Nodup->acc.length+r.length<=100 ->
   ∃y6 y7,nH (gN 6) uM ((List.range r.length).map fun(i:Nat)=>D.int (((k+i:Nat):Int)+1)) [.fz (.lst (R.map .str)),.fz a,.fz b,.fz (.int n),.ow (acc.map xF),.od (uP acc),x6,x7] =
     some (.nx [.fz (.lst (R.map .str)),.fz a,.fz b,.fz (.int n),.ow ((acc++r).map xF),.od (uP (acc++r)),y6,y7])
 | [],acc,k,x6,x7,_,_,_,_=>⟨x6,x7,by rw[Eh,List.range_zero,Wv,Er,nH]⟩
 | p::r,acc,k,x6,x7,hR,ok,nd,hl=>by
   rw[Qo] at hl
   have hp:=ok p Qh
   have hnew:p.c∉acc.map (·.c):=by
     rw[Wy,Qp] at nd
     intro z
     exact(Yc.mp nd).2.2 _ z _ Qh rfl
   have s:=zOJ hn R k p hp.1 hp.2 (by have h:=hR 0 p rfl;exact h) acc (by omega) hnew a b x7
   obtain⟨y6,y7,e⟩:=zWp R a b r (acc++[p]) (k+1) (.fz (.int ((k:Int)+1))) (.fz (xF p)) (fun i q hq=>by have h:=hR (i+1) q hq;rw[show k+1+i=k+(i+1) from by omega];exact h) (fun q hq=>ok q (Qd _ hq)) (by rw[Ek,Re];exact nd) (by rw[Wq,Ei];omega)
   refine⟨y6,y7,?_⟩
   rw[Qo,Ut,Qp,Rp]
   rw[oU (ρ1:=[.fz (.lst (R.map .str)),.fz a,.fz b,.fz (.int n),.ow (acc.map xF),.od (uP acc),.fz (.int ((k:Int)+1)),x7]) rfl s]
   rw[Ek,Re] at e
   rw[←e]
   congr 1
   refine Rn fun i _=>?_
   show D.int (((k+(i+1):Nat):Int)+1)=D.int (((k+1+i:Nat):Int)+1)
   rw[show k+1+i=k+(i+1) from by omega]
end
def nF (w:Str)(n:Nat)(j:Bool):List Str:=["curve",w,if j=true then "joined" else "loose",if n=2 then "2" else "3"]
def vP (w:Str)(n:Nat)(j:Bool):Str:=Str.join " " (nF w n j)
theorem zQ8 {x y:Str}(h:x.cps.toList=y.cps.toList):x=y:=by
 obtain⟨a⟩:=x
 obtain⟨b⟩:=y
 exact Ea Str.mk (Array.toList_inj.mp h)
theorem zKL (x y:Str):(x++y).cps.toList=x.cps.toList++y.cps.toList:=Array.toList_append
theorem zNu (s x:Str):Str.join s [x]=x:=rfl
theorem zX7 (w:Str)(n:Nat)(j:Bool):(vP w n j).cps.toList=("curve":Str).cps.toList++32::(w.cps.toList++32::((if j=true then("joined":Str) else "loose").cps.toList++32::(if n=2 then("2":Str) else "3").cps.toList)):=by
 unfold vP nF
 rw[dH,qP,qP,qP,zNu]
theorem zU4 {w:Str}(h:Wd w)(n:Nat)(j:Bool):(vP w n j).length<=40:=by
 have e:=Ea List.length (zX7 w n j)
 have h2:w.cps.toList.length<=12:=h.2.1
 have h3:("curve":Str).cps.toList.length=5:=by decide +kernel
 have h4:(if j=true then("joined":Str) else "loose").cps.toList.length<=6:=by cases j<;>decide +kernel
 have h5:(if n=2 then("2":Str) else "3").cps.toList.length=1:=by split<;>decide +kernel
 simp only[Wq,Qo] at e
 show(vP w n j).cps.toList.length<=40
 omega
theorem zQa {w:Str}(h:Wd w)(n:Nat)(j:Bool):wK 10 (vP w n j):=by
 intro z
 have z:10∈(vP w n j).cps.toList:=z
 rw[zX7] at z
 simp only[Ee,Qa] at z
 rcases z with z | z | z | z | z | z | z
 · exact absurd z (by decide +kernel)
 · exact absurd z (by decide)
 · exact h.free.2 z
 · exact absurd z (by decide)
 · revert z;cases j<;>decide +kernel
 · exact absurd z (by decide)
 · revert z;split<;>decide +kernel
theorem zSo {n:Nat}(hn:n=2∨n=3)(j:Bool){w:Str}(h:Wd w):lM (.str (vP w n j)) (.str " ")=some ((nF w n j).map .str):=by
 have hf:∀x∈nF w n j,wK 32 x:=fun x hx=>by
   unfold nF at hx
   simp only[Qa,Wi,Rr] at hx
   rcases hx with rfl | rfl | rfl | rfl
   · unfold L2.wK;decide +kernel
   · exact h.free.1
   · cases j<;>(unfold L2.wK;decide +kernel)
   · split<;>(unfold L2.wK;decide +kernel)
 have e:Txt.split (vP w n j) ⟨#[32]⟩=nF w n j:=by
   unfold vP
   rw[dH]
   exact qA 32 (nF w n j) hf (by unfold nF;exact Tq _ _)
 have hl:=zU4 h n j
 rw[dH]
 show(if 1<=(⟨#[32]⟩:Str).length/\(vP w n j).length<=100000 then some ((Txt.split (vP w n j) ⟨#[32]⟩).map D.str) else none)=_
 rw[Qb ⟨Ql 1,by omega⟩,e]
theorem zQp {n:Nat}(hn:n=2∨n=3)(j:Bool){w:Str}(h:Wd w):mK [.lst ((nF w n j).map .str)]=some (.tup [.str w,.bl j,.int n]):=by
 have e:=zQ7 h
 show(pR [.fz (.lst ((nF w n j).map .str))]).bind xV=_
 unfold pR
 refine rR ?_ ?_
 · unfold nE
   rw[show eB2 gNe (xB (eV 0)) (eC (.int 4)) [.fz (.lst ((nF w n j).map .str))]=some false from rfl,Qw,Ws Qj,show eB2 gNe (eIx (eV 0) (eC (.int 0))) (eC (.str "curve")) [.fz (.lst ((nF w n j).map .str))]=some false from by kernel_rfl,Qw,Ws Qj]
   exact zIn ((pA (x:=.str w) rfl).trans e)
 unfold nF
 rcases hn with rfl | rfl<;>cases j<;>kernel_rfl
theorem zNE {n:Nat}(hn:n=2∨n=3):zYd [.int n,.int 1]=some (.int (2^n)):=by
 rcases hn with rfl | rfl<;>kernel_rfl
section
variable {n:Nat} (hn:n=2∨n=3) {ps:List Pt} (ok:PtsOk n ps) {wN:Str} (hw:Wd wN)
include hn ok hw
theorem zLG (R:List Str)(j:Bool)(h0:R[0]?=some (vP wN n j))(hR:∀(i:Nat) (p:Pt),ps[i]?=some p->R[1+i]?=some (sL p)):kH [.lst (R.map .str)]=some (yT wN n j ps):=by
 have hww:=aW R 0 _ _ h0 (zSo hn j hw)
 have hlen:=ok.len
 have hcs:∀p∈ps,p.c∈zH n/\p.t∈zB n:=fun p hp=>⟨ok.perm.mem_iff.mp (Wa.mpr ⟨p,hp,rfl⟩),ok.turn p hp⟩
 have hnd:((([]:List Pt)++ps).map (·.c)).Nodup:=by rw[Wn];exact ok.perm.nodup_iff.mpr (zXv hn)
 have hs:=ok.small hn
 obtain⟨y6,y7,e⟩:=zWp hn R (.str wN) (.bl j) ps [] 1 .no .no hR hcs hnd (by simp;omega)
 show(qQ [.fz (.lst (R.map .str)),.no,.no,.no,.no,.no,.no,.no]).bind xV=_
 unfold qQ
 rw[yL (ρ':=[.fz (.lst (R.map .str)),.fz (.str wN),.fz (.bl j),.fz (.int n),.no,.no,.no,.no]) (by
   unfold mO
   rw[show zO 1 mK (zY (eL (sV 2 vD (zY (eV 0) (zY (eC (.int 1)) zR)))) zR) [.fz (.lst (R.map .str)),.no,.no,.no,.no,.no,.no,.no]=some (.tup [.str wN,.bl j,.int n]) from by
     refine(pA (x:=.lst ((nF wN n j).map .str)) ?_).trans (zQp hn j hw)
     unfold eL
     rw[cQ (x:=.lst (R.map .str)) (y:=.int 1) rfl rfl,show vD [.lst (R.map .str),.int 1]=some ((nF wN n j).map .str) from hww]
     rfl]
   rfl)]
 unfold nG
 rw[yL (ρ':=[.fz (.lst (R.map .str)),.fz (.str wN),.fz (.bl j),.fz (.int n),.ow [],.no,.no,.no]) rfl]
 unfold mW
 rw[yL (ρ':=[.fz (.lst (R.map .str)),.fz (.str wN),.fz (.bl j),.fz (.int n),.ow [],.od [],.no,.no]) rfl]
 unfold nQ
 rw[yL (ρ':=[.fz (.lst (R.map .str)),.fz (.str wN),.fz (.bl j),.fz (.int n),.ow (ps.map xF),.od (uP ps),y6,y7])]
 · have ea:=yZ (f:=eV 1) (ρ:=[.fz (.lst (R.map .str)),.fz (.str wN),.fz (.bl j),.fz (.int n),.fz (.lst (ps.map xF)),.od (uP ps),y6,y7]) (d:=.str wN) rfl (yZ (f:=eV 3) (d:=.int n) rfl (yZ (f:=eV 2) (d:=.bl j) rfl (yZ (f:=eV 4) (d:=.lst (ps.map xF)) (g:=zR) (ds:=[]) rfl rfl)))
   have em:=zTb (c:="Curve") (ns:=["name","dims","joined","parts"]) (n:=4) (f:=bC) (xs:=[.str wN,.int n,.bl j,.lst (ps.map xF)]) ea rfl rfl rfl
   have q:=zXV ((zZj "Curve" ["name","dims","joined","parts"] 4 bC (zY (eV 1) (zY (eV 3) (zY (eV 2) (zY (eV 4) zR))))) [.fz (.lst (R.map .str)),.fz (.str wN),.fz (.bl j),.fz (.int n),.fz (.lst (ps.map xF)),.od (uP ps),y6,y7])
   exact q.trans em
 · unfold qO
   rw[show iR2 (eC (.int 2)) (vV (eC (.int 2)) (zO 2 zYd (zY (eV 3) (zY (eC (.int 1)) zR)))) [.fz (.lst (R.map .str)),.fz (.str wN),.fz (.bl j),.fz (.int n),.ow [],.od [],.no,.no]=some ((List.range ps.length).map fun(i:Nat)=>D.int (((1+i:Nat):Int)+1)) from by
     unfold iR2
     rw[show eC (.int 2) [.fz (.lst (R.map .str)),.fz (.str wN),.fz (.bl j),.fz (.int n),.ow [],.od [],.no,.no]=some (D.int 2) from rfl,Qw,show vV (eC (.int 2)) (zO 2 zYd (zY (eV 3) (zY (eC (.int 1)) zR))) [.fz (.lst (R.map .str)),.fz (.str wN),.fz (.bl j),.fz (.int n),.ow [],.od [],.no,.no]=some (D.int (2+2^n)) from zD (i:=2) (j:=2^n) rfl ((vJ rfl rfl).trans (zNE hn)) rfl,Qw]
     rw[hlen]
     rcases hn with rfl | rfl<;>rfl]
   exact e
end
def zLs (c:List Int):Str:=Str.join " " ["part",zVQ c,""]
abbrev Pq:=List Int×Tn
def fA (x0 x1 x2 x3 x4 x6 x7 x8:B)(q:Pq):Option D:=xX (xX (eC (.str "part ")) (oZ (eC (.str "")) (yJ (iT (eV 5)) 1 [] (gN 0) tOK (sB (eV 0))))) (eC (.str " ")) [x0,x1,x2,x3,x4,.fz (zA q.1),x6,x7,x8]
def gA (q:Pq):Option D:=some (.str (zLs q.1))
def fB (x0 x1 x2 x3 x4 x5 x7:B)(q:Pq):Option D:=xX (eV 8) (oZ (eC (.str "")) (yJ (iT (eV 6)) 2 [] (gT (zL (gN 0) (zL (gN 1) xP))) tOK (xX (eIx (eC (.str "+-")) (eV 1)) (eIx (eC (.str "xyz")) (eV 0))))) [x0,x1,x2,x3,x4,x5,.fz (yU q.2),x7,.fz (.str (zLs q.1))]
def gB (q:Pq):Option D:=some (.str (zPT q.1 q.2))
def fC (b:Bool)(x0 x1 x2 x3 x4 x5 x6:B)(q:Pq):Option D:=xX (eV 8) (eIx (eL (yA (zY (eC (.str "")) (zY (eC (.str " back")) zR)))) (sS (eV 7))) [x0,x1,x2,x3,x4,x5,x6,.fz (.bl b),.fz (.str (zPT q.1 q.2))]
def gC (b:Bool)(q:Pq):Option D:=some (.str (sL ⟨q.1,q.2,b⟩))
section
variable (x0 x1 x2 x3 x4 x6 x7 x8:B)
theorem ra2:(prs 2).map (fA x0 x1 x2 x3 x4 x6 x7 x8)=(prs 2).map gA:=by kernel_rfl
theorem zIq:(xK 0).map (fA x0 x1 x2 x3 x4 x6 x7 x8)=(xK 0).map gA:=by kernel_rfl
theorem zHA:(xK 1).map (fA x0 x1 x2 x3 x4 x6 x7 x8)=(xK 1).map gA:=by kernel_rfl
theorem zIk:(xK 2).map (fA x0 x1 x2 x3 x4 x6 x7 x8)=(xK 2).map gA:=by kernel_rfl
theorem zHQ:(xK 3).map (fA x0 x1 x2 x3 x4 x6 x7 x8)=(xK 3).map gA:=by kernel_rfl
theorem ra3:(prs 3).map (fA x0 x1 x2 x3 x4 x6 x7 x8)=(prs 3).map gA:=zOU (zIq x0 x1 x2 x3 x4 x6 x7 x8) (zHA x0 x1 x2 x3 x4 x6 x7 x8) (zIk x0 x1 x2 x3 x4 x6 x7 x8) (zHQ x0 x1 x2 x3 x4 x6 x7 x8)
variable (x5:B)
theorem rb2:(prs 2).map (fB x0 x1 x2 x3 x4 x5 x7)=(prs 2).map gB:=by kernel_rfl
theorem zHY:(xK 0).map (fB x0 x1 x2 x3 x4 x5 x7)=(xK 0).map gB:=by kernel_rfl
theorem zIt:(xK 1).map (fB x0 x1 x2 x3 x4 x5 x7)=(xK 1).map gB:=by kernel_rfl
theorem zIj:(xK 2).map (fB x0 x1 x2 x3 x4 x5 x7)=(xK 2).map gB:=by kernel_rfl
theorem zIa:(xK 3).map (fB x0 x1 x2 x3 x4 x5 x7)=(xK 3).map gB:=by kernel_rfl
theorem rb3:(prs 3).map (fB x0 x1 x2 x3 x4 x5 x7)=(prs 3).map gB:=zOU (zHY x0 x1 x2 x3 x4 x5 x7) (zIt x0 x1 x2 x3 x4 x5 x7) (zIj x0 x1 x2 x3 x4 x5 x7) (zIa x0 x1 x2 x3 x4 x5 x7)
theorem rc2 (b:Bool):(prs 2).map (fC b x0 x1 x2 x3 x4 x5 x6)=(prs 2).map (gC b):=by cases b<;>kernel_rfl
theorem zHD:(xK 0).map (fC true x0 x1 x2 x3 x4 x5 x6)=(xK 0).map (gC true):=by kernel_rfl
theorem zH2:(xK 1).map (fC true x0 x1 x2 x3 x4 x5 x6)=(xK 1).map (gC true):=by kernel_rfl
theorem zId:(xK 2).map (fC true x0 x1 x2 x3 x4 x5 x6)=(xK 2).map (gC true):=by kernel_rfl
theorem zI7:(xK 3).map (fC true x0 x1 x2 x3 x4 x5 x6)=(xK 3).map (gC true):=by kernel_rfl
theorem zI6:(xK 0).map (fC false x0 x1 x2 x3 x4 x5 x6)=(xK 0).map (gC false):=by kernel_rfl
theorem zIl:(xK 1).map (fC false x0 x1 x2 x3 x4 x5 x6)=(xK 1).map (gC false):=by kernel_rfl
theorem zI0:(xK 2).map (fC false x0 x1 x2 x3 x4 x5 x6)=(xK 2).map (gC false):=by kernel_rfl
theorem zHS:(xK 3).map (fC false x0 x1 x2 x3 x4 x5 x6)=(xK 3).map (gC false):=by kernel_rfl
theorem rc3 (b:Bool):(prs 3).map (fC b x0 x1 x2 x3 x4 x5 x6)=(prs 3).map (gC b):=by
 cases b with
 | true=>exact zOU (zHD x0 x1 x2 x3 x4 x5 x6) (zH2 x0 x1 x2 x3 x4 x5 x6) (zId x0 x1 x2 x3 x4 x5 x6) (zI7 x0 x1 x2 x3 x4 x5 x6)
 | false=>exact zOU (zI6 x0 x1 x2 x3 x4 x5 x6) (zIl x0 x1 x2 x3 x4 x5 x6) (zI0 x0 x1 x2 x3 x4 x5 x6) (zHS x0 x1 x2 x3 x4 x5 x6)
end
section
variable {n:Nat} (hn:n=2∨n=3)
include hn
theorem zP3 (p:Pt)(hc:p.c∈zH n)(ht:p.t∈zB n)(x0 x1 x2 x3 x8:B)(rows:List D)(hl:rows.length<=1000) :
   wU [x0,x1,x2,x3,.ow rows,.fz (zA p.c),.fz (yU p.t),.fz (.bl p.b),x8]=some (.nx [x0,x1,x2,x3,.ow (rows++[.str (sL p)]),.fz (zA p.c),.fz (yU p.t),.fz (.bl p.b),.fz (.str (zPT p.c p.t))]):=by
 obtain⟨c,t,b⟩:=p
 have hA:xX (xX (eC (.str "part ")) (oZ (eC (.str "")) (yJ (iT (eV 5)) 1 [] (gN 0) tOK (sB (eV 0))))) (eC (.str " ")) [x0,x1,x2,x3,.ow rows,.fz (zA c),.fz (yU t),.fz (.bl b),x8]=some (.str (zLs c)):=by
   rcases hn with rfl | rfl
   · have h:=mY (ra2 x0 x1 x2 x3 (.ow rows) (.fz (yU t)) (.fz (.bl b)) x8) (pQ hc ht);exact h
   · have h:=mY (ra3 x0 x1 x2 x3 (.ow rows) (.fz (yU t)) (.fz (.bl b)) x8) (pQ hc ht);exact h
 have hB:xX (eV 8) (oZ (eC (.str "")) (yJ (iT (eV 6)) 2 [] (gT (zL (gN 0) (zL (gN 1) xP))) tOK (xX (eIx (eC (.str "+-")) (eV 1)) (eIx (eC (.str "xyz")) (eV 0))))) [x0,x1,x2,x3,.ow rows,.fz (zA c),.fz (yU t),.fz (.bl b),.fz (.str (zLs c))]=some (.str (zPT c t)):=by
   rcases hn with rfl | rfl
   · have h:=mY (rb2 x0 x1 x2 x3 (.ow rows) (.fz (zA c)) (.fz (.bl b))) (pQ hc ht);exact h
   · have h:=mY (rb3 x0 x1 x2 x3 (.ow rows) (.fz (zA c)) (.fz (.bl b))) (pQ hc ht);exact h
 have hC:xX (eV 8) (eIx (eL (yA (zY (eC (.str "")) (zY (eC (.str " back")) zR)))) (sS (eV 7))) [x0,x1,x2,x3,.ow rows,.fz (zA c),.fz (yU t),.fz (.bl b),.fz (.str (zPT c t))]=some (.str (sL ⟨c,t,b⟩)):=by
   rcases hn with rfl | rfl
   · have h:=mY (rc2 x0 x1 x2 x3 (.ow rows) (.fz (zA c)) (.fz (yU t)) b) (pQ hc ht);exact h
   · have h:=mY (rc3 x0 x1 x2 x3 (.ow rows) (.fz (zA c)) (.fz (yU t)) b) (pQ hc ht);exact h
 unfold wU
 rw[rS hA]
 dsimp only[List.set]
 unfold sT
 rw[rS hB]
 dsimp only[List.set]
 unfold pB
 rw[qH (d:=.str (sL ⟨c,t,b⟩)) (ds:=rows) hC rfl hl]
 rfl
theorem zWC (x0 x1 x2 x3:B):∀(ps:List Pt) (x5 x6 x7 x8:B) (rows:List D),(∀p∈ps,p.c∈zH n/\p.t∈zB n)->rows.length+ps.length<=1000 ->
   ∃y5 y6 y7 y8,nH (gT (zL (gN 5) (zL (gN 6) (zL (gN 7) xP)))) wU (ps.map xA) [x0,x1,x2,x3,.ow rows,x5,x6,x7,x8]=some (.nx [x0,x1,x2,x3,.ow (rows++ps.map fun p=>.str (sL p)),y5,y6,y7,y8])
 | [],x5,x6,x7,x8,rows,_,_=>⟨x5,x6,x7,x8,by rw[Wv,Wv,Er,nH]⟩
 | p::r,x5,x6,x7,x8,rows,h,hl=>by
   have hp:=h p Qh
   rw[Qo] at hl
   obtain⟨y5,y6,y7,y8,e⟩:=zWC x0 x1 x2 x3 r (.fz (zA p.c)) (.fz (yU p.t)) (.fz (.bl p.b)) (.fz (.str (zPT p.c p.t))) (rows++[.str (sL p)]) (fun q hq=>h q (Qd _ hq)) (by rw[Wq,Ei];omega)
   refine⟨y5,y6,y7,y8,?_⟩
   rw[Qp,oU (ρ1:=[x0,x1,x2,x3,.ow rows,.fz (zA p.c),.fz (yU p.t),.fz (.bl p.b),x8]) rfl (zP3 hn p hp.1 hp.2 x0 x1 x2 x3 x8 rows (by omega)),e,Ek,Re,Qp]
theorem zOQ (j:Bool){w:Str}(h:Wd w)(x3 x4 x5 x6 x7 x8:B):xX (xX (xX (xX (xX (eC (.str "curve ")) (eV 0)) (eC (.str " "))) (eIx (eL (yA (zY (eC (.str "loose")) (zY (eC (.str "joined")) zR)))) (sS (eV 1)))) (eC (.str " "))) (sB (eV 2)) [.fz (.str w),.fz (.bl j),.fz (.int n),x3,x4,x5,x6,x7,x8]=some (.str (vP w n j)):=by
 have h2:w.length<=12:=h.2.1
 have l1:("curve ":Str).length=6:=by decide +kernel
 have l2:(" ":Str).length=1:=by decide +kernel
 have l3:(if j=true then("joined":Str) else "loose").length<=6:=by cases j<;>decide +kernel
 have l4:(if n=2 then("2":Str) else "3").length<=1:=by split<;>decide +kernel
 have e3:eIx (eL (yA (zY (eC (.str "loose")) (zY (eC (.str "joined")) zR)))) (sS (eV 1)) [.fz (.str w),.fz (.bl j),.fz (.int n),x3,x4,x5,x6,x7,x8]=some (.str (if j=true then("joined":Str) else "loose")):=by cases j<;>rfl
 have e5:sB (eV 2) [.fz (.str w),.fz (.bl j),.fz (.int n),x3,x4,x5,x6,x7,x8]=some (.str (if n=2 then("2":Str) else "3")):=by rcases hn with rfl | rfl<;>kernel_rfl
 have a1:=mV (fa:=eC (.str "curve ")) (fb:=eV 0) (ρ:=[.fz (.str w),.fz (.bl j),.fz (.int n),x3,x4,x5,x6,x7,x8]) (x:="curve ") (y:=w) rfl rfl (by omega)
 have a2:=mV (fb:=eC (.str " ")) (y:=" ") a1 rfl (by rw[xU];omega)
 have a3:=mV a2 e3 (by rw[xU,xU];omega)
 have a4:=mV (fb:=eC (.str " ")) (y:=" ") a3 rfl (by rw[xU,xU,xU];omega)
 have a5:=mV a4 e5 (by rw[xU,xU,xU,xU];omega)
 rw[a5]
 congr 2
 refine zQ8 ?_
 rw[zX7]
 have z1:("curve ":Str).cps.toList=("curve":Str).cps.toList++[32]:=by decide +kernel
 have z2:(" ":Str).cps.toList=[32]:=by decide +kernel
 simp only[zKL,z1,z2,Ek,Ry,Wn]
omit hn in
theorem zOA {f:Ef}{ρ:List B}{d:D}(h:f ρ=some d):yA (zY f zR) ρ=some [d]:=by unfold yA;rw[yZ h rfl];rfl
theorem zXi {ps:List Pt}(ok:PtsOk n ps)(j:Bool){w:Str}(h:Wd w):qF [.str w,.bl j,.int n,.lst (ps.map xA)]=some ((vP w n j::ps.map sL).map D.str):=by
 have hs:=ok.small hn
 have hcs:∀p∈ps,p.c∈zH n/\p.t∈zB n:=fun p hp=>⟨ok.perm.mem_iff.mp (Wa.mpr ⟨p,hp,rfl⟩),ok.turn p hp⟩
 obtain⟨y5,y6,y7,y8,e⟩:=zWC hn (.fz (.str w)) (.fz (.bl j)) (.fz (.int n)) (.fz (.lst (ps.map xA))) ps .no .no .no .no [.str (vP w n j)] hcs (by rw[Ei];omega)
 show(uN [.fz (.str w),.fz (.bl j),.fz (.int n),.fz (.lst (ps.map xA)),.no,.no,.no,.no,.no]).bind zR4=_
 unfold uN
 rw[yL (ρ':=[.fz (.str w),.fz (.bl j),.fz (.int n),.fz (.lst (ps.map xA)),.ow [.str (vP w n j)],.no,.no,.no,.no]) (by
   unfold uT
   rw[zOA (zOQ hn j h _ _ _ _ _ _)]
   rfl)]
 unfold rY
 have e':qO (iL (eV 3)) (gT (zL (gN 5) (zL (gN 6) (zL (gN 7) xP)))) wU [.fz (.str w),.fz (.bl j),.fz (.int n),.fz (.lst (ps.map xA)),.ow [.str (vP w n j)],.no,.no,.no,.no]=some (.nx [.fz (.str w),.fz (.bl j),.fz (.int n),.fz (.lst (ps.map xA)),.ow ([.str (vP w n j)]++ps.map fun p=>.str (sL p)),y5,y6,y7,y8]):=by
   unfold qO
   rw[show iL (eV 3) [.fz (.str w),.fz (.bl j),.fz (.int n),.fz (.lst (ps.map xA)),.ow [.str (vP w n j)],.no,.no,.no,.no]=some (ps.map xA) from rfl,Qw]
   exact e
 rw[yL e',Qp,Rp]
 rfl
end
def kT:Option Int->D | none=>.non | some i=>.int i
theorem zXN:Str.ofString "0"=⟨#[48]⟩:=by decide +kernel
theorem zYC (x:Str):x.cps.toList.length=x.length:=Ex
def zTZ:Str:=Str.ofString "0123456789"
theorem zPs:zTZ.cps.toList=[48,49,50,51,52,53,54,55,56,57]:=by decide +kernel
theorem zQO (c:Nat):c∈zTZ.cps.toList↔48<=c/\c<=57:=by
 rw[zPs]
 simp only[Qa,Wi,Rr]
 omega
def zPI (l:List Nat):Bool:=l.all fun c=>decide (c∈zTZ.cps.toList)
def zSg (v:Nat)(l:List Nat):Nat:=l.foldl (fun acc c=>acc*10+(c - 48)) v
def zRX (x:Str):Option Int :=
 if ((decide (1<=x.length)&&decide ((x.length:Int)<=60))&&zPI x.cps.toList)=true then(if 1 < x.length/\x.cps.toList.getD 0 0=48 then none else some ((zSg 0 x.cps.toList:Nat):Int)) else none
theorem zRQ {x:Str}(h0:1<=x.length)(h:x.length<=1000):atD (.str x) (.int 0)=some (.str ⟨#[x.cps.toList.getD 0 0]⟩):=zQP (x:=x) (i:=0) (by decide) (by omega) (by omega)
theorem zL6 (c:Nat):gEq (.str ⟨#[c]⟩) (.str (Str.ofString "0"))=some (decide (c=48)):=by
 rw[zXN]
 show some (decide ((⟨#[c]⟩:Str)=⟨#[48]⟩))=_
 by_cases h:c=48
 · subst h;rfl
 · rw[Qz h,Qz (fun z=>h (by
     have:=Ea (fun s:Str=>s.cps.toList) z
     simpa using this))]
def zZ9 (n m:Option Int):Option Int:=match n,m with
 | some i,some j=>if j < i then none else some i
 | n,_=>n
theorem zNP (x:Str)(h1:1<=x.length)(h2:x.length<=60)(h:zPI x.cps.toList=true):zMe (.str x)=some (.int ((zSg 0 x.cps.toList:Nat):Int)):=by
 have ad:PySem.NumText.AllDigits x.cps.toList:=fun c hc=>(zQO c).mp (Ew (Qv.mp h c hc))
 have ne:x.cps.toList≠[]:=fun z=>by have:=zYC x;rw[z] at this;simp at this;omega
 have e:=PySem.intText_digits ad ne (by omega)
 show(if x.length<=640 then _ else none)=_
 rw[Qb (by omega),e]
 rfl
theorem zOS (x:Str)(j i:Int):(uG [.fz (.str x),.fz (kT (some j)),.fz (.int i)]).bind xV=some (kT (zZ9 (some i) (some j))):=by
 by_cases hj:j < i
 · have hb:zZ9 (some i) (some j)=none:=Qb hj
   have d:=Qi hj
   rw[hb]
   simp only[uG,zP,sIf,yO,rP,eB2,nC,pJ,gGt,kT,eV,eC,sA,Qn,Qc,Qw,Ww,Iw,Rq,d,xV]
 · have hb:zZ9 (some i) (some j)=some i:=Ws hj
   have d:=Qz hj
   rw[hb]
   simp only[uG,dE,zP,sIf,yO,xT,rP,eB2,nC,pJ,gGt,kT,eV,eC,sA,Qn,Qc,Qw,Ww,Iw,Rq,d,Wo,Ro,xV]
theorem zW2 (x:Str)(m:Option Int)(h:x.length<=1000):uV [.str x,kT m]=some (kT (zZ9 (zRX x) m)):=by
 have hc:=zYC x
 have e:=zTa x zTZ 60 h
 have r0:uV [.str x,kT m]=(lK [.fz (.str x),.fz (kT m),.no]).bind xV:=rfl
 rw[r0]
 have t0:sO (tB1 (zO 3 w9 (zY (eV 0) (zY (eC (.str zTZ)) (zY (eC (.int 60)) zR))))) [.fz (.str x),.fz (kT m),.no]=some (!((decide (1<=x.length)&&decide ((x.length:Int)<=60))&&zPI x.cps.toList)):=by
   simp only[sO,tB1,zO,zY,zR,eV,eC,sA,Qn,Qw,Ww,Qo,Eh,Rq,e]
   rfl
 show(zP (sIf (sO (tB1 (zO 3 w9 (zY (eV 0) (zY (eC (.str zTZ)) (zY (eC (.int 60)) zR)))))) (yO (eC .non)) xT) vX _).bind xV=_
 by_cases hA:((decide (1<=x.length)&&decide ((x.length:Int)<=60))&&zPI x.cps.toList)=true
 · have hB:=hA
   rw[Qx,Qx] at hB
   have h1:1<=x.length:=Ew hB.1.1
   have h2:x.length<=60:=by have:=Ew hB.1.2;omega
   have hd:=hB.2
   rw[hA,Yt] at t0
   have s0:sIf (sO (tB1 (zO 3 w9 (zY (eV 0) (zY (eC (.str zTZ)) (zY (eC (.int 60)) zR)))))) (yO (eC .non)) xT [.fz (.str x),.fz (kT m),.no]=some (.nx [.fz (.str x),.fz (kT m),.no]):=by
     unfold sIf
     rw[t0]
     rfl
   rw[yL s0]
   have f:=zRQ h1 h
   have z:=zL6 (x.cps.toList.getD 0 0)
   have hn:zRX x=if 1 < x.length/\x.cps.toList.getD 0 0=48 then none else some ((zSg 0 x.cps.toList:Nat):Int):=by
     unfold zRX
     rw[Qb hA]
   have hi:=zNP x h1 h2 hd
   have fin:(sQ [.fz (.str x),.fz (kT m),.no]).bind xV=some (kT (zZ9 (some ((zSg 0 x.cps.toList:Nat):Int)) m)):=by
     have s2:yP 2 (sS (eV 0)) [.fz (.str x),.fz (kT m),.no]=some (.nx [.fz (.str x),.fz (kT m),.fz (.int ((zSg 0 x.cps.toList:Nat):Int))]):=by
       simp only[yP,sS,eV,sA,Qn,Qw,hi,Ww,List.set]
     show(zP _ uG _).bind xV=_
     rw[yL s2]
     cases m with
     | none=>rfl
     | some j =>
       exact zOS x j ((zSg 0 x.cps.toList:Nat):Int)
   by_cases h3:x.cps.toList.getD 0 0=48
   · rw[Qi h3] at z
     by_cases h4:1 < x.length
     · have ne:¬x=Str.ofString "0":=fun q=>by rw[q,zXN] at h4;exact absurd h4 (by decide)
       have g:gNe (.str x) (.str (Str.ofString "0"))=some true:=by
         show(some (decide (x=_))).map _=_
         rw[Qz ne];rfl
       rw[hn,Qb ⟨h4,h3⟩]
       simp only[vX,zP,sIf,yO,rP,eB2,eIx,f,eV,eC,sA,Qn,Qw,Ww,z,g,Rq]
       cases m<;>rfl
     · have e1:x.length=1:=by omega
       have eq:x=Str.ofString "0":=by
         rw[zXN]
         refine zQ8 ?_
         cases hx:x.cps.toList with
         | nil=>rw[hx] at hc;simp at hc;omega
         | cons a r =>
           rw[hx] at hc h3
           have hr:r=[]:=Oy (by simp at hc;omega)
           have ha:a=48:=by simpa using h3
           rw[ha,hr]
       have g:gNe (.str x) (.str (Str.ofString "0"))=some false:=by
         show(some (decide (x=_))).map _=_
         rw[Qi eq];rfl
       have s1:vX [.fz (.str x),.fz (kT m),.no]=sQ [.fz (.str x),.fz (kT m),.no]:=by
         simp only[vX,zP,sIf,xT,rP,eB2,eIx,f,eV,eC,sA,Qn,Qw,Ww,z,g,Rq,Wo,Ro]
       rw[s1,fin,hn,Ws (fun q=>h4 q.1)]
   · rw[Qz h3] at z
     have s1:vX [.fz (.str x),.fz (kT m),.no]=sQ [.fz (.str x),.fz (kT m),.no]:=by
       simp only[vX,zP,sIf,xT,rP,eB2,eIx,f,eV,eC,sA,Qn,Qw,Ww,z,Wo,Ro]
     rw[s1,fin,hn,Ws (fun q=>h3 q.2)]
 · have hA':((decide (1<=x.length)&&decide ((x.length:Int)<=60))&&zPI x.cps.toList)=false:=by simpa using hA
   rw[hA',Iw] at t0
   have n:zRX x=none:=by unfold zRX;rw[Ws hA]
   have s0:sIf (sO (tB1 (zO 3 w9 (zY (eV 0) (zY (eC (.str zTZ)) (zY (eC (.int 60)) zR)))))) (yO (eC .non)) xT [.fz (.str x),.fz (kT m),.no]=some (.rt .non):=by
     unfold sIf
     rw[t0]
     rfl
   rw[bH s0,n]
   cases m<;>rfl
theorem zZB {n:Int}(h0:0<=n)(h:n < 10^61):n.natAbs.log2 < 1920:=by
 by_cases hz:n.natAbs=0
 · rw[hz];decide
 · refine(Nat.log2_lt hz).mpr ?_
   have h1:n.natAbs < 10^61:=by omega
   exact We h1 (by decide +kernel)
def vM (x:Int):Str:=Str.ofString (toString x)
theorem zHp:∀m:Nat,0 < m->∀c r,Nat.toDigits 10 m=c::r->c≠'0':=by
 intro m
 induction m using Nat.strongRecOn with
 | _ m ih =>
   intro h0 c r e
   by_cases h:m < 10
   · rw[Nat.toDigits_of_lt_base h] at e
     injection e with e1 e2
     rw[←e1]
     have z:m=1∨m=2∨m=3∨m=4∨m=5∨m=6∨m=7∨m=8∨m=9:=by omega
     rcases z with rfl | rfl | rfl | rfl | rfl | rfl | rfl | rfl | rfl<;>decide
   · rw[Nat.toDigits_of_base_le (by decide) (by omega)] at e
     have h1:=ih (m / 10) (by omega) (by omega)
     cases hd:Nat.toDigits 10 (m / 10) with
     | nil=>exact absurd hd Nat.toDigits_ne_nil
     | cons a t =>
       rw[hd] at e
       injection e with e1 e2
       rw[←e1]
       exact h1 a t hd
theorem zMC {c:Char}(h:c.isDigit=true):48<=c.toNat/\c.toNat<=57:=by
 unfold Char.isDigit at h
 rw[Qx] at h
 exact⟨UInt32.le_iff_toNat_le.mp (Ew h.1),UInt32.le_iff_toNat_le.mp (Ew h.2)⟩
theorem nN {i:Int}(h0:0<=i):∀c∈(vM i).cps.toList,48<=c/\c<=57:=by
 obtain⟨m,rfl⟩:=Uq h0
 intro c hc
 have hc:c∈(Str.ofString (toString ((m:Nat):Int))).cps.toList:=hc
 rw[Uh] at hc
 obtain⟨a,ha,rfl⟩:=Wa.mp hc
 exact zMC (Nat.isDigit_of_mem_toDigits (by decide) (by decide) ha)
theorem zLZ {i:Int}(h0:0<=i):1<=(vM i).length:=by
 obtain⟨m,rfl⟩:=Uq h0
 have e:(vM (m:Nat)).cps.toList.length=(Nat.toDigits 10 m).length:=by rw[show(vM (m:Nat)).cps.toList=_ from Uh m,Qy]
 have:=Nat.length_toDigits_pos (b:=10) (n:=m)
 rw[zYC] at e
 omega
theorem uR {i:Int}(h0:0<=i)(h:i < 10^60):1<=(vM i).length/\(vM i).length<=60 :=
 ⟨zLZ h0,PyProof.Rows.toString_length_le h0 (by decide) h⟩
theorem fP {i:Int}(h0:0<=i){c:Nat}(hc:c < 48):wK c (vM i):=fun z=>by have:=nN h0 c z;omega
theorem zQ2 {i:Int}(h0:0<=i)(h:i < 10^60):zRX (vM i)=some i:=by
 obtain⟨l1,l2⟩:=uR h0 h
 have hf:=nN h0
 unfold zRX
 have hd:zPI (vM i).cps.toList=true:=Qv.mpr fun c hc=>Qi ((zQO c).mpr (hf c hc))
 rw[Qi l1,Qi (show((vM i).length:Int)<=60 by omega),hd,Yy,Yy,Qb rfl]
 obtain⟨m,rfl⟩:=Uq h0
 have es:(vM (m:Nat)).cps.toList=(Nat.toDigits 10 m).map Char.toNat:=Uh m
 have ev:zSg 0 (vM (m:Nat)).cps.toList=m:=by
   rw[es]
   exact PySem.W.KIN.val_back m
 rw[Ws,ev]
 rintro⟨g1,g2⟩
 have gl:(vM (m:Nat)).cps.toList.length=(vM (m:Nat)).length:=zYC _
 rw[es,Qy] at gl
 rw[es] at g2
 cases hm:Nat.toDigits 10 m with
 | nil=>exact absurd hm Nat.toDigits_ne_nil
 | cons c r =>
   rw[hm] at g2 gl
   have g2:c.toNat=48:=g2
   have hz:0 < m:=by
     rcases Nat.eq_zero_or_pos m with z | z
     · subst z
       rw[Nat.toDigits_zero] at hm
       injection hm with q1 q2
       rw[←q2] at gl
       have gl:1=(vM ((0:Nat):Int)).length:=gl
       omega
     · exact z
   exact zHp m hz c r hm (Char.ext (UInt32.toNat_inj.mp g2))
theorem zSZ {i:Int}(h0:0<=i)(h:i < 10^60):uV [.str (vM i),.non]=some (.int i):=by
 have e:=zW2 (vM i) none (by have:=(uR h0 h).2;omega)
 rw[zQ2 h0 h] at e
 exact e
theorem zQe {i:Int}(h0:1<=i)(h:i<=999):pP [.str (vM i),.int 1,.int 999]=some (.int i):=by
 have h60:i < 10^60:=Int.lt_of_le_of_lt h (by decide +kernel)
 have e:=zW2 (vM i) (some 999) (by have:=(uR (by omega) h60).2;omega)
 rw[zQ2 (by omega) h60,show zZ9 (some i) (some 999)=some i from Ws (by omega)] at e
 have e:uV [.str (vM i),.int 999]=some (.int i):=e
 show(sE [.fz (.str (vM i)),.fz (.int 1),.fz (.int 999),.no]).bind xV=_
 unfold sE
 refine vN ((vJ rfl rfl).trans e) ?_
 unfold iJ
 refine lO.trans ?_
 have t:nE (eB2 hZ (eV 3) (eC .non)) (eB2 gLt (eV 3) (eV 1)) [.fz (.str (vM i)),.fz (.int 1),.fz (.int 999),.fz (.int i)]=some false:=by
   show some (decide (i < 1))=_
   rw[Qz (by omega)]
 show eIf _ _ _ [.fz (.str (vM i)),.fz (.int 1),.fz (.int 999),.fz (.int i)]=_
 unfold eIf
 rw[t]
 rfl
theorem aU:∀ys:List Str,zWA (ys.map D.str)=some ys
 | []=>rfl
 | y::r=>by rw[Qp,zWA,aU r];rfl
def plT (xs:List Int):Str:=Str.join "," (xs.map vM)
theorem zYb:(",":Str)=⟨#[44]⟩:=by decide +kernel
def Plc (n:Nat)(xs:List Int):Prop:=xs.length=n/\∀x∈xs,0<=x/\x < 10^60
section
variable {n:Nat} (hn:n=2∨n=3) {xs:List Int} (h:Plc n xs)
include hn h
theorem zZI:(∃a b,xs=[a,b])∨∃a b c,xs=[a,b,c]:=by
 obtain⟨hl,_⟩:=h
 match xs,hl with
 | [a,b],_=>exact .inl ⟨a,b,rfl⟩
 | [a,b,c],_=>exact .inr ⟨a,b,c,rfl⟩
 | [],hl=>simp at hl;omega
 | [_],hl=>simp at hl;omega
 | _::_::_::_::_,hl=>simp at hl;omega
theorem zOB:∀c∈(plT xs).cps.toList,c=44∨(48<=c/\c<=57):=by
 have h2:=h.2
 intro c hc
 unfold plT at hc
 rw[zYb] at hc
 rcases zZI hn h with⟨a,b,rfl⟩ | ⟨a,b,d,rfl⟩
 · have ha:=nN (h2 a (by simp)).1
   have hb:=nN (h2 b (by simp)).1
   simp only[Qp,Wv,qP,Ee,Qa] at hc
   rcases hc with z | z | z
   · exact .inr (ha c z)
   · exact .inl z
   · exact .inr (hb c z)
 · have ha:=nN (h2 a (by simp)).1
   have hb:=nN (h2 b (by simp)).1
   have hd:=nN (h2 d (by simp)).1
   simp only[Qp,Wv,qP,Ee,Qa] at hc
   rcases hc with z | z | z | z | z
   · exact .inr (ha c z)
   · exact .inl z
   · exact .inr (hb c z)
   · exact .inl z
   · exact .inr (hd c z)
theorem zQ6 {c:Nat}(hc:c < 44):wK c (plT xs):=fun z=>by have:=zOB hn h c z;omega
theorem zSl:(plT xs).length<=200:=by
 have h2:=h.2
 refine Ey (Uo _ _) ?_
 have l:(",":Str).length=1:=by decide +kernel
 rw[l]
 rcases zZI hn h with⟨a,b,rfl⟩ | ⟨a,b,d,rfl⟩
 · have ha:=h2 a (by simp)
   have hb:=h2 b (by simp)
   have la:=(uR ha.1 ha.2).2
   have lb:=(uR hb.1 hb.2).2
   simp only[Qp,Wv,Rm,Uj,Qo,Eh]
   omega
 · have ha:=h2 a (by simp)
   have hb:=h2 b (by simp)
   have hd:=h2 d (by simp)
   have la:=(uR ha.1 ha.2).2
   have lb:=(uR hb.1 hb.2).2
   have ld:=(uR hd.1 hd.2).2
   simp only[Qp,Wv,Rm,Uj,Qo,Eh]
   omega
theorem zRD:cB [.str (plT xs),.int n]=some (zA xs):=by
 have hl:=zSl hn h
 have hx:=h.2
 have hlen:=h.1
 have e:Txt.split (plT xs) ⟨#[44]⟩=xs.map vM:=by
   unfold plT
   rw[zYb]
   refine qA 44 _ (fun y hy=>?_) ?_
   · obtain⟨x,hx',rfl⟩:=Wa.mp hy
     exact fP (hx x hx').1 (by decide)
   · intro z
     rw[List.map_eq_nil_iff.mp z] at hlen
     simp at hlen
     omega
 have es:lM (.str (plT xs)) (.str ",")=some ((xs.map vM).map .str):=by
   rw[zYb]
   show(if 1<=(⟨#[44]⟩:Str).length/\(plT xs).length<=100000 then some ((Txt.split (plT xs) ⟨#[44]⟩).map D.str) else none)=_
   rw[Qb ⟨Ql 1,by omega⟩,e]
 have ec:yJ (jA (eV 0) (eC (.str ","))) 1 [] (gN 0) tOK (zO 1 uQ (zY (eV 0) zR)) [.fz (.str (plT xs)),.fz (.int n),.no]=some (xs.map .int):=by
   unfold yJ
   rw[show jA (eV 0) (eC (.str ",")) [.fz (.str (plT xs)),.fz (.int n),.no]=some ((xs.map vM).map .str) from es,Qw,rB (by rw[Qy,Qy];omega),Qw,Rp]
   have go:∀(l:List Int) (x0:B) (acc:List D),(∀x∈l,0<=x/\x < 10^60)->uF (gN 0) tOK (zO 1 uQ (zY (eV 0) zR)) (l.map (D.str ∘ vM)) [x0] acc=some (acc++l.map .int):=by
     intro l
     induction l with
     | nil=>intro x0 acc _;simp[uF]
     | cons x r ih =>
       intro x0 acc hh
       rw[Qp]
       unfold uF
       have e1:gN 0 ((D.str ∘ vM) x) [x0]=some [.fz (.str (vM x))]:=rfl
       have e2:tOK [.fz (.str (vM x))]=some true:=rfl
       have hx:=hh x Qh
       have e3:zO 1 uQ (zY (eV 0) zR) [.fz (.str (vM x))]=some (.int x):=(pA rfl).trans (zSZ hx.1 hx.2)
       rw[e1,Qw,e2,Qw,Qb rfl,e3,Qw,ih _ _ fun q hq=>hh q (Qd _ hq)]
       simp
   have g:=go xs .no [] hx
   rw[Wn] at g
   exact g
 show(oP [.fz (.str (plT xs)),.fz (.int n),.no]).bind xV=_
 unfold oP
 refine xZ (ρ':=[.fz (.str (plT xs)),.fz (.int n),.ow (xs.map .int)]) (by unfold uT;rw[ec];rfl) ?_
 unfold aP
 show(yO (eIf (nE (eB2 gNe (xB (eV 2)) (eV 1)) (eB2 zVD (eC .non) (eV 2))) (eC .non) (wX (eV 2))) [.fz (.str (plT xs)),.fz (.int n),.fz (.lst (xs.map .int))]).bind xV=_
 refine lO.trans ?_
 have hN:(xs.map D.int).all noN=true:=by rw[Ib];exact Qv.mpr fun _ _=>rfl
 have t1:eB2 gNe (xB (eV 2)) (eV 1) [.fz (.str (plT xs)),.fz (.int n),.fz (.lst (xs.map .int))]=some false:=by
   show(some (decide (((xs.map D.int).length:Int)=(n:Nat)))).map (!·)=_
   rw[Qy,hlen,Qi rfl]
   rfl
 have t2:eB2 zVD (eC .non) (eV 2) [.fz (.str (plT xs)),.fz (.int n),.fz (.lst (xs.map .int))]=some false:=by
   show(if (xs.map D.int).all noN then some false else none)=_
   rw[Qb hN]
 unfold eIf nE
 rw[t1,Qw,Ws Qj,t2]
 rfl
theorem zSB:qB [zA xs]=some (.str (plT xs)):=by
 have hx:=h.2
 have hlen:=h.1
 have hl:=zSl hn h
 have ec:yJ (iT (eV 0)) 1 [] (gN 0) tOK (sB (eV 0)) [.fz (zA xs)]=some ((xs.map vM).map .str):=by
   unfold yJ
   rw[show iT (eV 0) [.fz (zA xs)]=some (xs.map D.int) from rfl,Qw,rB (by rw[Qy];omega),Qw]
   have go:∀(l:List Int) (x0:B) (acc:List D),(∀x∈l,0<=x/\x < 10^60)->uF (gN 0) tOK (sB (eV 0)) (l.map .int) [x0] acc=some (acc++(l.map vM).map .str):=by
     intro l
     induction l with
     | nil=>intro x0 acc _;simp[uF]
     | cons x r ih =>
       intro x0 acc hh
       rw[Qp]
       unfold uF
       have e1:gN 0 (D.int x) [x0]=some [.fz (.int x)]:=rfl
       have e2:tOK [.fz (.int x)]=some true:=rfl
       have hx:=hh x Qh
       have e3:sB (eV 0) [.fz (.int x)]=some (.str (vM x)):=by
         show(if x.natAbs.log2 < 1920 then some (D.str (Str.ofString (toString x))) else none)=_
         rw[Qb (zZB hx.1 (Int.lt_trans hx.2 (by decide +kernel)))]
         rfl
       rw[e1,Qw,e2,Qw,Qb rfl,e3,Qw,ih _ _ fun q hq=>hh q (Qd _ hq)]
       simp
   have g:=go xs .no [] hx
   rw[Wn] at g
   exact g
 have hs:(((xs.map vM).map (·.length)).sum+(xs.map vM).length*(",":Str).length)<=100000:=by
   have l:(",":Str).length=1:=by decide +kernel
   rw[l]
   rcases zZI hn h with⟨a,b,rfl⟩ | ⟨a,b,d,rfl⟩
   · have ha:=hx a (by simp)
     have hb:=hx b (by simp)
     have la:=(uR ha.1 ha.2).2
     have lb:=(uR hb.1 hb.2).2
     simp only[Qp,Wv,Rm,Uj,Qo,Eh]
     omega
   · have ha:=hx a (by simp)
     have hb:=hx b (by simp)
     have hd:=hx d (by simp)
     have la:=(uR ha.1 ha.2).2
     have lb:=(uR hb.1 hb.2).2
     have ld:=(uR hd.1 hd.2).2
     simp only[Qp,Wv,Rm,Uj,Qo,Eh]
     omega
 show(rW [.fz (zA xs)]).bind xV=_
 unfold rW
 refine lO.trans ?_
 unfold oZ
 rw[show eC (.str ",") [.fz (zA xs)]=some (D.str ",") from rfl,Qw,ec,Qw]
 dsimp only
 rw[aU,Qw,Qb hs]
 exact Ea (fun z=>some (D.str z)) (Uk _ _)
end
inductive Val | nm (w:Str) | pl (p:List Int) | mn (i:Int) | nb (i:Int)
def wO:Val->D | .nm w=>.str w | .pl p=>zA p | .mn i=>.int i | .nb i=>.int i
def wD:Val->Str | .nm _=>"name" | .pl _=>"place" | .mn _=>"many" | .nb _=>"number"
def wG:Val->Str | .nm w=>w | .pl p=>plT p | .mn i=>vM i | .nb i=>vM i
def fY (n:Nat):Val->Prop | .nm w=>Wd w | .pl p=>Plc n p | .mn i=>1<=i/\i<=999 | .nb i=>0<=i/\i < 10^60
def kI:List (Str×D):=[("put",(.tup [.str "name",.str "place",.str "place"])),("move",(.tup [.str "name",.str "place",.str "place"])),("take",(.tup [.str "name"])),("names",(.tup [])),("where",(.tup [.str "name"])),("inside",(.tup [.str "place",.str "place"])),("meeting",(.tup [.str "place",.str "place"])),("near",(.tup [.str "place",.str "many"])),("sharing",(.tup [])),("number",(.tup [.str "place"])),("place",(.tup [.str "number"])),("spans",(.tup [.str "place",.str "place"])),("cover",(.tup [.str "place",.str "place",.str "many"]))]
def zNZ (k:Str):Bool:=decide (k.length<=10) && !k.cps.toList.contains 32 && !k.cps.toList.contains 10
def zHR:D:=.lst [.str "names",.str "sharing",.str "take",.str "where"]
structure Key (k:Str)(ks:List Str):Prop where
 look:kI.lookup k=some (.tup (ks.map .str))
 fit:zNZ k=true
 shut:∃b,zUm (.str k) zHR=some b/\(b=true->ks.all (· == "name")=true)
 len:ks.length<=3
def wA (k:Str)(vs:List Val):D:=.tup (.str k::vs.map wO)
def vA (k:Str)(vs:List Val):List Str:=k::vs.map wG
def zXk (k:Str)(vs:List Val):Str:=Str.join " " (vA k vs)
theorem zOp {i:Int}(h:1<=i/\i<=999):0<=i/\i < 10^60:=⟨by omega,Int.lt_of_le_of_lt h.2 (by decide +kernel)⟩
theorem zSa {n:Nat}(hn:n=2∨n=3){v:Val}(h:fY n v):wK 32 (wG v)/\wK 10 (wG v)/\(wG v).length<=200:=by
 cases v with
 | nm w=>have h:Wd w:=h;exact⟨h.free.1,h.free.2,by show w.length<=200;have:=h.2.1;omega⟩
 | pl p=>have h:Plc n p:=h;exact⟨zQ6 hn h (by decide),zQ6 hn h (by decide),zSl hn h⟩
 | mn i=>have h:=zOp h;exact⟨fP h.1 (by decide),fP h.1 (by decide),by show(vM i).length<=200;have:=(uR h.1 h.2).2;omega⟩
 | nb i=>have h:0<=i/\i < 10^60:=h;exact⟨fP h.1 (by decide),fP h.1 (by decide),by show(vM i).length<=200;have:=(uR h.1 h.2).2;omega⟩
theorem zLk {k:Str}(h:zNZ k=true):wK 32 k/\wK 10 k/\k.length<=10:=by
 unfold zNZ at h
 rw[Qx,Qx] at h
 refine⟨fun z=>?_,fun z=>?_,Ew h.1.1⟩
 · have q:=h.1.2
   rw[Rl.mpr z] at q
   exact absurd q (by decide)
 · have q:=h.2
   rw[Rl.mpr z] at q
   exact absurd q (by decide)
theorem zXf {n:Nat}(hn:n=2∨n=3){v:Val}(h:fY n v):sZ [.str (wD v),.str (wG v),.int n]=some (wO v):=by
 cases v with
 | nm w =>
   have h:Wd w:=h
   show(xI [.fz (.str "name"),.fz (.str w),.fz (.int n)]).bind xV=some (.str w)
   unfold xI
   refine rX (by kernel_rfl) ?_
   unfold eIf
   rw[show tB1 (zO 1 lA (zY (eV 1) zR)) [.fz (.str "name"),.fz (.str w),.fz (.int n)]=some true from by
     unfold tB1
     rw[(pA (x:=.str w) rfl).trans (zQ7 h)]
     rfl]
   rfl
 | pl p =>
   have h:Plc n p:=h
   show(xI [.fz (.str "place"),.fz (.str (plT p)),.fz (.int n)]).bind xV=some (zA p)
   unfold xI
   refine rR (by kernel_rfl) ?_
   unfold tU
   exact rX (by kernel_rfl) ((vJ rfl rfl).trans (zRD hn h))
 | mn i =>
   have h:1<=i/\i<=999:=h
   show(xI [.fz (.str "many"),.fz (.str (vM i)),.fz (.int n)]).bind xV=some (.int i)
   unfold xI
   refine rR (by kernel_rfl) ?_
   unfold tU
   refine rR (by kernel_rfl) ?_
   unfold qU
   exact rX (by kernel_rfl) ((iE rfl rfl rfl).trans (zQe h.1 h.2))
 | nb i =>
   have h:0<=i/\i < 10^60:=h
   show(xI [.fz (.str "number"),.fz (.str (vM i)),.fz (.int n)]).bind xV=some (.int i)
   unfold xI
   refine rR (by kernel_rfl) ?_
   unfold tU
   refine rR (by kernel_rfl) ?_
   unfold qU
   refine rR (by kernel_rfl) ?_
   unfold gQ
   exact lO.trans ((pA rfl).trans (zSZ h.1 h.2))
theorem zKl (x:D):∀l:List D,l.length<=3->zZS (x::l) (some 1) none=l
 | [],_=>rfl
 | [_],_=>rfl
 | [_,_],_=>rfl
 | [_,_,_],_=>rfl
 | _::_::_::_::_,h=>by simp at h
theorem zYh {t u:Tf}{ρ:List B}{a b:Bool}(h1:t ρ=some a)(h2:u ρ=some b):nE t u ρ=some (a||b):=by
 unfold nE
 rw[h1,Qw,h2]
 cases a<;>rfl
theorem zVp {i:Nat}{g:Lf}{ρ:List B}{ds:List D}(h:g ρ=some ds):uT i g ρ=some (.nx (ρ.set i (.ow ds))):=by
 unfold uT
 rw[h]
 rfl
theorem at0 (x:D)(l:List D):atI (x::l) 0=some x:=by
 unfold atI ixN
 rw[Qb (Int.le_refl 0),Qb (by rw[Qo];omega)]
 rfl
theorem zNl (k:Str)(vs:List Val)(ρ:List B):eIx (eV 0) (eC (.int 0)) (.fz (wA k vs)::ρ)=some (.str k):=at0 _ _
theorem zRt (k:Str)(vs:List Val)(ρ:List B):yA (zY (eIx (eV 0) (eC (.int 0))) zR) (.fz (wA k vs)::ρ)=some [.str k]:=zOA (zNl k vs ρ)
theorem zLy (v:Val):noN (wO v)=true:=by cases v<;>rfl
section
variable {n:Nat} (hn:n=2∨n=3) {k:Str} {vs:List Val} (hk:Key k (vs.map wD)) (hv:∀v∈vs,fY n v)
include hn hk hv
omit hn hv in
theorem zZP:vs.length<=3:=by have:=hk.len;rwa[Qy] at this
theorem zZ0:(∀y∈vA k vs,wK 32 y/\wK 10 y/\y.length<=200):=by
 obtain⟨k1,k2,k3⟩:=zLk hk.fit
 intro y hy
 rcases Qa.mp hy with rfl | hy
 · exact⟨k1,k2,by omega⟩
 · obtain⟨v,h,rfl⟩:=Wa.mp hy
   exact zSa hn (hv v h)
theorem zIw:((vA k vs).map (·.length)).sum+(vA k vs).length*(" ":Str).length<=1000:=by
 have hf:=zZ0 hn hk hv
 have l2:(" ":Str).length=1:=by decide +kernel
 have hl:=zZP hk
 have go:∀l:List Str,(∀y∈l,y.length<=200)->(l.map (·.length)).sum<=200*l.length:=by
   intro l
   induction l with
   | nil=>intro _;exact Ql _
   | cons p r ih =>
     intro h
     have h3:=h p Qh
     have h4:=ih fun q hq=>h q (Qd _ hq)
     rw[Qp,Rm,Qo]
     omega
 have h5:=go (vA k vs) fun y hy=>(hf y hy).2.2
 have h6:(vA k vs).length=vs.length+1:=by unfold vA;simp
 rw[l2]
 omega
theorem zTu:(zXk k vs).length<=1000:=Ey (Uo _ _) (zIw hn hk hv)
theorem zPR {c:Nat}(hc:c≠32):∀ys:List Str,(∀y∈ys,wK c y)->wK c (Str.join " " ys):=by
 have e:(" ":Str)=⟨#[32]⟩:=dH
 rw[e]
 intro ys
 induction ys with
 | nil=>intro _ z;cases z
 | cons y r ih =>
   intro h z
   cases r with
   | nil=>exact h y Qh z
   | cons y2 r2 =>
     have z:c∈(Str.join ⟨#[32]⟩ (y::y2::r2)).cps.toList:=z
     rw[qP] at z
     rcases Ee.mp z with z | z
     · exact h y Qh z
     · rcases Qa.mp z with z | z
       · exact hc z
       · exact ih (fun q hq=>h q (Qd _ hq)) z
theorem zQf:wK 10 (zXk k vs):=zPR hn hk hv (by decide) _ fun y hy=>(zZ0 hn hk hv y hy).2.1
theorem zS4:lM (.str (zXk k vs)) (.str " ")=some ((vA k vs).map .str):=by
 have hl:=zTu hn hk hv
 have e:Txt.split (zXk k vs) ⟨#[32]⟩=vA k vs:=by
   unfold zXk
   rw[dH]
   exact qA 32 _ (fun y hy=>(zZ0 hn hk hv y hy).1) (by unfold vA;exact Tq _ _)
 rw[dH]
 show(if 1<=(⟨#[32]⟩:Str).length/\(zXk k vs).length<=100000 then some ((Txt.split (zXk k vs) ⟨#[32]⟩).map D.str) else none)=_
 rw[Qb ⟨Ql 1,by omega⟩,e]
theorem zO0 {v:Val}(h:fY n v)(x0:B)(x2:B)(ws:List D)(hl:ws.length<=100):uA [x0,.ow ws,.fz (wO v)]=some (.nx [x0,.ow (ws++[.str (wG v)]),.fz (wO v)]):=by
 unfold uA sIf
 cases v with
 | nm w =>
   rw[show tB1 (pI rQ (eV 2)) [x0,.ow ws,.fz (wO (.nm w))]=some false from rfl,Qw,Ws Qj,qH (d:=.str w) (ds:=ws) rfl rfl (by omega)]
   rfl
 | pl p =>
   have h:Plc n p:=h
   rw[show tB1 (pI rQ (eV 2)) [x0,.ow ws,.fz (wO (.pl p))]=some true from rfl,Qw,Qb rfl,qH (d:=.str (plT p)) (ds:=ws) ((pA (x:=zA p) rfl).trans (zSB hn h)) rfl (by omega)]
   rfl
 | mn i =>
   have h:=zOp h
   rw[show tB1 (pI rQ (eV 2)) [x0,.ow ws,.fz (wO (.mn i))]=some false from rfl,Qw,Ws Qj,qH (d:=.str (vM i)) (ds:=ws) (by
     show(if i.natAbs.log2 < 1920 then some (D.str (Str.ofString (toString i))) else none)=_
     rw[Qb (zZB h.1 (Int.lt_trans h.2 (by decide +kernel)))]
     rfl) rfl (by omega)]
   rfl
 | nb i =>
   have h:0<=i/\i < 10^60:=h
   rw[show tB1 (pI rQ (eV 2)) [x0,.ow ws,.fz (wO (.nb i))]=some false from rfl,Qw,Ws Qj,qH (d:=.str (vM i)) (ds:=ws) (by
     show(if i.natAbs.log2 < 1920 then some (D.str (Str.ofString (toString i))) else none)=_
     rw[Qb (zZB h.1 (Int.lt_trans h.2 (by decide +kernel)))]
     rfl) rfl (by omega)]
   rfl
theorem zUe (x0:B):∀(l:List Val) (x2:B) (ws:List D),(∀v∈l,fY n v)->ws.length+l.length<=100->∃y2,nH (gN 2) uA (l.map wO) [x0,.ow ws,x2]=some (.nx [x0,.ow (ws++l.map fun v=>.str (wG v)),y2])
 | [],x2,ws,_,_=>⟨x2,by rw[Wv,Wv,Er,nH]⟩
 | v::r,x2,ws,h,hl=>by
   rw[Qo] at hl
   obtain⟨y2,e⟩:=zUe x0 r (.fz (wO v)) (ws++[.str (wG v)]) (fun q hq=>h q (Qd _ hq)) (by rw[Wq,Ei];omega)
   refine⟨y2,?_⟩
   rw[Qp,oU (ρ1:=[x0,.ow ws,.fz (wO v)]) rfl (zO0 hn hk hv (h v Qh) x0 x2 ws (by omega)),e,Ek,Re,Qp]
theorem zTI:nP [wA k vs]=some (.str (zXk k vs)):=by
 have hl:=zZP hk
 obtain⟨y2,e⟩:=zUe hn hk hv (.fz (wA k vs)) vs .no [.str k] hv (by rw[Ei];omega)
 show(tI [.fz (wA k vs),.no,.no]).bind xV=_
 unfold tI
 refine xZ (ρ':=[.fz (wA k vs),.ow [.str k],.no]) (by unfold uT;rw[zRt];rfl) ?_
 unfold qI
 refine xZ (ρ':=[.fz (wA k vs),.ow ((vA k vs).map .str),y2]) (by
   unfold qO
   rw[show iT (cU (eV 0) (tT (eC (.int 1))) oNo) [.fz (wA k vs),.ow [.str k],.no]=some (vs.map wO) from by
     show some (zZS (.str k::vs.map wO) (some 1) none)=_
     rw[zKl _ _ (by rw[Qy];exact hl)],Qw,e]
   unfold vA
   rw[Qp,Rp]
   rfl) ?_
 unfold lB
 show(yO (oZ (eC (.str " ")) (iL (eV 1))) [.fz (wA k vs),.fz (.lst ((vA k vs).map .str)),y2]).bind xV=_
 refine lO.trans ?_
 unfold oZ
 rw[show eC (.str " ") [.fz (wA k vs),.fz (.lst ((vA k vs).map .str)),y2]=some (D.str " ") from rfl,Qw,show iL (eV 1) [.fz (wA k vs),.fz (.lst ((vA k vs).map .str)),y2]=some ((vA k vs).map .str) from rfl,Qw]
 dsimp only
 rw[aU,Qw,Qb (Ey (zIw hn hk hv) (by decide))]
 exact Ea (fun z=>some (D.str z)) (Uk _ _)
theorem zQZ:∀l:List Val,sU (l.map fun v=>.str (wD v)) (l.map fun v=>.str (wG v))=l.map fun v=>.tup [.str (wD v),.str (wG v)]
 | []=>rfl
 | v::r=>by rw[Qp,Qp,Qp,sU,zQZ r]
theorem zWn (r:B):∀(l:List Val) (x0 x1:B) (acc:List D),(∀v∈l,fY n v)->uF (gT (zL (gN 0) (zL (gN 1) xP))) tOK (zO 3 sZ (zY (eV 0) (zY (eV 1) (zY (eV 2) zR)))) (l.map fun v=>.tup [.str (wD v),.str (wG v)]) [x0,x1,.fz (.int n)] acc=some (acc++l.map wO)
 | [],_,_,acc,_=>by simp[uF]
 | v::t,x0,x1,acc,h=>by
   rw[Qp]
   unfold uF
   have e1:gT (zL (gN 0) (zL (gN 1) xP)) (.tup [.str (wD v),.str (wG v)]) [x0,x1,.fz (.int n)]=some [.fz (.str (wD v)),.fz (.str (wG v)),.fz (.int n)]:=rfl
   have e2:tOK [.fz (.str (wD v)),.fz (.str (wG v)),.fz (.int n)]=some true:=rfl
   have e3:zO 3 sZ (zY (eV 0) (zY (eV 1) (zY (eV 2) zR))) [.fz (.str (wD v)),.fz (.str (wG v)),.fz (.int n)]=some (wO v):=(iE rfl rfl rfl).trans (zXf hn (h v Qh))
   rw[e1,Qw,e2,Qw,Qb rfl,e3,Qw,zWn r t _ _ _ fun q hq=>h q (Qd _ hq)]
   simp
theorem zUW (r:Int):mM [.lst ((vA k vs).map .str),.int n,.int r]=some (wA k vs):=by
 have hl:=zZP hk
 have hlk:kI.lookup k=some (.tup (vs.map fun v=>.str (wD v))):=by have:=hk.look;rwa[Rp] at this
 have hw:(vA k vs).map D.str = .str k::vs.map fun v=>.str (wG v):=by unfold vA;rw[Qp,Rp];rfl
 rw[hw]
 have e0:∀x3:B,eIx (eV 0) (eC (.int 0)) [.fz (.lst (.str k::vs.map fun v=>.str (wG v))),.fz (.int n),.fz (.int r),x3]=some (.str k):=fun x3=>at0 _ _
 have eix:∀x3:B,cM kI (eIx (eV 0) (eC (.int 0))) [.fz (.lst (.str k::vs.map fun v=>.str (wG v))),.fz (.int n),.fz (.int r),x3]=some (.tup (vs.map fun v=>.str (wD v))):=fun x3=>by
   unfold cM
   rw[e0,Qw]
   exact hlk
 have t1:zVR false kI (eIx (eV 0) (eC (.int 0))) [.fz (.lst (.str k::vs.map fun v=>.str (wG v))),.fz (.int n),.fz (.int r),.no]=some false:=by
   unfold zVR
   rw[e0,Qw]
   dsimp only
   rw[hlk]
   rfl
 have t2:eB2 gNe (xB (eV 0)) (vV (eC (.int 1)) (xB (cM kI (eIx (eV 0) (eC (.int 0)))))) [.fz (.lst (.str k::vs.map fun v=>.str (wG v))),.fz (.int n),.fz (.int r),.no]=some false:=by
   have a1:xB (eV 0) [.fz (.lst (.str k::vs.map fun v=>.str (wG v))),.fz (.int n),.fz (.int r),.no]=some (.int ((vs.length:Int)+1)):=by
     show some (D.int (((.str k::vs.map fun v=>.str (wG v)):List D).length:Nat))=_
     rw[Qo,Qy]
     rfl
   have a2:xB (cM kI (eIx (eV 0) (eC (.int 0)))) [.fz (.lst (.str k::vs.map fun v=>.str (wG v))),.fz (.int n),.fz (.int r),.no]=some (.int (vs.length:Nat)):=by
     unfold xB
     rw[eix,Qw]
     show some (D.int ((vs.map fun v=>D.str (wD v)).length:Nat))=_
     rw[Qy]
   have a3:vV (eC (.int 1)) (xB (cM kI (eIx (eV 0) (eC (.int 0))))) [.fz (.lst (.str k::vs.map fun v=>.str (wG v))),.fz (.int n),.fz (.int r),.no]=some (.int (1+(vs.length:Nat))):=zD rfl a2 rfl
   unfold eB2
   rw[a1,Qw,a3,Qw]
   show(some (decide ((vs.length:Int)+1=1+(vs.length:Nat)))).map (!·)=_
   rw[Qi (by omega)]
   rfl
 have hN:(vs.map wO).all noN=true:=by rw[Ib];exact Qv.mpr fun v _=>zLy v
 show(pV [.fz (.lst (.str k::vs.map fun v=>.str (wG v))),.fz (.int n),.fz (.int r),.no]).bind xV=_
 unfold pV
 refine rR (zYh t1 t2) ?_
 unfold lR
 refine xZ (ρ':=[.fz (.lst (.str k::vs.map fun v=>.str (wG v))),.fz (.int n),.fz (.int r),.ow (vs.map wO)]) (by
   have e:yJ (zUh (cM kI (eIx (eV 0) (eC (.int 0)))) (eL (lT (eV 0) (tT (eC (.int 1))) oNo))) 2 [1] (gT (zL (gN 0) (zL (gN 1) xP))) tOK (zO 3 sZ (zY (eV 0) (zY (eV 1) (zY (eV 2) zR)))) [.fz (.lst (.str k::vs.map fun v=>.str (wG v))),.fz (.int n),.fz (.int r),.no]=some (vs.map wO):=by
     unfold yJ
     rw[show zUh (cM kI (eIx (eV 0) (eC (.int 0)))) (eL (lT (eV 0) (tT (eC (.int 1))) oNo)) [.fz (.lst (.str k::vs.map fun v=>.str (wG v))),.fz (.int n),.fz (.int r),.no]=some (vs.map fun v=>.tup [.str (wD v),.str (wG v)]) from by
       unfold zUh zXO
       rw[eix,Qw,show eL (lT (eV 0) (tT (eC (.int 1))) oNo) [.fz (.lst (.str k::vs.map fun v=>.str (wG v))),.fz (.int n),.fz (.int r),.no]=some (.lst (vs.map fun v=>.str (wG v))) from by
         show some (D.lst (zZS (.str k::vs.map fun v=>.str (wG v)) (some 1) none))=_
         rw[zKl _ _ (by rw[Qy];exact hl)],Qw]
       dsimp only
       rw[zQZ hn hk hv],Qw,rB (by rw[Qy];omega),Qw]
     have q:=zWn hn hk hv (.fz (.int r)) vs .no .no [] hv
     rw[Wn] at q
     exact q
   exact zVp e) ?_
 unfold lI
 refine xZ (ρ':=[.fz (.lst (.str k::vs.map fun v=>.str (wG v))),.fz (.int n),.fz (.int r),.fz (.lst (vs.map wO))]) (by
   show sIf (eB2 zVD (eC .non) (eV 3)) (fun _=>none) xT [.fz (.lst (.str k::vs.map fun v=>.str (wG v))),.fz (.int n),.fz (.int r),.fz (.lst (vs.map wO))]=_
   unfold sIf
   rw[show eB2 zVD (eC .non) (eV 3) [.fz (.lst (.str k::vs.map fun v=>.str (wG v))),.fz (.int n),.fz (.int r),.fz (.lst (vs.map wO))]=some false from by
     show(if (vs.map wO).all noN then some false else none)=_
     rw[Qb hN]]
   rfl) ?_
 unfold dQ
 refine lO.trans ?_
 unfold iK
 rw[aY (ds:=[.str k]) (yZ (e0 _) rfl) (by simp),Qw]
 show(if [D.str k].length+(vs.map wO).length<=1000 then some (D.tup ([.str k]++vs.map wO)) else none)=_
 rw[Qb (by rw[Qy];show 1+vs.length<=1000;omega)]
 rfl
end
theorem zHU (v:Val){n:Nat}(h:fY n v)(hn:n<=1000):okS 3 (wO v)=true:=by
 cases v with
 | nm w=>rfl
 | pl p=>exact zIu (n:=1) (by have h:Plc n p:=h;rw[h.1];exact hn)
 | mn i=>rfl
 | nb i=>rfl
theorem zV4 (c f:Int):0<=zZH c f:=by unfold zZH;omega
def Low (n:Nat)(b:Int)(xs:List Int):Prop:=xs.length=n/\∀x∈xs,0<=x/\x < b
def Rng (n:Nat)(b:Int)(xs:List Int):Prop:=xs.length=n/\∀x∈xs,-1<=x/\x < b
theorem zV0 {f:Ef}{ρ:List B}{a:Nat}(h:f ρ=some (.int (a:Nat)))(ha:a<=1000):zY2 (eC (.int 1)) f ρ=some (.int (2^a)):=by
 refine(zD (C:=zUQ) (g:=fun i j=>i*2^j.toNat) (fa:=eC (.int 1)) (fb:=f) (i:=1) (j:=(a:Nat)) rfl h (by
   unfold zUQ
   rw[Qi (show(0:Int)<=(a:Nat) by omega),Qi (show((a:Nat):Int)<=1000000 by omega),Qi (show(1:Int).natAbs < 2^64 by decide)]
   rfl)).trans ?_
 rw[Int.one_mul,Ra]
theorem zLY {f:Ef}{ρ:List B}{n:Nat}(h:f ρ=some (.int (n:Nat)))(hn:n<=1000):iR f ρ=some (tV 0 n):=by
 have e:=zRx h (by omega) (by omega)
 rwa[Ra] at e
theorem zKy {a:Nat}(ha:a<=6):(1:Int)<=2^a/\(2:Int)^a<=64:=by
 have z:a=0∨a=1∨a=2∨a=3∨a=4∨a=5∨a=6:=by omega
 rcases z with rfl | rfl | rfl | rfl | rfl | rfl | rfl<;>decide
theorem aG {xs:List Int}{P:Int->Prop}(h:∀x∈xs,P x){i:Int}(h0:0<=i)(h1:i < xs.length):∃x,atI (xs.map D.int) i=some (.int x)/\P x:=by
 obtain⟨x,hx,e⟩:=zUV h0 h1
 exact⟨x,by rw[eJ,e];rfl,h x hx⟩
section
variable {n:Nat} (hn:n=2∨n=3) {a:Nat} (ha:a<=6)
include hn ha
theorem zL8 (c:Int):∃xs,cP [.int c,.int n,.int a]=some (zA xs)/\Low n (2^a) xs:=by
 obtain⟨p1,p2⟩:=zKy ha
 obtain⟨xs,e,hl,hq⟩:=eG (α:=Int) (elt:=xW (zO 2 wL (zY (eV 1) (zY (vV (eC (.int 16807)) (sJ (eC (.int 14)) (eV 0))) zR))) (zY2 (eC (.int 1)) (eV 2))) (f:=D.int) (Q:=fun x=>0<=x/\x < 2^a) (rest:=[.fz (.int c),.fz (.int a)]) (tV 0 n) .no [] (fun d hd=>by
   obtain⟨i,hi,rfl⟩:=lD hd
   refine⟨zZH c (16807+14*(0+(i:Nat))) % 2^a,?_,Rs _ (by omega),Rt _ (by omega)⟩
   exact zD ((vJ (x:=.int c) (y:=.int (16807+14*(0+(i:Nat)))) rfl (zD rfl (zD rfl rfl (rV (by decide) (by decide))) rfl)).trans (fU _ _ (by omega) (by omega))) (zV0 (a:=a) rfl (by omega)) (Qi (by omega)))
 rw[Wn] at e
 rw[uL] at hl
 refine⟨xs,?_,hl,hq⟩
 show(kL [.fz (.int c),.fz (.int n),.fz (.int a)]).bind xV=_
 unfold kL
 refine lO.trans ?_
 unfold wX
 rw[dN (ds:=xs.map D.int) (by
   unfold yJ
   rw[zLY (n:=n) rfl (by omega),Qw,rB (by rw[uL];omega),Qw]
   exact e)]
 rfl
theorem zN2 {t:Tf}{f g:Sf}{ρ:List B}{b:Bool}{P:List B->Prop}(ht:t ρ=some b)(h0:P ρ)(h1:∃ρ',f ρ=some (.nx ρ')/\P ρ'):∃ρ',zP (sIf t f xT) g ρ=g ρ'/\P ρ':=by
 cases b with
 | true =>
   obtain⟨ρ',e,h⟩:=h1
   exact⟨ρ',yL ((sN ht).trans (by rw[Qb rfl];exact e)),h⟩
 | false=>exact⟨ρ,yL ((sN ht).trans (by rw[Ws Qj])),h0⟩
theorem zVO {fi fv:Ef}{ρ:List B}{i:Nat}{xs:List Int}{j v:Int}(hx:ρ[i]?=some (.ow (xs.map D.int)))(hl:xs.length<=1000)(h1:fi ρ=some (.int j))(h2:fv ρ=some (.int v))(j0:0<=j)(j1:j < xs.length):eZ i fi fv ρ=some (.nx (ρ.set i (.ow ((xs.set j.toNat v).map D.int)))):=by
 unfold eZ
 rw[h2,Qw,h1,Qw,hx]
 show(if (xs.map D.int).length<=100000 then(ixN (xs.map D.int).length j).map _ else none)=_
 rw[Qy,Qb (by omega)]
 unfold ixN
 rw[Qb j0,Qb j1,Ww,List.map_set]
theorem zUZ {xs:List Int}{P:Int->Prop}{j:Nat}{v:Int}(h:∀x∈xs,P x)(hv:P v):∀x∈xs.set j v,P x:=fun x hx=>by
 rcases List.mem_or_eq_of_mem_set hx with z | z
 · exact h x z
 · rw[z];exact hv
theorem zLx:(10:Int)^(17:Int).toNat+100<=10^60:=by decide +kernel
theorem zN5 (c m:Int)(hm:0 < m)(hm2:m<=100):∃lo hi,eN [.int c,.int n,.int a,.int m]=some (.tup [zA lo,zA hi])/\Rng n (10^60) lo/\Rng n (10^60) hi:=by
 obtain⟨p1,p2⟩:=zKy ha
 have big:=zLx hn ha
 obtain⟨lo,elo,llo,hlo⟩:=zL8 hn ha c
 obtain⟨fr,efr,lfr,hfr⟩:=eG (α:=Int) (elt:=xW (zO 2 wL (zY (eV 2) (zY (vV (eC (.int 69621)) (sJ (eC (.int 22)) (eV 0))) zR))) (eV 1)) (f:=D.int) (Q:=fun x=>0<=x/\x < m) (rest:=[.fz (.int m),.fz (.int c)]) (tV 0 n) .no [] (fun d hd=>by
   obtain⟨i,hi,rfl⟩:=lD hd
   refine⟨zZH c (69621+22*(0+(i:Nat))) % m,?_,Rs _ (by omega),Rt _ (by omega)⟩
   exact zD ((vJ (x:=.int c) (y:=.int (69621+22*(0+(i:Nat)))) rfl (zD rfl (zD rfl rfl (rV (by decide) (by decide))) rfl)).trans (fU _ _ (by omega) (by omega))) rfl (Qi hm))
 rw[Wn] at efr
 rw[uL] at lfr
 obtain⟨hi,ehi,lhi,hhi⟩:=eG (α:=Int) (elt:=zOD (rO (zY2 (eC (.int 1)) (eV 1)) (eC (.int 1))) (vV (eIx (eV 2) (eV 0)) (eIx (eV 3) (eV 0)))) (f:=D.int) (Q:=fun x=>0<=x/\x < 64) (rest:=[.fz (.int a),.fz (zA lo),.fz (.lst (fr.map .int))]) (tV 0 n) .no [] (fun d hd=>by
   obtain⟨i,hi,rfl⟩:=lD hd
   obtain⟨x,ex,hx⟩:=aG (i:=0+(i:Nat)) hlo (by omega) (by omega)
   obtain⟨y,ey,hy⟩:=aG (i:=0+(i:Nat)) hfr (by omega) (by omega)
   refine⟨if x+y < 2^a - 1 then x+y else 2^a - 1,?_,?_⟩
   · have s1:rO (zY2 (eC (.int 1)) (eV 1)) (eC (.int 1)) [.fz (.int (0+(i:Nat))),.fz (.int a),.fz (zA lo),.fz (.lst (fr.map .int))]=some (.int (2^a - 1)):=zD (zV0 (a:=a) rfl (by omega)) rfl rfl
     have s2:vV (eIx (eV 2) (eV 0)) (eIx (eV 3) (eV 0)) [.fz (.int (0+(i:Nat))),.fz (.int a),.fz (zA lo),.fz (.lst (fr.map .int))]=some (.int (x+y)):=zD ((nI (x:=zA lo) (y:=.int (0+(i:Nat))) rfl rfl).trans ex) ((nI (x:=.lst (fr.map .int)) (y:=.int (0+(i:Nat))) rfl rfl).trans ey) rfl
     unfold zOD
     rw[s1,Qw,s2]
     rfl
   · split<;>omega)
 rw[Wn] at ehi
 rw[uL] at lhi
 have ew:=fU c 39373 (by decide) (by decide)
 have w0:=zV4 c 39373
 generalize zZH c 39373=w at ew w0
 obtain⟨j,ej,j0,j1⟩:∃j:Int,w / 24 % (n:Nat)=j/\0<=j/\j < n:=⟨_,rfl,Rs _ (by omega),Rt _ (by omega)⟩
 show ∃lo hi,(mJ [.fz (.int c),.fz (.int n),.fz (.int a),.fz (.int m),.no,.no,.no,.no,.no]).bind xV=_/\_
 unfold mJ
 rw[rS ((iE rfl rfl rfl).trans elo)]
 dsimp only[List.set]
 unfold gF
 rw[rS (d:=.lst (fr.map .int)) (dN (by
   unfold yJ
   rw[zLY (n:=n) rfl (by omega),Qw,rB (by rw[uL];omega),Qw]
   exact efr))]
 dsimp only[List.set]
 unfold fK
 rw[yL (ρ':=[.fz (.int c),.fz (.int n),.fz (.int a),.fz (.int m),.fz (zA lo),.fz (.lst (fr.map .int)),.ow (hi.map .int),.no,.no]) (zVp (by
   unfold yJ
   rw[zLY (n:=n) rfl (by omega),Qw,rB (by rw[uL];omega),Qw]
   exact ehi))]
 unfold gX
 rw[rS ((vJ rfl rfl).trans ew)]
 dsimp only[List.set]
 unfold fH
 rw[rS (d:=.int j) (by rw[←ej];exact zD (zD rfl rfl rfl) rfl (Qi (by omega)))]
 dsimp only[List.set]
 unfold gZ
 obtain⟨_,e1,h1,⟨l1,q1⟩,rfl⟩:=zN2 hn ha (t:=eB2 gEq (xW (eV 7) (eC (.int 12))) (eC (.int 0))) (f:=eZ 6 (eV 8) (rO (eIx (eV 4) (eV 8)) (eC (.int 1)))) (g:=mI) (P:=fun ρ=>∃xs:List Int,Rng n 64 xs/\ρ=[.fz (.int c),.fz (.int n),.fz (.int a),.fz (.int m),.fz (zA lo),.fz (.lst (fr.map .int)),.ow (xs.map .int),.fz (.int w),.fz (.int j)]) (xE (x:=w % 12) (zD rfl rfl rfl)) ⟨hi,⟨lhi,fun x hx=>by have:=hhi x hx;omega⟩,rfl⟩ (by
     obtain⟨x,ex,hx⟩:=aG (i:=j) hlo j0 (by omega)
     refine⟨_,zVO hn ha (xs:=hi) (j:=j) (v:=x - 1) rfl (by omega) rfl (zD ((nI (x:=zA lo) (y:=.int j) rfl rfl).trans ex) rfl rfl) j0 (by omega),hi.set j.toNat (x - 1),⟨by rw[Th];exact lhi,zUZ hn ha (fun x hx=>by have:=hhi x hx;omega) (by omega)⟩,rfl⟩)
 rw[e1]
 unfold mI
 obtain⟨_,e2,h2,⟨l2,q2⟩,rfl⟩:=zN2 hn ha (t:=eB2 gEq (xW (eV 7) (eC (.int 12))) (eC (.int 1))) (f:=eZ 6 (eV 8) (vV (zY2 (eC (.int 1)) (eV 2)) (xW (wW (eV 7) (eC (.int 72))) (eC (.int 3))))) (g:=mE) (P:=fun ρ=>∃xs:List Int,Rng n 100 xs/\ρ=[.fz (.int c),.fz (.int n),.fz (.int a),.fz (.int m),.fz (zA lo),.fz (.lst (fr.map .int)),.ow (xs.map .int),.fz (.int w),.fz (.int j)]) (xE (x:=w % 12) (zD rfl rfl rfl)) ⟨h1,⟨l1,fun x hx=>by have:=q1 x hx;omega⟩,rfl⟩ (by
     refine⟨_,zVO hn ha (xs:=h1) (j:=j) (v:=2^a+w / 72 % 3) rfl (by omega) rfl (zD (zV0 (a:=a) rfl (by omega)) (zD (zD rfl rfl rfl) rfl rfl) rfl) j0 (by omega),h1.set j.toNat (2^a+w / 72 % 3),⟨by rw[Th];exact l1,zUZ hn ha (fun x hx=>by have:=q1 x hx;omega) (by omega)⟩,rfl⟩)
 rw[e2]
 unfold mE
 obtain⟨_,e3,h3,r3,rfl⟩:=zN2 hn ha (t:=eB2 gEq (xW (eV 7) (eC (.int 12))) (eC (.int 2))) (f:=eZ 6 (eV 8) (vV (zQk 6 (eV 8)) (zXo (eC (.int 10)) (eC (.int 17))))) (g:=gL) (P:=fun ρ=>∃xs:List Int,Rng n (10^60) xs/\ρ=[.fz (.int c),.fz (.int n),.fz (.int a),.fz (.int m),.fz (zA lo),.fz (.lst (fr.map .int)),.ow (xs.map .int),.fz (.int w),.fz (.int j)]) (xE (x:=w % 12) (zD rfl rfl rfl)) ⟨h2,⟨l2,fun x hx=>by have:=q2 x hx;exact⟨this.1,Yj this.2 (by decide +kernel)⟩⟩,rfl⟩ (by
     obtain⟨x,ex,hx⟩:=aG (i:=j) q2 j0 (by omega)
     refine⟨_,zVO hn ha (xs:=h2) (j:=j) (v:=x+10^(17:Int).toNat) rfl (by omega) rfl (zD (i:=x) (j:=10^(17:Int).toNat) ex (zD (C:=zUQ) (g:=fun i j=>i^j.toNat) (i:=10) (j:=17) rfl rfl (by decide)) rfl) j0 (by omega),h2.set j.toNat (x+10^(17:Int).toNat),⟨by rw[Th];exact l2,zUZ hn ha (fun x hx=>by have:=q2 x hx;exact⟨this.1,Yj this.2 (by decide +kernel)⟩) ?_⟩,rfl⟩
     have g0:(0:Int)<=10^(17:Int).toNat:=by decide +kernel
     exact⟨by omega,by omega⟩)
 rw[e3]
 unfold gL
 exact⟨lo,h3,rfl,⟨llo,fun x hx=>by have:=hlo x hx;exact⟨by omega,Yj (show x < 64 by omega) (by decide +kernel)⟩⟩,r3⟩
end
def bJ (n:Nat):Val->Prop | .nm w=>Wd w | .pl p=>Rng n (10^60) p | .mn i=>1<=i/\i<=999 | .nb i=>0<=i/\i < 10^60
def iA (n:Nat)(d:D):Prop:=∃k vs,d=wA k vs/\Key k (vs.map wD)/\∀v∈vs,bJ n v
theorem zLX:Key "put" ["name","place","place"]:=⟨by kernel_rfl,by kernel_rfl,⟨false,by kernel_rfl,fun h=>by cases h⟩,by decide⟩
theorem zN0:Key "move" ["name","place","place"]:=⟨by kernel_rfl,by kernel_rfl,⟨false,by kernel_rfl,fun h=>by cases h⟩,by decide⟩
theorem zNB:Key "take" ["name"]:=⟨by kernel_rfl,by kernel_rfl,⟨true,by kernel_rfl,fun h=>by kernel_rfl⟩,by decide⟩
theorem zPr:Key "where" ["name"]:=⟨by kernel_rfl,by kernel_rfl,⟨true,by kernel_rfl,fun h=>by kernel_rfl⟩,by decide⟩
theorem zQu:Key "names" []:=⟨by kernel_rfl,by kernel_rfl,⟨true,by kernel_rfl,fun h=>by kernel_rfl⟩,by decide⟩
theorem zTM:Key "sharing" []:=⟨by kernel_rfl,by kernel_rfl,⟨true,by kernel_rfl,fun h=>by kernel_rfl⟩,by decide⟩
theorem zSn:Key "inside" ["place","place"]:=⟨by kernel_rfl,by kernel_rfl,⟨false,by kernel_rfl,fun h=>by cases h⟩,by decide⟩
theorem zUx:Key "meeting" ["place","place"]:=⟨by kernel_rfl,by kernel_rfl,⟨false,by kernel_rfl,fun h=>by cases h⟩,by decide⟩
theorem zOa:Key "near" ["place","many"]:=⟨by kernel_rfl,by kernel_rfl,⟨false,by kernel_rfl,fun h=>by cases h⟩,by decide⟩
theorem zRA:Key "number" ["place"]:=⟨by kernel_rfl,by kernel_rfl,⟨false,by kernel_rfl,fun h=>by cases h⟩,by decide⟩
theorem zWo:Key "place" ["number"]:=⟨by kernel_rfl,by kernel_rfl,⟨false,by kernel_rfl,fun h=>by cases h⟩,by decide⟩
theorem zQd:Key "spans" ["place","place"]:=⟨by kernel_rfl,by kernel_rfl,⟨false,by kernel_rfl,fun h=>by cases h⟩,by decide⟩
theorem zPi:Key "cover" ["place","place","many"]:=⟨by kernel_rfl,by kernel_rfl,⟨false,by kernel_rfl,fun h=>by cases h⟩,by decide⟩
theorem zK8 {f:Ef}{ρ:List B}{i:Int}(h:f ρ=some (.int i)):xW f (zXo (eC (.int 10)) (eC (.int 60))) ρ=some (.int (i % 10^60)):=by
 have e:=zD (C:=fun _ j=>decide (0 < j)) (g:=fun i j=>i % j) (fa:=f) (fb:=zXo (eC (.int 10)) (eC (.int 60))) (ρ:=ρ) (i:=i) (j:=10^(60:Int).toNat) h (zD (C:=zUQ) (g:=fun i j=>i^j.toNat) (i:=10) (j:=60) rfl rfl (by decide)) (by decide +kernel)
 exact e
theorem zWH (i:Int):0<=i % 10^60/\i % 10^60 < 10^60:=⟨Rs _ (by decide +kernel),Rt _ (by decide +kernel)⟩
theorem zQR {f:Ef}{ρ:List B}{x k:Int}(h:f ρ=some (.int x)):eB2 gLt f (eC (.int k)) ρ=some (decide (x < k)):=by unfold eB2;rw[h];rfl
theorem zQF {n:Nat}{k:Str}(hk:Key k []):iA n (wA k []):=⟨k,[],rfl,hk,fun v h=>nomatch h⟩
theorem aK {n:Nat}{k:Str}{v:Val}(hk:Key k [wD v])(h:bJ n v):iA n (wA k [v]):=⟨k,[v],rfl,hk,fun u hu=>by rw[Wk.mp hu];exact h⟩
theorem zYD {n:Nat}{k:Str}{v u:Val}(hk:Key k [wD v,wD u])(h:bJ n v)(h':bJ n u):iA n (wA k [v,u]):=⟨k,[v,u],rfl,hk,fun z hz=>by
 rcases Qa.mp hz with rfl | hz
 · exact h
 · rw[Wk.mp hz];exact h'⟩
theorem zZ1 {n:Nat}{k:Str}{v u t:Val}(hk:Key k [wD v,wD u,wD t])(h:bJ n v)(h':bJ n u)(h'':bJ n t):iA n (wA k [v,u,t]):=⟨k,[v,u,t],rfl,hk,fun z hz=>by
 rcases Qa.mp hz with rfl | hz
 · exact h
 · rcases Qa.mp hz with rfl | hz
   · exact h'
   · rw[Wk.mp hz];exact h''⟩
section
variable {n:Nat} (hn:n=2∨n=3) {a:Nat} (ha:a<=6)
include hn ha
theorem zNG (c dr:Int)(dr0:0<=dr)(names:D)(w:Str)(hw:Wd w)(lo hi lo' hi':List Int)(r1:Rng n (10^60) lo)(r2:Rng n (10^60) hi)(r3:Rng n (10^60) lo')(r4:Rng n (10^60) hi')(m:Int)(hm:1<=m/\m<=999)(x4:B)(z:Int)(z0:0<=z)(z1:z < 20) :
   ∃d,(oB [.fz (.int c),.fz (.int n),.fz (.int a),.fz names,x4,.fz (.int dr),.fz (.str w),.fz (zA lo),.fz (zA hi),.fz (.tup [zA lo',zA hi']),.fz (.int m),.fz (.int z)]).bind xV=some d/\iA n d:=by
 generalize hρ:[B.fz (.int c),.fz (.int n),.fz (.int a),.fz names,x4,.fz (.int dr),.fz (.str w),.fz (zA lo),.fz (zA hi),.fz (.tup [zA lo',zA hi']),.fz (.int m),.fz (.int z)]=ρ
 have v0:eV 0 ρ=some (.int c):=by rw[←hρ];rfl
 have v1:eV 1 ρ=some (.int n):=by rw[←hρ];rfl
 have v2:eV 2 ρ=some (.int a):=by rw[←hρ];rfl
 have v5:eV 5 ρ=some (.int dr):=by rw[←hρ];rfl
 have v6:eV 6 ρ=some (.str w):=by rw[←hρ];rfl
 have v7:eV 7 ρ=some (zA lo):=by rw[←hρ];rfl
 have v8:eV 8 ρ=some (zA hi):=by rw[←hρ];rfl
 have v9:eV 9 ρ=some (.tup [zA lo',zA hi']):=by rw[←hρ];rfl
 have v10:eV 10 ρ=some (.int m):=by rw[←hρ];rfl
 have v11:eV 11 ρ=some (.int z):=by rw[←hρ];rfl
 clear hρ
 have k1:∀s:Str,eC (.str s) ρ=some (.str s):=fun s=>rfl
 have tup1:∀ {f:Ef} {x:D},f ρ=some x->yW (zY f zR) ρ=some (.tup [x]):=fun h=>aY (yZ h rfl) (by simp)
 have tup2:∀ {f g:Ef} {x y:D},f ρ=some x->g ρ=some y->yW (zY f (zY g zR)) ρ=some (.tup [x,y]):=fun h h'=>aY (yZ h (yZ h' rfl)) (by simp)
 have zLo:∀ {f g e:Ef} {x y u:D},f ρ=some x->g ρ=some y->e ρ=some u->yW (zY f (zY g (zY e zR))) ρ=some (.tup [x,y,u]):=fun h h' h''=>aY (yZ h (yZ h' (yZ h'' rfl))) (by simp)
 have tup4:∀ {f g e i:Ef} {x y u v:D},f ρ=some x->g ρ=some y->e ρ=some u->i ρ=some v->yW (zY f (zY g (zY e (zY i zR)))) ρ=some (.tup [x,y,u,v]):=fun h h' h'' h3=>aY (yZ h (yZ h' (yZ h'' (yZ h3 rfl)))) (by simp)
 have pair:∀ {f g e:Ef} {x y:D} {i:Int},f ρ=some x->g ρ=some y->e ρ=some (.int i)->i=0∨i=1->eIx (eL (yA (zY f (zY g zR)))) e ρ=some (if i=0 then x else y):=fun {f g e x y i} h h' h'' hi=>by
   rw[nI (x:=.lst [x,y]) (y:=.int i) (dN (zT9 (yZ h (yZ h' rfl)) (by simp))) h'']
   rcases hi with rfl | rfl<;>rfl
 have wide:∀ {e:Ef} {i:Int},e ρ=some (.int i)->i=0∨i=1->∃p,eIx (eV 9) e ρ=some (zA p)/\Rng n (10^60) p:=fun {e i} h hi=>by
   rw[nI v9 h]
   rcases hi with rfl | rfl
   · exact⟨lo',rfl,r3⟩
   · exact⟨hi',rfl,r4⟩
 have e8:wW (xW (wW (eV 5) (eC (.int 640))) (eC (.int 8))) (eC (.int 7)) ρ=some (.int (dr / 640 % 8 / 7)):=zD (zD (zD v5 rfl rfl) rfl rfl) rfl rfl
 have e5:wW (xW (wW (eV 5) (eC (.int 640))) (eC (.int 5))) (eC (.int 4)) ρ=some (.int (dr / 640 % 5 / 4)):=zD (zD (zD v5 rfl rfl) rfl rfl) rfl rfl
 unfold oB
 by_cases h6:z < 7
 · exact⟨_,rX ((zQR v11).trans (by rw[Qi h6])) (tup4 (k1 _) v6 v7 v8),zZ1 (v:=.nm w) (u:=.pl lo) (t:=.pl hi) zLX hw r1 r2⟩
 refine(fun⟨d,e,h⟩=>⟨d,rR ((zQR v11).trans (by rw[Qz h6])) e,h⟩) (?_:∃d,(oC ρ).bind xV=some d/\iA n d)
 unfold oC
 by_cases h7:z < 9
 · exact⟨_,rX ((zQR v11).trans (by rw[Qi h7])) (tup4 (k1 _) v6 v7 v8),zZ1 (v:=.nm w) (u:=.pl lo) (t:=.pl hi) zN0 hw r1 r2⟩
 refine(fun⟨d,e,h⟩=>⟨d,rR ((zQR v11).trans (by rw[Qz h7])) e,h⟩) (?_:∃d,(oI ρ).bind xV=some d/\iA n d)
 unfold oI
 by_cases h8:(decide (z=9)||decide (z=10))=true
 · have hz:z - 9=0∨z - 9=1:=by simp at h8;omega
   refine⟨_,rX ((zYh (xE v11) (xE v11)).trans (by rw[h8])) (pair (tup2 (k1 _) v6) (tup2 (k1 _) v6) (zD v11 rfl rfl) hz),?_⟩
   rcases hz with h | h
   · rw[Qb h];exact aK (v:=.nm w) zNB hw
   · rw[Ws (by omega)];exact aK (v:=.nm w) zPr hw
 rw[Ou] at h8
 refine(fun⟨d,e,h⟩=>⟨d,rR ((zYh (xE v11) (xE v11)).trans (by rw[h8])) e,h⟩) (?_:∃d,(nZ ρ).bind xV=some d/\iA n d)
 unfold nZ
 by_cases h9:(decide (z=11)||decide (z=12))=true
 · have hz:z - 11=0∨z - 11=1:=by simp at h9;omega
   refine⟨_,rX ((zYh (xE v11) (xE v11)).trans (by rw[h9])) (pair (tup1 (k1 _)) (tup1 (k1 _)) (zD v11 rfl rfl) hz),?_⟩
   rcases hz with h | h
   · rw[Qb h];exact zQF zQu
   · rw[Ws (by omega)];exact zQF zTM
 rw[Ou] at h9
 refine(fun⟨d,e,h⟩=>⟨d,rR ((zYh (xE v11) (xE v11)).trans (by rw[h9])) e,h⟩) (?_:∃d,(pZ ρ).bind xV=some d/\iA n d)
 unfold pZ
 by_cases h10:(decide (z=13)||decide (z=14))=true
 · have hz:z - 13=0∨z - 13=1:=by simp at h10;omega
   have cat:∀s:Str,iK (yW (zY (eC (.str s)) zR)) (eV 9) ρ=some (.tup [.str s,zA lo',zA hi']):=fun s=>by
     unfold iK
     rw[tup1 (k1 s),Qw,v9]
     rfl
   refine⟨_,rX ((zYh (xE v11) (xE v11)).trans (by rw[h10])) (pair (cat _) (cat _) (zD v11 rfl rfl) hz),?_⟩
   rcases hz with h | h
   · rw[Qb h];exact zYD (v:=.pl lo') (u:=.pl hi') zSn r3 r4
   · rw[Ws (by omega)];exact zYD (v:=.pl lo') (u:=.pl hi') zUx r3 r4
 rw[Ou] at h10
 refine(fun⟨d,e,h⟩=>⟨d,rR ((zYh (xE v11) (xE v11)).trans (by rw[h10])) e,h⟩) (?_:∃d,(pW ρ).bind xV=some d/\iA n d)
 have i8:dr / 640 % 8 / 7=0∨dr / 640 % 8 / 7=1:=by omega
 have i5:dr / 640 % 5 / 4=0∨dr / 640 % 5 / 4=1:=by omega
 obtain⟨p,ep,rp⟩:=wide e8 i8
 unfold pW
 by_cases h11:z=15
 · exact⟨_,rX ((xE v11).trans (by rw[Qi h11])) (zLo (k1 _) ep v10),zYD (v:=.pl p) (u:=.mn m) zOa rp hm⟩
 refine(fun⟨d,e,h⟩=>⟨d,rR ((xE v11).trans (by rw[Qz h11])) e,h⟩) (?_:∃d,(pU ρ).bind xV=some d/\iA n d)
 unfold pU
 by_cases h12:z=16
 · exact⟨_,rX ((xE v11).trans (by rw[Qi h12])) (tup2 (k1 _) ep),aK (v:=.pl p) zRA rp⟩
 refine(fun⟨d,e,h⟩=>⟨d,rR ((xE v11).trans (by rw[Qz h12])) e,h⟩) (?_:∃d,(pN ρ).bind xV=some d/\iA n d)
 unfold pN
 by_cases h13:z=17
 · have hna:n*a<=1000:=by
     rcases hn with rfl | rfl<;>omega
   have ena:sJ (eV 1) (eV 2) ρ=some (.int ((n*a:Nat):Nat)):=by
     have e:=zD (C:=zZM) (g:=fun i j=>i*j) (i:=(n:Nat)) (j:=(a:Nat)) v1 v2 (rV (by omega) (by omega))
     rw[←Int.natCast_mul] at e
     exact e
   have pos:(0:Int) < 2^(n*a)+2:=by
     have:(0:Int) < 2^(n*a):=Int.pow_pos (by decide)
     omega
   have small:(2:Int)^(n*a)+2<=10^60:=by
     have h18:n*a<=18:=by rcases hn with rfl | rfl<;>omega
     have:(2:Int)^(n*a)<=2^18:=by
       have h:=Um (show 0 < 2 by decide) h18
       exact_mod_cast h
     have:(2:Int)^18+2<=10^60:=by decide +kernel
     omega
   have g1:xW (eV 0) (vV (zY2 (eC (.int 1)) (sJ (eV 1) (eV 2))) (eC (.int 2))) ρ=some (.int (c % (2^(n*a)+2))):=zD v0 (zD (zV0 ena hna) rfl rfl) (Qi pos)
   have g2:=zK8 v0
   refine⟨_,rX ((xE v11).trans (by rw[Qi h13])) (tup2 (k1 _) (pair g1 g2 e5 i5)),?_⟩
   rcases i5 with h | h
   · rw[Qb h]
     exact aK (v:=.nb (c % (2^(n*a)+2))) zWo ⟨Rs _ (by omega),Yj (Rt _ pos) small⟩
   · rw[Ws (by omega)]
     exact aK (v:=.nb (c % 10^60)) zWo (zWH c)
 refine(fun⟨d,e,h⟩=>⟨d,rR ((xE v11).trans (by rw[Qz h13])) e,h⟩) (?_:∃d,(pY ρ).bind xV=some d/\iA n d)
 unfold pY
 by_cases h14:z=18
 · exact⟨_,rX ((xE v11).trans (by rw[Qi h14])) (zLo (k1 _) v7 v8),zYD (v:=.pl lo) (u:=.pl hi) zQd r1 r2⟩
 refine(fun⟨d,e,h⟩=>⟨d,rR ((xE v11).trans (by rw[Qz h14])) e,h⟩) (?_:∃d,(lW ρ).bind xV=some d/\iA n d)
 unfold lW
 exact⟨_,lO.trans (tup4 (k1 _) v7 v8 v10),zZ1 (v:=.pl lo) (u:=.pl hi) (t:=.mn m) zPi r1 r2 hm⟩
theorem zLh (c:Int)(ws:List Str)(h8:ws.length=8)(hw:∀w∈ws,Wd w):∃d,cK [.int c,.int n,.int a,.lst (ws.map .str),.int 4]=some d/\iA n d:=by
 have em:=fU c 48271 (by decide) (by decide)
 have dr0:=zV4 c 48271
 generalize zZH c 48271=dr at em dr0
 obtain⟨w,hwm,ew⟩:=zUV (xs:=ws) (i:=dr / 20 % 8) (by omega) (by omega)
 obtain⟨lo,hi,eb,r1,r2⟩:=zN5 hn ha c 4 (by decide) (by decide)
 obtain⟨m2,em2,m20,m21⟩:∃m2:Int,vV (vV (eV 4) (eC (.int 2))) (sJ (eC (.int 3)) (sS (vI (eB2 gLt (eV 2) (rO (eC (.int 6)) (eV 1)))))) [.fz (.int c),.fz (.int n),.fz (.int a),.fz (.lst (ws.map .str)),.fz (.int 4),.fz (.int dr),.fz (.str w),.fz (zA lo),.fz (zA hi),.no,.no,.no]=some (.int m2)/\0 < m2/\m2<=100:=by
   have t:sS (vI (eB2 gLt (eV 2) (rO (eC (.int 6)) (eV 1)))) [.fz (.int c),.fz (.int n),.fz (.int a),.fz (.lst (ws.map .str)),.fz (.int 4),.fz (.int dr),.fz (.str w),.fz (zA lo),.fz (zA hi),.no,.no,.no]=some (.int (if (a:Int) < 6 - (n:Nat) then 1 else 0)):=by
     show zMe (.bl (decide ((a:Int) < 6 - (n:Nat))))=_
     by_cases h:(a:Int) < 6 - (n:Nat)
     · rw[Qi h,Qb h];rfl
     · rw[Qz h,Ws h];rfl
   refine⟨4+2+3*(if (a:Int) < 6 - (n:Nat) then 1 else 0),zD (i:=4+2) (zD rfl rfl rfl) (zD rfl t (rV (by decide) (by decide))) rfl,?_,?_⟩<;>split<;>decide
 obtain⟨lo',hi',eb',r3,r4⟩:=zN5 hn ha c m2 m20 m21
 obtain⟨m,emm,hm⟩:∃m:Int,eIx (eL (yA (zY (vV (eC (.int 1)) (xW (wW (eV 5) (eC (.int 160))) (eC (.int 4)))) (zY (vV (eC (.int 1)) (xW (wW (eV 5) (eC (.int 160))) (eC (.int 999)))) (zY (eC (.int 999)) zR))))) (xW (wW (eV 5) (eC (.int 640))) (eC (.int 3))) [.fz (.int c),.fz (.int n),.fz (.int a),.fz (.lst (ws.map .str)),.fz (.int 4),.fz (.int dr),.fz (.str w),.fz (zA lo),.fz (zA hi),.fz (.tup [zA lo',zA hi']),.no,.no]=some (.int m)/\1<=m/\m<=999:=by
   obtain⟨m,e,h⟩:=aG (xs:=[1+dr / 160 % 4,1+dr / 160 % 999,999]) (P:=fun m=>1<=m/\m<=999) (i:=dr / 640 % 3) (fun x hx=>by
     simp only[Qa,Wi,Rr] at hx
     rcases hx with rfl | rfl | rfl<;>omega) (by omega) (by show _ < (3:Int);omega)
   refine⟨m,?_,h⟩
   rw[nI (x:=.lst [.int (1+dr / 160 % 4),.int (1+dr / 160 % 999),.int 999]) (y:=.int (dr / 640 % 3)) (dN (zT9 (yZ (zD rfl (zD (zD rfl rfl rfl) rfl rfl) rfl) (yZ (zD rfl (zD (zD rfl rfl rfl) rfl rfl) rfl) rfl)) (by simp))) (zD (zD rfl rfl rfl) rfl rfl)]
   exact e
 obtain⟨d,ed,hd⟩:=zNG hn ha c dr dr0 (.lst (ws.map .str)) w (hw w hwm) lo hi lo' hi' r1 r2 r3 r4 m hm (.fz (.int 4)) (dr % 20) (by omega) (by omega)
 refine⟨d,?_,hd⟩
 show(oN [.fz (.int c),.fz (.int n),.fz (.int a),.fz (.lst (ws.map .str)),.fz (.int 4),.no,.no,.no,.no,.no,.no,.no]).bind xV=_
 unfold oN
 refine vN ((vJ rfl rfl).trans em) ?_
 dsimp only[List.set]
 unfold kJ
 refine vN (d:=.str w) (by
   rw[nI (x:=.lst (ws.map .str)) (y:=.int (dr / 20 % 8)) rfl (zD (zD rfl rfl rfl) (by
     show some (D.int ((ws.map D.str).length:Nat))=some (.int 8)
     rw[Qy,h8]
     rfl) rfl)]
   show atI (ws.map D.str) _=_
   rw[eJ,ew]
   rfl) ?_
 dsimp only[List.set]
 unfold iU
 refine xZ (ρ':=[.fz (.int c),.fz (.int n),.fz (.int a),.fz (.lst (ws.map .str)),.fz (.int 4),.fz (.int dr),.fz (.str w),.fz (zA lo),.fz (zA hi),.no,.no,.no]) (by
   unfold mO
   rw[(zK0 rfl rfl rfl rfl).trans eb]
   rfl) ?_
 unfold jP
 refine vN ((zK0 rfl rfl rfl em2).trans eb') ?_
 dsimp only[List.set]
 unfold jO
 refine vN emm ?_
 dsimp only[List.set]
 unfold jJ
 refine vN (d:=.int (dr % 20)) (zD rfl rfl rfl) ?_
 exact ed
end
section
variable {n:Nat} (hn:n=2∨n=3)
include hn
theorem zPF {b:Int}{p:List Int}(h:Rng n b p):(∃x y,p=[x,y]/\n=2)∨∃x y z,p=[x,y,z]/\n=3:=by
 obtain⟨hl,_⟩:=h
 match p,hl with
 | [x,y],hl=>exact .inl ⟨x,y,rfl,hl.symm⟩
 | [x,y,z],hl=>exact .inr ⟨x,y,z,rfl,hl.symm⟩
 | [],hl=>simp at hl;omega
 | [_],hl=>simp at hl;omega
 | _::_::_::_::_,hl=>simp at hl;omega
theorem zOh (p:List Int)(h:Rng n (10^60) p)(f j:Int)(hf:0<=f/\f < 10^60)(j0:0<=j)(j1:j < n)(x0 x1 x2 x3 x4:B):∃p',iK (iK (cU (eV 5) oNo (tT (eV 6))) (yW (zY (eV 7) zR))) (cU (eV 5) (tT (vV (eV 6) (eC (.int 1)))) oNo) [x0,x1,x2,x3,x4,.fz (zA p),.fz (.int j),.fz (.int f)]=some (zA p')/\Rng n (10^60) p':=by
 have hp:=h.2
 rcases zPF hn h with⟨x,y,rfl,rfl⟩ | ⟨x,y,z,rfl,rfl⟩
 · have hx:=hp x (by simp)
   have hy:=hp y (by simp)
   have c:j=0∨j=1:=by omega
   rcases c with rfl | rfl
   · exact⟨[f,y],rfl,rfl,fun q hq=>by simp at hq;rcases hq with rfl | rfl<;>omega⟩
   · exact⟨[x,f],rfl,rfl,fun q hq=>by simp at hq;rcases hq with rfl | rfl<;>omega⟩
 · have hx:=hp x (by simp)
   have hy:=hp y (by simp)
   have hz:=hp z (by simp)
   have c:j=0∨j=1∨j=2:=by omega
   rcases c with rfl | rfl | rfl
   · exact⟨[f,y,z],rfl,rfl,fun q hq=>by simp at hq;rcases hq with rfl | rfl | rfl<;>omega⟩
   · exact⟨[x,f,z],rfl,rfl,fun q hq=>by simp at hq;rcases hq with rfl | rfl | rfl<;>omega⟩
   · exact⟨[x,y,f],rfl,rfl,fun q hq=>by simp at hq;rcases hq with rfl | rfl | rfl<;>omega⟩
theorem zMw (x0:B)(c r:Int)(hc:Builtin.Int.intBits c<=1048576)(ws:List D)(hl:ws.length<=100)(i:Nat)(hi:i < 10)(v:Val)(hv:bJ n v)(x6 x7:B) :
   ∃u y6 y7,wD u=wD v/\bJ n u/\vH [x0,.fz (.int c),.fz (.int r),.ow ws,.fz (.int (i:Nat)),.fz (wO v),x6,x7]=some (.nx [x0,.fz (.int c),.fz (.int r),.ow (ws++[wO u]),.fz (.int (i:Nat)),.fz (wO u),y6,y7]):=by
 have plain:rP (tB1 (pI rQ (eV 5))) (eB2 gEq (xW (wW (eV 2) (eC (.int 3))) (eC (.int 3))) (eC (.int 1))) [x0,.fz (.int c),.fz (.int r),.ow ws,.fz (.int (i:Nat)),.fz (wO v),x6,x7]=some false->∃u y6 y7,wD u=wD v/\bJ n u/\vH [x0,.fz (.int c),.fz (.int r),.ow ws,.fz (.int (i:Nat)),.fz (wO v),x6,x7]=some (.nx [x0,.fz (.int c),.fz (.int r),.ow (ws++[wO u]),.fz (.int (i:Nat)),.fz (wO u),y6,y7]):=fun t=>by
   refine⟨v,x6,x7,rfl,hv,?_⟩
   unfold vH
   rw[yL ((sN t).trans (by rw[Ws Qj]))]
   unfold iW
   rw[qH (d:=wO v) (ds:=ws) rfl rfl (by omega)]
   rfl
 cases v with
 | nm w=>exact plain rfl
 | mn w=>exact plain rfl
 | nb w=>exact plain rfl
 | pl p =>
   have hv:Rng n (10^60) p:=hv
   have t:rP (tB1 (pI rQ (eV 5))) (eB2 gEq (xW (wW (eV 2) (eC (.int 3))) (eC (.int 3))) (eC (.int 1))) [x0,.fz (.int c),.fz (.int r),.ow ws,.fz (.int (i:Nat)),.fz (zA p),x6,x7]=some (decide (r / 3 % 3=1)):=by
     unfold rP
     rw[show tB1 (pI rQ (eV 5)) [x0,.fz (.int c),.fz (.int r),.ow ws,.fz (.int (i:Nat)),.fz (zA p),x6,x7]=some true from rfl,Qw,Qb rfl]
     exact xE (zD (zD rfl rfl rfl) rfl rfl)
   by_cases hr:r / 3 % 3=1
   · rw[Qi hr] at t
     have hb:Builtin.Int.intBits (c+(i:Nat))<=2097152:=zMZ hc (by omega) (by omega)
     have ef:∀x7:B,xW (zMT (vV (eV 1) (eV 4)) (eC (.int 2718281828459045235360287471352662497757))) (zXo (eC (.int 10)) (eC (.int 60))) [x0,.fz (.int c),.fz (.int r),.ow ws,.fz (.int (i:Nat)),.fz (zA p),.fz (.int ((r / 9+(i:Nat)) % (n:Nat))),x7]=some (.int ((c+(i:Nat))*2718281828459045235360287471352662497757 % 10^60)):=fun x7=>zK8 (zD (C:=zRg) (g:=fun i j=>i*j) (i:=c+(i:Nat)) (j:=2718281828459045235360287471352662497757) (zD rfl rfl rfl) rfl (by
       unfold zRg
       rw[Qi hb,Qi (show Builtin.Int.intBits 2718281828459045235360287471352662497757<=2097152 by decide +kernel)]
       rfl))
     have hf:=zWH ((c+(i:Nat))*2718281828459045235360287471352662497757)
     generalize(c+(i:Nat))*2718281828459045235360287471352662497757 % 10^60=f at ef hf
     have j0:0<=(r / 9+(i:Nat)) % (n:Nat):=Rs _ (by omega)
     have j1:(r / 9+(i:Nat)) % (n:Nat) < n:=Rt _ (by omega)
     have ej:xW (vV (wW (eV 2) (eC (.int 9))) (eV 4)) (xB (eV 5)) [x0,.fz (.int c),.fz (.int r),.ow ws,.fz (.int (i:Nat)),.fz (zA p),x6,x7]=some (.int ((r / 9+(i:Nat)) % (n:Nat))):=zD (zD (zD rfl rfl rfl) rfl rfl) (by
       show some (D.int ((p.map D.int).length:Nat))=_
       rw[Qy,hv.1]) (Qi (by omega))
     generalize(r / 9+(i:Nat)) % (n:Nat)=j at ef j0 j1 ej
     obtain⟨p',ep,hp'⟩:=zOh hn p hv f j hf j0 j1 x0 (.fz (.int c)) (.fz (.int r)) (.ow ws) (.fz (.int (i:Nat)))
     refine⟨.pl p',.fz (.int j),.fz (.int f),rfl,hp',?_⟩
     show vH [x0,.fz (.int c),.fz (.int r),.ow ws,.fz (.int (i:Nat)),.fz (zA p),x6,x7]=_
     unfold vH
     rw[yL (ρ':=[x0,.fz (.int c),.fz (.int r),.ow ws,.fz (.int (i:Nat)),.fz (zA p'),.fz (.int j),.fz (.int f)]) ((sN t).trans (by
       rw[Qb rfl,rS ej]
       dsimp only[List.set]
       rw[rS (ef x7)]
       dsimp only[List.set]
       unfold yP
       rw[ep]
       rfl))]
     unfold iW
     rw[qH (d:=zA p') (ds:=ws) rfl rfl (by omega)]
     rfl
   · exact plain (by rw[Qz hr] at t;exact t)
theorem zUi (x0:B)(c r:Int)(hc:Builtin.Int.intBits c<=1048576):∀(vs:List Val) (ws:List Val) (i:Nat) (x4 x5 x6 x7:B) (k:D),(∀v∈vs,bJ n v)->i+vs.length<=10->ws.length+vs.length<=10 ->
   ∃us y4 y5 y6 y7,us.map wD=vs.map wD/\(∀v∈us,bJ n v)/\nH (gT (zL (gN 4) (zL (gN 5) xP))) vH (((vs.map wO).zipIdx i).map fun q=>D.tup [.int (q.2:Nat),q.1]) [x0,.fz (.int c),.fz (.int r),.ow (k::ws.map wO),x4,x5,x6,x7]=some (.nx [x0,.fz (.int c),.fz (.int r),.ow (k::(ws++us).map wO),y4,y5,y6,y7])
 | [],ws,i,x4,x5,x6,x7,k,_,_,_=>⟨[],x4,x5,x6,x7,rfl,fun v h=>(nomatch h),by rw[Er];rfl⟩
 | v::t,ws,i,x4,x5,x6,x7,k,h,hl,hw=>by
   rw[Qo] at hl hw
   obtain⟨u,y6,y7,hk,hu,e⟩:=zMw hn x0 c r hc (k::ws.map wO) (by rw[Qo,Qy];omega) i (by omega) v (h v Qh) x6 x7
   obtain⟨us,z4,z5,z6,z7,hks,hus,es⟩:=zUi x0 c r hc t (ws++[u]) (i+1) (.fz (.int (i:Nat))) (.fz (wO u)) y6 y7 k (fun q hq=>h q (Qd _ hq)) (by omega) (by rw[Wq,Ei];omega)
   refine⟨u::us,z4,z5,z6,z7,by rw[Qp,Qp,hk,hks],fun q hq=>by
     rcases Qa.mp hq with rfl | hq
     · exact hu
     · exact hus q hq,?_⟩
   rw[Qp,Ue,Qp,oU (ρ1:=[x0,.fz (.int c),.fz (.int r),.ow (k::ws.map wO),.fz (.int (i:Nat)),.fz (wO v),x6,x7]) rfl e]
   rw[Ek,Re,Wy] at es
   exact es
theorem zJT (d:D)(h:iA n d)(c r:Int)(hc:Builtin.Int.intBits c<=1048576):∃d',zZ6 [d,.int c,.int r]=some d'/\iA n d':=by
 obtain⟨k,vs,rfl,hk,hv⟩:=h
 have hl:=zZP hk
 obtain⟨us,y4,y5,y6,y7,hks,hus,e⟩:=zUi hn (.fz (wA k vs)) c r hc vs [] 0 .no .no .no .no (.str k) hv (by omega) (by simp;omega)
 refine⟨wA k us,?_,k,us,rfl,by rw[hks];exact hk,hus⟩
 show(mH [.fz (wA k vs),.fz (.int c),.fz (.int r),.no,.no,.no,.no,.no]).bind xV=_
 unfold mH
 refine xZ (ρ':=[.fz (wA k vs),.fz (.int c),.fz (.int r),.ow [.str k],.no,.no,.no,.no]) (by unfold uT;rw[zRt];rfl) ?_
 unfold hU
 refine xZ (ρ':=[.fz (wA k vs),.fz (.int c),.fz (.int r),.ow (.str k::us.map wO),y4,y5,y6,y7]) (by
   unfold qO
   rw[show bF (iT (cU (eV 0) (tT (eC (.int 1))) oNo)) [.fz (wA k vs),.fz (.int c),.fz (.int r),.ow [.str k],.no,.no,.no,.no]=some (numbered (vs.map wO)) from by
     show some (numbered (zZS (.str k::vs.map wO) (some 1) none))=_
     rw[zKl _ _ (by rw[Qy];exact hl)],Qw]
   rw[Wn] at e
   exact e) ?_
 rfl
theorem zPC (v:Val)(h:bJ n v):∃u,wD u=wD v/\fY n u/\tH [wO v]=some (wO u):=by
 cases v with
 | nm w=>exact⟨.nm w,rfl,h,rfl⟩
 | mn w=>exact⟨.mn w,rfl,h,rfl⟩
 | nb w=>exact⟨.nb w,rfl,h,rfl⟩
 | pl p =>
   have h:Rng n (10^60) p:=h
   have p0:(0:Int) < 10^60:=by decide +kernel
   obtain⟨q,e,hl,hq⟩:=eG (α:=Int) (elt:=zLe (eC (.int 0)) (eV 0)) (f:=D.int) (Q:=fun x=>0<=x/\x < 10^60) (rest:=[]) (p.map D.int) .no [] (fun d hd=>by
     obtain⟨x,hx,rfl⟩:=Wa.mp hd
     have:=h.2 x hx
     exact⟨if x > 0 then x else 0,rfl,by split<;>omega,by split<;>omega⟩)
   rw[Wn] at e
   rw[Qy,h.1] at hl
   refine⟨.pl q,rfl,⟨hl,hq⟩,?_⟩
   show(qY [.fz (zA p)]).bind xV=some (zA q)
   unfold qY
   refine rX rfl ?_
   unfold wX
   rw[dN (ds:=q.map D.int) (by
     unfold yJ
     rw[show iT (eV 0) [.fz (zA p)]=some (p.map D.int) from rfl,Qw,rB (by rw[Qy,h.1];omega),Qw]
     exact e)]
   rfl
theorem zLO (d:D)(h:iA n d):∃k vs,cT [d]=some (wA k vs)/\Key k (vs.map wD)/\∀v∈vs,fY n v:=by
 obtain⟨k,vs,rfl,hk,hv⟩:=h
 have hl:=zZP hk
 obtain⟨b,eb,hb⟩:=hk.shut
 have t:eB2 zUm (eIx (eV 0) (eC (.int 0))) (eL (yA (zY (eC (.str "names")) (zY (eC (.str "sharing")) (zY (eC (.str "take")) (zY (eC (.str "where")) zR)))))) [.fz (wA k vs)]=some b:=by
   unfold eB2
   rw[zNl,Qw]
   exact eb
 cases b with
 | true =>
   refine⟨k,vs,?_,hk,fun v hvm=>?_⟩
   · show(tG [.fz (wA k vs)]).bind xV=_
     unfold tG
     exact rX t rfl
   · have q:=Qv.mp (hb rfl) (wD v) (Wa.mpr ⟨v,hvm,rfl⟩)
     have r:=hv v hvm
     cases v with
     | nm w=>exact r
     | pl p=>exact absurd q (by show ¬((("place":Str)=="name")=true);decide +kernel)
     | mn w=>exact r
     | nb w=>exact r
 | false =>
   have go:∀(l:List Val) (x0:B) (acc:List D),(∀v∈l,bJ n v)->∃us:List Val,us.map wD=l.map wD/\(∀v∈us,fY n v)/\uF (gN 0) tOK (zO 1 tH (zY (eV 0) zR)) (l.map wO) [x0] acc=some (acc++us.map wO):=by
     intro l
     induction l with
     | nil=>intro x0 acc _;exact⟨[],rfl,fun v h=>(nomatch h),by simp[uF]⟩
     | cons v r ih =>
       intro x0 acc hh
       obtain⟨u,ku,gu,eu⟩:=zPC hn v (hh v Qh)
       obtain⟨us,kus,gus,eus⟩:=ih (.fz (wO v)) (acc++[wO u]) fun q hq=>hh q (Qd _ hq)
       refine⟨u::us,by rw[Qp,Qp,ku,kus],fun q hq=>by
         rcases Qa.mp hq with rfl | hq
         · exact gu
         · exact gus q hq,?_⟩
       rw[Qp]
       unfold uF
       have e1:gN 0 (wO v) [x0]=some [.fz (wO v)]:=rfl
       have e2:tOK [.fz (wO v)]=some true:=rfl
       have e3:zO 1 tH (zY (eV 0) zR) [.fz (wO v)]=some (wO u):=(pA rfl).trans eu
       rw[e1,Qw,e2,Qw,Qb rfl,e3,Qw,eus,Ek,Re,Qp]
   obtain⟨us,kus,gus,e⟩:=go vs (.fz (.str k)) [.str k] hv
   refine⟨k,us,?_,by rw[kus];exact hk,gus⟩
   show(tG [.fz (wA k vs)]).bind xV=_
   unfold tG
   refine rR t ?_
   unfold bZ
   refine lO.trans ?_
   unfold wX
   rw[dN (ds:=.str k::us.map wO) (by
     unfold yJ
     rw[show iT (eV 0) [.fz (wA k vs)]=some (.str k::vs.map wO) from rfl,Qw,rB (by rw[Qo,Qy];omega),Qw]
     unfold uF
     have e1:gN 0 (D.str k) (upB 1 [] [.fz (wA k vs)])=some [.fz (.str k)]:=rfl
     have e2:tOK [.fz (.str k)]=some true:=rfl
     have e3:zO 1 tH (zY (eV 0) zR) [.fz (.str k)]=some (.str k):=rfl
     rw[e1,Qw,e2,Qw,Qb rfl,e3,Qw]
     exact e)]
   rfl
end
def zYU (n:Nat):List (Nat×Nat):=(List.range (11 - 2*n)).flatMap fun a=>(List.range 9).map fun b=>(a,b+4)
def zHJ (a:Nat):Str:=⟨(if a < 10 then [48+a] else [49,48+(a - 10)]).toArray⟩
def mR (a b:Nat):List Str:=["floor",zHJ a,zHJ b]
def vF (a b:Nat):Str:=Str.join " " (mR a b)
def fG (a b:Nat):Bool:=decide ((vF a b).length<=30) && !(vF a b).cps.toList.contains 10&&(mR a b).all fun w => !w.cps.toList.contains 32
theorem zNr {n a b:Nat}(ha:a < 11 - 2*n)(h4:4<=b)(hb:b < 13):(a,b)∈zYU n:=Ts.mpr ⟨a,Rz.mpr ha,Wa.mpr ⟨b - 4,Rz.mpr (by omega),by rw[show b - 4+4=b by omega]⟩⟩
theorem zH5:((zYU 2).all fun q=>fG q.1 q.2)=true:=by kernel_rfl
def lv0 (n:Nat):List (Nat×Nat):=(List.range (11 - 2*n)).map fun a=>(a,5)
theorem zKm (x0 x1 x2 x3 x4 x6 x7 x8 x9 x10 x11 x12 x13:B):(lv0 2).map (fun q=>xX (xX (eC (.str "floor ")) (sB (eV 5))) (eC (.str " 5")) [x0,x1,x2,x3,x4,.fz (.int (q.1:Nat)),x6,x7,x8,x9,x10,x11,x12,x13])=(lv0 2).map fun q=>some (.str (vF q.1 q.2)):=by kernel_rfl
theorem zLW {n a:Nat}(hn:n=2∨n=3)(ha:a < 11 - 2*n):(a,5)∈lv0 2:=Wa.mpr ⟨a,Rz.mpr (by omega),rfl⟩
theorem zKe (r:Int):(zYU 2).map (fun q=>qX [.lst ((mR q.1 q.2).map .str),.int 2,.int r])=(zYU 2).map fun q=>some (.tup [.int (q.1:Nat),.int (q.2:Nat)]):=by kernel_rfl
theorem zIK (r:Int):(zYU 3).map (fun q=>qX [.lst ((mR q.1 q.2).map .str),.int 3,.int r])=(zYU 3).map fun q=>some (.tup [.int (q.1:Nat),.int (q.2:Nat)]):=by kernel_rfl
theorem zMk {q:Nat×Nat}(h:q∈zYU 3):q∈zYU 2:=by
 revert h
 revert q
 decide +kernel
section
variable {n:Nat} (hn:n=2∨n=3) {a b:Nat} (hq:(a,b)∈zYU n)
include hn hq
theorem lv2:(a,b)∈zYU 2:=by
 rcases hn with rfl | rfl
 · exact hq
 · exact zMk hq
theorem zZ7:fG a b=true:=by have h:=Qv.mp zH5 _ (lv2 hn hq);exact h
theorem zRE (r:Int):qX [.lst ((mR a b).map .str),.int n,.int r]=some (.tup [.int (a:Nat),.int (b:Nat)]):=by
 rcases hn with rfl | rfl
 · have h:=mY (zKe r) hq;exact h
 · have h:=mY (zIK r) hq;exact h
theorem zOG:(vF a b).length<=30:=by
 have h:=zZ7 hn hq
 unfold fG at h
 rw[Wt,Wt] at h
 exact Ew h.1.1
theorem zRM:wK 10 (vF a b):=by
 have h:=zZ7 hn hq
 unfold fG at h
 rw[Wt,Wt] at h
 have h:=h.1.2
 intro z
 rw[Rl.mpr z] at h
 exact absurd h (by decide)
theorem zTt:lM (.str (vF a b)) (.str " ")=some ((mR a b).map .str):=by
 have h:=zZ7 hn hq
 unfold fG at h
 rw[Wt,Wt] at h
 have hw:∀w∈mR a b,wK 32 w:=fun w hw z=>by
   have q:=Qv.mp h.2 w hw
   rw[Rl.mpr z] at q
   exact absurd q (by decide)
 have e:Txt.split (vF a b) ⟨#[32]⟩=mR a b:=by
   unfold vF
   rw[dH]
   exact qA 32 (mR a b) hw (by unfold mR;exact Tq _ _)
 have hl:=Ew h.1.1
 rw[dH]
 show(if 1<=(⟨#[32]⟩:Str).length/\(vF a b).length<=100000 then some ((Txt.split (vF a b) ⟨#[32]⟩).map D.str) else none)=_
 rw[Qb ⟨Ql 1,by omega⟩,e]
end
theorem zS8 {n:Nat}(hn:n=2∨n=3){a:Nat}(ha:a < 11 - 2*n)(x0 x1 x2 x3 x4 x6 x7 x8 x9 x10 x11 x12 x13:B):xX (xX (eC (.str "floor ")) (sB (eV 5))) (eC (.str " 5")) [x0,x1,x2,x3,x4,.fz (.int (a:Nat)),x6,x7,x8,x9,x10,x11,x12,x13]=some (.str (vF a 5)):=by
 have h:=mY (zKm x0 x1 x2 x3 x4 x6 x7 x8 x9 x10 x11 x12 x13) (zLW hn ha);exact h
abbrev Dq:=Str×List Val
def GD (n:Nat)(q:Dq):Prop:=Key q.1 (q.2.map wD)/\∀v∈q.2,fY n v
def zXG (q:Dq):Str:=zXk q.1 q.2
def uD (q:Dq):D:=wA q.1 q.2
def zQM (c:D)(a b:Nat)(ds:List D):D:=.obj "Scene" ["curve","level","size","deeds"] [c,.int (a:Nat),.int (b:Nat),.lst ds]
def xO (wN:Str)(n:Nat)(j:Bool)(ps:List Pt)(a b:Nat)(l:List Dq):List Str:=vP wN n j::ps.map sL++[vF a b]++l.map zXG
theorem zYn {n:Nat}(hn:n=2∨n=3){ps:List Pt}{wN:Str}{j:Bool}(R:List Str)(x0 x3 x4 x5:B):∀(l acc:List Dq) (s:Nat) (x7:B),(∀(t:Nat) (q:Dq),l[t]?=some q->R[s+t]?=some (zXG q))->(∀q∈l,GD n q)->acc.length+l.length<=100 ->
   ∃y7,nH (gN 7) sM ((List.range l.length).map fun(t:Nat)=>D.int (((s+t:Nat):Int)+1)) [x0,.fz (.lst (R.map .str)),.fz (yT wN n j ps),x3,x4,x5,.ow (acc.map uD),x7] =
     some (.nx [x0,.fz (.lst (R.map .str)),.fz (yT wN n j ps),x3,x4,x5,.ow ((acc++l).map uD),y7])
 | [],acc,s,x7,_,_,_=>⟨x7,by rw[Eh,List.range_zero,Wv,Er,nH]⟩
 | q::r,acc,s,x7,hR,ok,hl=>by
   rw[Qo] at hl
   obtain⟨hk,hv⟩:=ok q Qh
   have hw:=aW R s _ _ (by have h:=hR 0 q rfl;exact h) (zS4 hn hk hv)
   have h1:zO 3 mM (zY (eL (sV 2 vD (zY (eV 1) (zY (eV 7) zR)))) (zY (wM "Curve" "dims" (eV 2)) (zY (eV 7) zR))) [x0,.fz (.lst (R.map .str)),.fz (yT wN n j ps),x3,x4,x5,.ow (acc.map uD),.fz (.int ((s:Int)+1))]=some (uD q):=by
     refine(iE (x:=.lst ((vA q.1 q.2).map .str)) (y:=.int n) (z:=.int ((s:Int)+1)) ?_ (by unfold wM;rfl) rfl).trans (zUW hn hk hv _)
     unfold eL
     rw[cQ (x:=.lst (R.map .str)) (y:=.int ((s:Int)+1)) rfl rfl,hw]
     rfl
   have t:eB2 gEq (gP 6) (eC (.int 400)) [x0,.fz (.lst (R.map .str)),.fz (yT wN n j ps),x3,x4,x5,.ow (acc.map uD),.fz (.int ((s:Int)+1))]=some false:=by
     show some (decide (((acc.map uD).length:Int)=400))=_
     rw[Qy,Qz (by omega)]
   have st:sM [x0,.fz (.lst (R.map .str)),.fz (yT wN n j ps),x3,x4,x5,.ow (acc.map uD),.fz (.int ((s:Int)+1))]=some (.nx [x0,.fz (.lst (R.map .str)),.fz (yT wN n j ps),x3,x4,x5,.ow ((acc++[q]).map uD),.fz (.int ((s:Int)+1))]):=by
     unfold sM
     rw[yL ((sN t).trans (by rw[Ws Qj]))]
     unfold dA
     rw[qH (d:=uD q) (ds:=acc.map uD) h1 rfl (by rw[Qy];omega),Wy,Qp,Wv]
     rfl
   obtain⟨y7,e⟩:=zYn hn R x0 x3 x4 x5 r (acc++[q]) (s+1) (.fz (.int ((s:Int)+1))) (fun t p hp=>by have h:=hR (t+1) p hp;rw[show s+1+t=s+(t+1) from by omega];exact h) (fun p hp=>ok p (Qd _ hp)) (by rw[Wq,Ei];omega)
   refine⟨y7,?_⟩
   rw[Qo,Ut,Qp,Rp]
   rw[oU (ρ1:=[x0,.fz (.lst (R.map .str)),.fz (yT wN n j ps),x3,x4,x5,.ow (acc.map uD),.fz (.int ((s:Int)+1))]) rfl st]
   rw[Ek,Re] at e
   rw[←e]
   congr 1
   refine Rn fun i _=>?_
   show D.int (((s+(i+1):Nat):Int)+1)=D.int (((s+1+i:Nat):Int)+1)
   rw[show s+1+i=s+(i+1) from by omega]
theorem zSj {α:Type}(f:α->Nat)(m:Nat):∀l:List α,(∀x∈l,f x<=m)->(l.map f).sum<=m*l.length
 | [],_=>Ql _
 | x::r,h=>by
   have h3:=h x Qh
   have h4:=zSj f m r fun q hq=>h q (Qd _ hq)
   rw[Qp,Rm,Qo,Nat.mul_succ]
   omega
section
variable {n:Nat} (hn:n=2∨n=3) {ps:List Pt} (ok:PtsOk n ps) {wN:Str} (hw:Wd wN) {a b:Nat} (hq:(a,b)∈zYU n) (j:Bool) {l:List Dq} (hl:l.length<=60) (hd:∀q∈l,GD n q)
include hn ok hw hq hl hd
theorem zTh:(∀y∈xO wN n j ps a b l,wK 10 y)/\((xO wN n j ps a b l).map (·.length)).sum+(xO wN n j ps a b l).length<=90000:=by
 have hs:=ok.small hn
 have hcs:∀p∈ps,p.c∈zH n/\p.t∈zB n:=fun p hp=>⟨ok.perm.mem_iff.mp (Wa.mpr ⟨p,hp,rfl⟩),ok.turn p hp⟩
 refine⟨fun y hy=>?_,?_⟩
 · unfold xO at hy
   rcases Ee.mp hy with hy | hy
   · rcases Ee.mp hy with hy | hy
     · rcases Qa.mp hy with rfl | hy
       · exact zQa hw n j
       · obtain⟨p,hp,rfl⟩:=Wa.mp hy
         exact zNS hn p (hcs p hp).1 (hcs p hp).2
     · rw[Wk.mp hy];exact zRM hn hq
   · obtain⟨q,hqm,rfl⟩:=Wa.mp hy
     exact zQf hn (hd q hqm).1 (hd q hqm).2
 · have h1:=zU4 hw n j
   have h7:=zOG hn hq
   have h5:=zSj (fun p=>(sL p).length) 30 ps fun p hp=>zLA hn p (hcs p hp).1 (hcs p hp).2
   have h8:=zSj (fun q=>(zXG q).length) 1000 l fun q hqm=>zTu hn (hd q hqm).1 (hd q hqm).2
   have e1:((xO wN n j ps a b l).map (·.length)).sum=(vP wN n j).length+(ps.map fun p=>(sL p).length).sum+(vF a b).length+(l.map fun q=>(zXG q).length).sum:=by
     unfold xO
     simp only[Ry,Qp,Wy,Wv,Rm,List.sum_append,Uj,Rp]
     simp only[Il]
     omega
   have e2:(xO wN n j ps a b l).length=ps.length+2+l.length:=by unfold xO;simp;omega
   rw[e1,e2]
   omega
theorem zMs (T:Str)(hT:T=Str.join "\n" (xO wN n j ps a b l))(hf:mP [yT wN n j ps]=some (yT wN n j ps)):jC [.str T]=some (zQM (yT wN n j ps) a b (l.map uD)):=by
 have hs:=ok.small hn
 obtain⟨hfree,hsum⟩:=zTh hn ok hw hq j hl hd
 have h6:("\n":Str).length=1:=by decide +kernel
 have hlen:T.length<=100000:=by
   rw[hT]
   refine Ey (Uo _ _) ?_
   rw[h6]
   omega
 have hR:(xO wN n j ps a b l).length=ps.length+2+l.length:=by unfold xO;simp;omega
 have hsp:lM (.str T) (.str "\n")=some ((xO wN n j ps a b l).map .str):=by
   rw[zK1]
   show(if 1<=(⟨#[10]⟩:Str).length/\T.length<=100000 then some ((Txt.split T ⟨#[10]⟩).map D.str) else none)=_
   rw[Qb ⟨Ql 1,hlen⟩,hT,zK1,qA 10 _ hfree (by unfold xO;exact Tq _ _)]
 have hpre:∀i:Nat,i < ps.length+2->(xO wN n j ps a b l)[i]?=(vP wN n j::ps.map sL++[vF a b])[i]?:=fun i hi=>by
   unfold xO
   rw[Ej (by simp;omega)]
 have hfrom:=zLG hn ok hw (xO wN n j ps a b l) j rfl (fun i p hp=>by
   have hi:i < ps.length:=by
     rcases Nat.lt_or_ge i ps.length with h | h
     · exact h
     · rw[Yq h] at hp;cases hp
   rw[hpre (1+i) (by omega),show 1+i=i+1 from by omega,Ry,Qc,Ej (by rw[Qy];exact hi),Wp,hp]
   rfl)
 have hwf:=aW (xO wN n j ps a b l) (ps.length+1) _ _ (by
   rw[hpre (ps.length+1) (by omega),Ry,Qc,Wc (by rw[Qy];exact Ql _),Qy,Iv]
   rfl) (zTt hn hq)
 have hdeeds:∀(t:Nat) (q:Dq),l[t]?=some q->(xO wN n j ps a b l)[ps.length+2+t]?=some (zXG q):=fun t q hq'=>by
   unfold xO
   have z:(vP wN n j::ps.map sL++[vF a b]).length=ps.length+2:=by simp
   rw[Wc (by rw[z];omega),z,show ps.length+2+t - (ps.length+2)=t by omega,Wp,hq']
   rfl
 have hfr:=zRE hn hq (((ps.length+1:Nat):Int)+1)
 generalize xO wN n j ps a b l=R at hR hsp hfrom hwf hdeeds
 obtain⟨y7,eloop⟩:=zYn hn (ps:=ps) (wN:=wN) (j:=j) R (.fz (.str T)) (.fz (.int (((ps.length+1:Nat):Int)+1))) (.fz (.int (a:Nat))) (.fz (.int (b:Nat))) l [] (ps.length+2) .no hdeeds hd (by simp;omega)
 rw[Wn] at eloop
 show(oE [.fz (.str T),.no,.no,.no,.no,.no,.no,.no]).bind xV=_
 unfold oE
 refine vN (d:=.lst (R.map .str)) (by
   unfold eL jA
   rw[show eV 0 [.fz (.str T),.no,.no,.no,.no,.no,.no,.no]=some (D.str T) from rfl,Qw,show eC (.str "\n") [.fz (.str T),.no,.no,.no,.no,.no,.no,.no]=some (D.str "\n") from rfl,Qw,hsp]
   rfl) ?_
 dsimp only[List.set]
 unfold jG
 refine vN (d:=yT wN n j ps) ((pA rfl).trans hfrom) ?_
 dsimp only[List.set]
 unfold jX
 refine vN (d:=.int (((ps.length+1:Nat):Int)+1)) (by
   have e:=zD (C:=fun _ _=>true) (g:=fun i j=>i+j) (fa:=eC (.int 2)) (fb:=xB (wM "Curve" "parts" (eV 2))) (ρ:=[.fz (.str T),.fz (.lst (R.map .str)),.fz (yT wN n j ps),.no,.no,.no,.no,.no]) (i:=2) (j:=(ps.length:Nat)) rfl (by
     unfold xB
     rw[zYO _ (eV 2) (wN:=wN) (n:=n) (j:=j) (ps:=ps) rfl]
     show some (D.int ((ps.map xF).length:Nat))=_
     rw[Qy]) rfl
   rw[show(2:Int)+(ps.length:Nat)=((ps.length+1:Nat):Int)+1 by omega] at e
   exact e) ?_
 dsimp only[List.set]
 unfold jL
 refine xZ (ρ':=[.fz (.str T),.fz (.lst (R.map .str)),.fz (yT wN n j ps),.fz (.int (((ps.length+1:Nat):Int)+1)),.fz (.int (a:Nat)),.fz (.int (b:Nat)),.no,.no]) (by
   unfold mO
   rw[(iE (x:=.lst ((mR a b).map .str)) (y:=.int n) (z:=.int (((ps.length+1:Nat):Int)+1)) (by
     unfold eL
     rw[cQ (x:=.lst (R.map .str)) (y:=.int (((ps.length+1:Nat):Int)+1)) rfl rfl,hwf]
     rfl) (by unfold wM;rfl) rfl).trans hfr]
   rfl) ?_
 unfold kM
 refine xZ (ρ':=[.fz (.str T),.fz (.lst (R.map .str)),.fz (yT wN n j ps),.fz (.int (((ps.length+1:Nat):Int)+1)),.fz (.int (a:Nat)),.fz (.int (b:Nat)),.ow [],.no]) rfl ?_
 unfold kD
 refine xZ (ρ':=[.fz (.str T),.fz (.lst (R.map .str)),.fz (yT wN n j ps),.fz (.int (((ps.length+1:Nat):Int)+1)),.fz (.int (a:Nat)),.fz (.int (b:Nat)),.ow (l.map uD),y7]) (by
   unfold qO iR2
   rw[show vV (eV 3) (eC (.int 1)) [.fz (.str T),.fz (.lst (R.map .str)),.fz (yT wN n j ps),.fz (.int (((ps.length+1:Nat):Int)+1)),.fz (.int (a:Nat)),.fz (.int (b:Nat)),.ow [],.no]=some (.int (((ps.length+1:Nat):Int)+1+1)) from rfl,Qw]
   rw[show vV (xB (eV 1)) (eC (.int 1)) [.fz (.str T),.fz (.lst (R.map .str)),.fz (yT wN n j ps),.fz (.int (((ps.length+1:Nat):Int)+1)),.fz (.int (a:Nat)),.fz (.int (b:Nat)),.ow [],.no]=some (.int (((ps.length+1:Nat):Int)+1+1+(l.length:Nat))) from by
     have e:=zD (C:=fun _ _=>true) (g:=fun i j=>i+j) (fa:=xB (eV 1)) (fb:=eC (.int 1)) (ρ:=[.fz (.str T),.fz (.lst (R.map .str)),.fz (yT wN n j ps),.fz (.int (((ps.length+1:Nat):Int)+1)),.fz (.int (a:Nat)),.fz (.int (b:Nat)),.ow [],.no]) (i:=((R.map D.str).length:Nat)) (j:=1) rfl rfl rfl
     rw[Qy,hR,show((ps.length+2+l.length:Nat):Int)+1=((ps.length+1:Nat):Int)+1+1+(l.length:Nat) by omega] at e
     exact e,Qw]
   dsimp only
   rw[Qi (show(-1000000:Int)<=((ps.length+1:Nat):Int)+1+1 by omega),Qi (show((ps.length+1:Nat):Int)+1+1+(l.length:Nat)<=1000000 by omega),Qi (show((ps.length+1:Nat):Int)+1+1<=1000000 by omega),Qi (show(-1000000:Int)<=((ps.length+1:Nat):Int)+1+1+(l.length:Nat) by omega),show((ps.length+1:Nat):Int)+1+1+(l.length:Nat) - (((ps.length+1:Nat):Int)+1+1)=(l.length:Nat) by omega,Ra,Bool.and_self,Bool.and_self,Bool.and_self,Qb rfl,Qw]
   rw[show tV (((ps.length+1:Nat):Int)+1+1) l.length=(List.range l.length).map fun(t:Nat)=>D.int (((ps.length+2+t:Nat):Int)+1) from by
     unfold tV
     refine Rn fun t _=>?_
     congr 1
     omega]
   exact eloop) ?_
 unfold bO
 have ea:=yZ (f:=zO 1 mP (zY (eV 2) zR)) (g:=zY (eV 4) (zY (eV 5) (zY (eV 6) zR))) (ρ:=[.fz (.str T),.fz (.lst (R.map .str)),.fz (yT wN n j ps),.fz (.int (((ps.length+1:Nat):Int)+1)),.fz (.int (a:Nat)),.fz (.int (b:Nat)),.fz (.lst (l.map uD)),y7]) (d:=yT wN n j ps) (ds:=[.int (a:Nat),.int (b:Nat),.lst (l.map uD)]) ((pA rfl).trans hf) rfl
 have em:=zTb (c:="Scene") (ns:=["curve","level","size","deeds"]) (n:=4) (f:=zY1) (xs:=[yT wN n j ps,.int (a:Nat),.int (b:Nat),.lst (l.map uD)]) ea rfl rfl rfl
 exact(zXV _).trans em
end
theorem zIs {f:List D->Option D}{fa fb fc fd fe:Ef}{ρ:List B}{a b c d e:D}(h1:fa ρ=some a)(h2:fb ρ=some b)(h3:fc ρ=some c)(h4:fd ρ=some d)(h5:fe ρ=some e):zO 5 f (zY fa (zY fb (zY fc (zY fd (zY fe zR))))) ρ=f [a,b,c,d,e]:=gK (yZ h1 (yZ h2 (yZ h3 (yZ h4 (yZ h5 rfl))))) rfl
theorem zNg {n:Nat}{f:List D->Option (List D)}{g:Lf}{ρ:List B}{ds:List D}(h:g ρ=some ds)(hl:ds.length=n):sV n f g ρ=f ds:=by unfold sV;rw[h,Qw,Qb hl]
theorem fF (ns:List Int)(z:Int)(h0:0<=z):∃c,vY [.lst (ns.map .int),.int z]=some (.int c):=by
 show ∃c,(sI [.fz (.lst (ns.map .int)),.fz (.int z)]).bind xV=some (.int c)
 have t:eB2 gLt (eV 1) (xB (eV 0)) [.fz (.lst (ns.map .int)),.fz (.int z)]=some (decide (z < (ns.length:Nat))):=by
   show some (decide (z < ((ns.map D.int).length:Nat)))=_
   rw[Qy]
 unfold sI
 by_cases h:z < (ns.length:Nat)
 · refine⟨ns.getD z.toNat 0,?_⟩
   rw[bH (d:=.int (ns.getD z.toNat 0)) ((sN t).trans (by
     rw[Qi h,Qb rfl]
     unfold yO
     rw[show eIx (eV 0) (eV 1) [.fz (.lst (ns.map .int)),.fz (.int z)]=some (.int (ns.getD z.toNat 0)) from by
       show atI (ns.map D.int) z=_
       rw[eJ,gH ns _ 0 h0 h]
       rfl]
     rfl))]
   rfl
 · refine⟨0,?_⟩
   rw[yL (ρ':=[.fz (.lst (ns.map .int)),.fz (.int z)]) ((sN t).trans (by rw[Qz h];rfl))]
   rfl
theorem zUC {n:Nat}{ps:List Pt}{w:Str}:mP [yT w n false ps]=some (yT w n false ps):=rfl
section
variable {n:Nat} (hn:n=2∨n=3)
include hn
theorem zOs (j:Bool)(c:Int)(S:D)(hS:vY [S,.int 1]=some (.int c))(x1 x5 x6 x7 x8 x9 x10 x11 x12 x13:B)(w:Str):∃ps:List Pt,PtsOk n ps/\mP [yT w n j ps]=some (yT w n j ps) /\
   ∀o,(zYJ [.fz S,x1,.fz (.int n),.fz (.bl j),.fz (.lst (ps.map xA)),x5,x6,x7,x8,x9,x10,x11,x12,x13]).bind xV=o ->
     (bP [.fz S,x1,.fz (.int n),.fz (.bl j),.no,x5,x6,x7,x8,x9,x10,x11,x12,x13]).bind xV=o:=by
 obtain⟨ls,okl,el⟩:=zM6 hn c
 obtain⟨js,e,f,okj,M,ej⟩:=zOX hn (zZH c 16807)
 have em:=fU c 16807 (by decide) (by decide)
 have t:tB1 (eV 3) [.fz S,x1,.fz (.int n),.fz (.bl j),.fz (.lst (ls.map xA)),x5,x6,x7,x8,x9,x10,x11,x12,x13]=some j:=rfl
 cases j with
 | true =>
   refine⟨js,okj,zOV hn okj M true,fun o h=>?_⟩
   unfold bP
   refine vN (dN ((cQ rfl ((vJ rfl rfl).trans hS)).trans el)) ?_
   dsimp only[List.set]
   unfold zYI
   refine xZ ((sN t).trans ?_) h
   rw[Qb rfl]
   unfold yP
   rw[dN ((cQ rfl ((vJ ((vJ rfl rfl).trans hS) rfl).trans em)).trans ej)]
   rfl
 | false =>
   refine⟨ls,okl,zUC,fun o h=>?_⟩
   unfold bP
   refine vN (dN ((cQ rfl ((vJ rfl rfl).trans hS)).trans el)) ?_
   dsimp only[List.set]
   unfold zYI
   refine xZ ((sN t).trans ?_) h
   rw[Ws Qj]
theorem zOm {a:Nat}(ha:a<=6)(ws:List Str)(h8:ws.length=8)(hw:∀w∈ws,Wd w)(x0 x1 x3 x4 x13:B)(R0:List Str)(hR0:R0.length<=20)(i:Nat)(hi:i < 60)(c:Int)(hc:Builtin.Int.intBits c<=1048576)(l:List Dq)(hl:l.length=i)(hd:∀q∈l,GD n q)(x11 x12:B) :
   ∃(q:Dq) (y11 y12:B),GD n q/\lE [x0,x1,.fz (.int n),x3,x4,.fz (.int a),.fz (.lst (ws.map .str)),.ow ((R0++l.map zXG).map .str),.ow (l.map uD),.fz (.int (i:Nat)),.fz (.int c),x11,x12,x13] =
     some (.nx [x0,x1,.fz (.int n),x3,x4,.fz (.int a),.fz (.lst (ws.map .str)),.ow ((R0++(l++[q]).map zXG).map .str),.ow ((l++[q]).map uD),.fz (.int (i:Nat)),.fz (.int c),y11,y12,x13]):=by
 obtain⟨d1,e1,r1⟩:=zLh hn ha (c+65537*(i:Nat)*(i:Nat)) ws h8 hw
 have em:=fU (c+65537*(i:Nat)*(i:Nat)) 99991 (by decide) (by decide)
 obtain⟨d2,e2,r2⟩:=zJT hn d1 r1 c (zZH (c+65537*(i:Nat)*(i:Nat)) 99991) hc
 obtain⟨k,vs,e3,hk,hv⟩:=zLO hn d2 r2
 have e4:=zTI hn hk hv
 refine⟨(k,vs),.fz (.int (c+65537*(i:Nat)*(i:Nat))),.fz d1,⟨hk,hv⟩,?_⟩
 generalize zZH (c+65537*(i:Nat)*(i:Nat)) 99991=m at em e2
 unfold lE
 rw[rS (d:=.int (c+65537*(i:Nat)*(i:Nat))) (sR rfl (zD (zD rfl rfl (rV (by decide) (by decide))) rfl (rV (by omega) (by omega))))]
 dsimp only[List.set]
 generalize c+65537*(i:Nat)*(i:Nat)=z at e1 em
 unfold zXX
 rw[rS ((zIs rfl rfl rfl rfl rfl).trans e1)]
 dsimp only[List.set]
 unfold zX5
 rw[yL (qH (d:=wA k vs) (ds:=l.map uD) ((pA ((iE rfl rfl ((vJ rfl rfl).trans em)).trans e2)).trans e3) rfl (by rw[Qy];omega))]
 dsimp only[List.set]
 unfold zSY
 rw[qH (d:=.str (zXk k vs)) (ds:=(R0++l.map zXG).map .str) ((pA (x:=wA k vs) (by
   show atI (l.map uD++[wA k vs]) (i:Nat)=_
   refine zYQ ?_
   rw[Wc (by rw[Qy,hl];exact Ql _),Qy,hl,Iv]
   rfl)).trans e4) rfl (by rw[Qy,Wq,Qy];omega)]
 dsimp only[List.set]
 rw[Wy,Wy,Wy,Wy,Wy,Ek]
 rfl
theorem zU5 {a:Nat}(ha:a<=6)(ws:List Str)(h8:ws.length=8)(hw:∀w∈ws,Wd w)(x0 x1 x3 x4 x13:B)(R0:List Str)(hR0:R0.length<=20):∀(cs:List Int) (l:List Dq) (i:Nat) (x9 x10 x11 x12:B),l.length=i->i+cs.length<=60->(∀c∈cs,Builtin.Int.intBits c<=1048576)->(∀q∈l,GD n q) ->
   ∃(l':List Dq) (y9 y10 y11 y12:B),l'.length<=60/\(∀q∈l',GD n q)/\nH (gT (zL (gN 9) (zL (gN 10) xP))) lE (((cs.map D.int).zipIdx i).map fun q=>D.tup [.int (q.2:Nat),q.1]) [x0,x1,.fz (.int n),x3,x4,.fz (.int a),.fz (.lst (ws.map .str)),.ow ((R0++l.map zXG).map .str),.ow (l.map uD),x9,x10,x11,x12,x13] =
     some (.nx [x0,x1,.fz (.int n),x3,x4,.fz (.int a),.fz (.lst (ws.map .str)),.ow ((R0++l'.map zXG).map .str),.ow (l'.map uD),y9,y10,y11,y12,x13])
 | [],l,i,x9,x10,x11,x12,hl,hi,_,hd=>⟨l,x9,x10,x11,x12,by rw[hl];simpa using hi,hd,rfl⟩
 | c::t,l,i,x9,x10,x11,x12,hl,hi,hc,hd=>by
   rw[Qo] at hi
   obtain⟨q,y11,y12,hq,e⟩:=zOm hn ha ws h8 hw x0 x1 x3 x4 x13 R0 hR0 i (by omega) c (hc c Qh) l hl hd x11 x12
   obtain⟨l',z9,z10,z11,z12,hl',hd',e'⟩:=zU5 ha ws h8 hw x0 x1 x3 x4 x13 R0 hR0 t (l++[q]) (i+1) (.fz (.int (i:Nat))) (.fz (.int c)) y11 y12 (by rw[Wq,Ei,hl]) (by omega) (fun z hz=>hc z (Qd _ hz)) (fun z hz=>by
     rcases Ee.mp hz with hz | hz
     · exact hd z hz
     · rw[Wk.mp hz];exact hq)
   refine⟨l',z9,z10,z11,z12,hl',hd',?_⟩
   rw[Qp,Ue,Qp,oU (ρ1:=[x0,x1,.fz (.int n),x3,x4,.fz (.int a),.fz (.lst (ws.map .str)),.ow ((R0++l.map zXG).map .str),.ow (l.map uD),.fz (.int (i:Nat)),.fz (.int c),x11,x12,x13]) rfl e]
   exact e'
end
theorem zHL {n:Nat}(hn:n=2∨n=3){q:Dq}(h:GD n q):okS 4 (uD q)=true:=by
 have hl:=zZP h.1
 refine zLb (by rw[Qo,Qy];omega) (zPO rfl (aT fun v hv=>zHU v (h.2 v hv) (by omega)))
theorem zNU:∀(n:Nat),(∀d,okS n d=true->okS (n+1) d=true)/\∀ds,dU n ds=true->dU (n+1) ds=true:=by
 intro n
 induction n with
 | zero =>
   refine⟨fun d h=>(by unfold okS at h;cases h),fun ds h=>?_⟩
   cases ds with
   | nil=>rfl
   | cons d r=>unfold dU okS at h;cases h
 | succ n ih =>
   have one:∀d,okS (n+1) d=true->okS (n+2) d=true:=fun d h=>by
     cases d with
     | tup ds =>
       unfold okS at h ⊢
       rw[Qx] at h ⊢
       exact⟨h.1,ih.2 ds h.2⟩
     | lst ds =>
       unfold okS at h ⊢
       rw[Qx] at h ⊢
       exact⟨h.1,ih.2 ds h.2⟩
     | obj a b c=>unfold okS at h;cases h
     | exc a b c=>unfold okS at h;cases h
     | _=>rfl
   refine⟨one,fun ds=>?_⟩
   induction ds with
   | nil=>intro _;rfl
   | cons d r ihr =>
     intro h
     unfold dU at h ⊢
     rw[Qx] at h ⊢
     exact⟨one d h.1,ihr h.2⟩
theorem zN4 (ns:List Int)(h:ns.length<=63)(hb:∀n∈ns,Builtin.Int.intBits n<=1048576):zW3 [.lst (ns.map .int)]=some (.bl true):=by
 obtain⟨c0,q0⟩:=fF ns 0 (by decide)
 obtain⟨c1,q1⟩:=fF ns 1 (by decide)
 obtain⟨c2,q2⟩:=fF ns 2 (by decide)
 have e1:=fU c0 48271 (by decide) (by decide)
 have r0:0<=zZH c0 48271:=zV4 _ _
 generalize zZH c0 48271=r at e1 r0
 obtain⟨n,hn,hnn⟩:∃n:Nat,(n=2∨n=3)/\(2+r % 2)=(n:Int):=by
   rcases bit r with h | h
   · exact⟨2,.inl rfl,by omega⟩
   · exact⟨3,.inr rfl,by omega⟩
 obtain⟨a,eqa,ha⟩:∃a:Nat,r / 4 % (11 - 2*(n:Int))=(a:Nat)/\a < 11 - 2*n:=⟨(r / 4 % (11 - 2*(n:Int))).toNat,by
   have:=Rs (r / 4) (show(11 - 2*(n:Int))≠0 by omega)
   omega,by
   have:=Rs (r / 4) (show(11 - 2*(n:Int))≠0 by omega)
   have:=Rt (r / 4) (show 0 < (11 - 2*(n:Int)) by omega)
   omega⟩
 have ha6:a<=6:=by omega
 have hq:(a,5)∈zYU n:=zNr ha (by decide) (by decide)
 have hj:∀x2 x3 x4 x5 x6 x7 x8 x9 x10 x11 x12 x13:B,vI (eB2 gEq (xW (wW (eV 1) (eC (.int 2))) (eC (.int 2))) (eC (.int 1))) [.fz (.lst (ns.map .int)),.fz (.int r),x2,x3,x4,x5,x6,x7,x8,x9,x10,x11,x12,x13]=some (.bl (decide (r / 2 % 2=1))):=fun x2 x3 x4 x5 x6 x7 x8 x9 x10 x11 x12 x13=>by
   unfold vI;rw[xE (x:=r / 2 % 2) (zD (zD rfl rfl rfl) rfl rfl)];rfl
 generalize decide (r / 2 % 2=1)=j at hj
 obtain⟨ws,ew,h8,hw⟩:=eG (α:=Str) (elt:=zO 2 jR (zY (xW (zO 2 vY (zY (eV 1) (zY (eC (.int 2)) zR))) (zXo (eC (.int 10)) (eC (.int 12)))) (zY (eV 0) zR))) (f:=D.str) (Q:=Wd) (rest:=[.fz (.lst (ns.map .int))]) (tV 0 8) .no [] (fun d hd=>by
   obtain⟨i,hi,rfl⟩:=lD hd
   obtain⟨w,e,hw⟩:=zKS (c2 % (10:Int)^(12:Int).toNat) (0+(i:Nat))
   exact⟨w,(vJ (x:=.int (c2 % (10:Int)^(12:Int).toNat)) (y:=.int (0+(i:Nat))) (zD ((vJ rfl rfl).trans q2) (zD (C:=zUQ) (g:=fun i j=>i^j.toNat) (i:=10) (j:=12) rfl rfl (by decide)) (by decide)) rfl).trans e,hw⟩)
 rw[Wn] at ew
 rw[uL] at h8
 obtain⟨w0,wr,rfl⟩:∃w0 wr,ws=w0::wr:=by
   cases ws with
   | nil=>simp at h8
   | cons w0 wr=>exact⟨w0,wr,rfl⟩
 have hw0:Wd w0:=hw w0 Qh
 obtain⟨ps,ok,hf,step⟩:=zOs hn j c1 (.lst (ns.map .int)) q1 (.fz (.int r)) .no .no .no .no .no .no .no .no .no w0
 have hs:=ok.small hn
 have er:=zXi hn ok j hw0
 obtain⟨cs,hcs,hclen,hcb⟩:∃cs:List Int,zZS (ns.map D.int) (some 3) (some 63)=cs.map D.int/\cs.length<=60/\∀c∈cs,Builtin.Int.intBits c<=1048576:=by
   have z1:HT.sIx (ns.map D.int).length 0 (some 3)=min 3 ns.length:=by rw[Qy];exact HT.sIx_nat _ _ 3
   have z2:HT.sIx (ns.map D.int).length (ns.map D.int).length (some 63)=min 63 ns.length:=by rw[Qy];exact HT.sIx_nat _ _ 63
   refine⟨(ns.drop (min 3 ns.length)).take (min 63 ns.length - min 3 ns.length),?_,?_,fun c hc=>hb c (List.mem_of_mem_drop (List.mem_of_mem_take hc))⟩
   · unfold zZS
     rw[z1,z2,List.map_take,List.map_drop]
   · rw[Yw,Ow]
     omega
 have hR0:(vP w0 n j::ps.map sL++[vF a 5]).length<=20:=by simp;omega
 obtain⟨l,y9,y10,y11,y12,hl,hd,eloop⟩:=zU5 hn ha6 (w0::wr) h8 hw (.fz (.lst (ns.map .int))) (.fz (.int r)) (.fz (.bl j)) (.fz (.lst (ps.map xA))) .no (vP w0 n j::ps.map sL++[vF a 5]) hR0 cs [] 0 .no .no .no .no rfl (by omega) hcb (fun q hq=>nomatch hq)
 have hsc:=zMs hn ok hw0 hq j hl hd _ rfl hf
 obtain⟨hfree,hsum⟩:=zTh hn ok hw0 hq j hl hd
 have h6:("\n":Str).length=1:=by decide +kernel
 have s1:tQ [.lst (l.map uD),.lst (l.map uD)]=some (.bl true):=zZF 7 _ (by
   unfold okS
   rw[Qy,Qi (show l.length<=1000 by omega),Yy]
   exact aT fun q hqm=>(zNU 5).1 _ ((zNU 4).1 _ (zHL hn (hd q hqm))))
 have s2:tQ [.lst [.int (a:Nat),.int 5],.lst [.int (a:Nat),.int 5]]=some (.bl true):=zZF 7 _ rfl
 show(zYK [.fz (.lst (ns.map .int)),.no,.no,.no,.no,.no,.no,.no,.no,.no,.no,.no,.no,.no]).bind xV=_
 unfold zYK
 refine vN ((vJ ((vJ rfl rfl).trans q0) rfl).trans e1) ?_
 unfold zU8
 dsimp only[List.set]
 refine vN (d:=.int (n:Nat)) (by rw[←hnn];exact sR rfl (zD rfl rfl rfl)) ?_
 unfold zVt
 dsimp only[List.set]
 refine vN (hj _ _ _ _ _ _ _ _ _ _ _ _) ?_
 dsimp only[List.set]
 refine step _ ?_
 unfold zYJ
 refine vN (d:=.int (a:Nat)) (by
   rw[←eqa]
   exact zD (zD rfl rfl rfl) (zD rfl (zD rfl rfl (rV (by decide) (by decide))) rfl) (Qi (by omega))) ?_
 dsimp only[List.set]
 unfold zVf
 refine xZ (zVp (ds:=(w0::wr).map D.str) (by
   unfold yJ
   rw[zLY (n:=8) rfl (by decide),Qw,rB (by rw[uL];decide),Qw]
   exact ew)) ?_
 dsimp only[List.set]
 unfold zUE
 refine xZ (zVp (ds:=(vP w0 n j::ps.map sL).map D.str) (by
   rw[←er]
   refine(zNg (ds:=[.str w0,.bl j,.int n,.lst (ps.map xA)]) (yZ (by
     show atI ((w0::wr).map D.str) 0=_
     exact at0 _ _) (yZ rfl (yZ rfl (yZ rfl rfl)))) rfl))) ?_
 dsimp only[List.set]
 unfold zUR
 refine xZ (qH (d:=.str (vF a 5)) (ds:=(vP w0 n j::ps.map sL).map D.str) (zS8 hn ha _ _ _ _ _ _ _ _ _ _ _ _ _) rfl (by rw[Qy,Qo,Qy];omega)) ?_
 dsimp only[List.set]
 unfold zVF
 refine xZ (ρ':=[.fz (.lst (ns.map .int)),.fz (.int r),.fz (.int n),.fz (.bl j),.fz (.lst (ps.map xA)),.fz (.int (a:Nat)),.ow ((w0::wr).map .str),.ow ((vP w0 n j::ps.map sL).map D.str++[.str (vF a 5)]),.ow [],.no,.no,.no,.no,.no]) rfl ?_
 unfold zX4
 refine xZ (ρ':=[.fz (.lst (ns.map .int)),.fz (.int r),.fz (.int n),.fz (.bl j),.fz (.lst (ps.map xA)),.fz (.int (a:Nat)),.fz (.lst ((w0::wr).map .str)),.ow ((xO w0 n j ps a 5 l).map .str),.ow (l.map uD),y9,y10,y11,y12,.no]) (by
   show qO (bF (lT (eV 0) (tT (eC (.int 3))) (tT (eC (.int 63))))) (gT (zL (gN 9) (zL (gN 10) xP))) lE [.fz (.lst (ns.map .int)),.fz (.int r),.fz (.int n),.fz (.bl j),.fz (.lst (ps.map xA)),.fz (.int (a:Nat)),.fz (.lst ((w0::wr).map .str)),.ow ((vP w0 n j::ps.map sL).map D.str++[.str (vF a 5)]),.ow [],.no,.no,.no,.no,.no]=_
   unfold qO
   rw[show bF (lT (eV 0) (tT (eC (.int 3))) (tT (eC (.int 63)))) [.fz (.lst (ns.map .int)),.fz (.int r),.fz (.int n),.fz (.bl j),.fz (.lst (ps.map xA)),.fz (.int (a:Nat)),.fz (.lst ((w0::wr).map .str)),.ow ((vP w0 n j::ps.map sL).map D.str++[.str (vF a 5)]),.ow [],.no,.no,.no,.no,.no]=some (numbered (cs.map D.int)) from by
     rw[←hcs];rfl,Qw]
   rw[Wv,Er,Wy] at eloop
   exact eloop) ?_
 unfold zYa
 refine xZ (ρ':=[.fz (.lst (ns.map .int)),.fz (.int r),.fz (.int n),.fz (.bl j),.fz (.lst (ps.map xA)),.fz (.int (a:Nat)),.fz (.lst ((w0::wr).map .str)),.fz (.lst ((xO w0 n j ps a 5 l).map .str)),.ow (l.map uD),y9,y10,y11,y12,.fz (zQM (yT w0 n j ps) a 5 (l.map uD))]) (by
   show yP 13 (zO 1 jC (zY (oZ (eC (.str "\n")) (iL (eV 7))) zR)) [.fz (.lst (ns.map .int)),.fz (.int r),.fz (.int n),.fz (.bl j),.fz (.lst (ps.map xA)),.fz (.int (a:Nat)),.fz (.lst ((w0::wr).map .str)),.fz (.lst ((xO w0 n j ps a 5 l).map .str)),.ow (l.map uD),y9,y10,y11,y12,.no]=_
   unfold yP
   rw[(pA (x:=.str (Str.join "\n" (xO w0 n j ps a 5 l))) (by
     unfold oZ
     rw[show eC (.str "\n") _=some (D.str "\n") from rfl,Qw,show iL (eV 7) [.fz (.lst (ns.map .int)),.fz (.int r),.fz (.int n),.fz (.bl j),.fz (.lst (ps.map xA)),.fz (.int (a:Nat)),.fz (.lst ((w0::wr).map .str)),.fz (.lst ((xO w0 n j ps a 5 l).map .str)),.ow (l.map uD),y9,y10,y11,y12,.no]=some ((xO w0 n j ps a 5 l).map D.str) from rfl,Qw]
     dsimp only
     rw[aU,Qw,Qb]
     · exact Ea (fun z=>some (D.str z)) (Uk _ _)
     · rw[h6];omega)).trans hsc]
   rfl) ?_
 unfold zTH
 show(yO (iF (zO 2 tQ (zY (wM "Scene" "deeds" (eV 13)) (zY (eV 8) zR))) (zO 2 tQ (zY (eL (yA (zY (wM "Scene" "level" (eV 13)) (zY (wM "Scene" "size" (eV 13)) zR)))) (zY (eL (yA (zY (eV 5) (zY (eC (.int 5)) zR)))) zR)))) [.fz (.lst (ns.map .int)),.fz (.int r),.fz (.int n),.fz (.bl j),.fz (.lst (ps.map xA)),.fz (.int (a:Nat)),.fz (.lst ((w0::wr).map .str)),.fz (.lst ((xO w0 n j ps a 5 l).map .str)),.fz (.lst (l.map uD)),y9,y10,y11,y12,.fz (zQM (yT w0 n j ps) a 5 (l.map uD))]).bind xV=_
 refine lO.trans ?_
 unfold iF
 rw[show tB1 (zO 2 tQ (zY (wM "Scene" "deeds" (eV 13)) (zY (eV 8) zR))) [.fz (.lst (ns.map .int)),.fz (.int r),.fz (.int n),.fz (.bl j),.fz (.lst (ps.map xA)),.fz (.int (a:Nat)),.fz (.lst ((w0::wr).map .str)),.fz (.lst ((xO w0 n j ps a 5 l).map .str)),.fz (.lst (l.map uD)),y9,y10,y11,y12,.fz (zQM (yT w0 n j ps) a 5 (l.map uD))]=some true from by
   unfold tB1
   rw[(vJ (x:=.lst (l.map uD)) (y:=.lst (l.map uD)) (by unfold wM;rfl) rfl).trans s1]
   rfl,Qw,Qb rfl]
 exact(vJ (x:=.lst [.int (a:Nat),.int 5]) (y:=.lst [.int (a:Nat),.int 5]) (by unfold wM;rfl) rfl).trans s2
end My
open PySem PySem.W PyProof.Rows
set_option maxRecDepth 100000 in
set_option maxHeartbeats 0 in
theorem PySem.Challenge.cw_curveyard_k44_deeds_read_holds : PySem.Challenge.rw_curveyard_k44_deeds_read.Holds := by
 w_on;o_law
 refine PySem.W.holds_open (r:=PySem.Challenge.rw_curveyard_k44_deeds_read.row) (q:=My.nY) (loose:=My.loose) (XP:=PySem.W.XL My.nY [])
   (YP:=PySem.W.InK My.zUK) My.zLH (PySem.W.InK.of My.zSU) PySem.W.InK.keeps
   (fun s e=>PySem.W.xl_of s (Wt.mp e).1) PySem.W.XL.keeps (by rfl) (by rfl) (by rfl)
   (fun s e=>PySem.W.recFacts_of (Wt.mp e).2) (by rfl) (by assumption) (by decide +kernel)
   ⟨rfl,rfl,rfl,rfl,rfl,by decide +kernel⟩ ?hw ?hc
 case hw=>w_witness2
 k_fill
 refine L2.zPa (l:=PySem.Challenge.rw_curveyard_k44_deeds_read) (n:=63) (k:=9) (x:="_law_script") (CX:=fun _=>L2.CX0) (sp:=fun w=>L2.spF _ 1 My.zW3) rfl (by decide) rfl ⟨rfl,by decide,by decide⟩ (fun w h Y=>Y) ?F (fun w H a ns hl hb hO hS=>My.zIP hS (My.zN4 ns hl hb)) (fun _ _ _ _ _ z=>z)
 case F =>
   intro w mg fa h KX G hmg
   refine' My.zJV KX G hmg ?g0 ?g1 ?g2 ?g3 ?g4 ?g5 ?g6 ?g7 ?g8 ?g9 ?g10 ?g11 ?g12 ?g13 ?a14 ?l14 ?c14 ?k14 ?dl14 ?dd14 ?g15 ?g16 ?g17 ?g18 ?g19 ?g20 ?g21 ?g22 ?g23 ?g24 ?g25 ?g26 ?g27 ?g28 ?g29 ?g30 ?g31 ?g32 ?g33 ?g34 ?g35 ?g36 ?g37 ?g38 ?g39 ?g40 ?g41 ?g42 ?g43 ?g44 ?g45 ?g46 ?g47 ?g48 ?ca0 ?ci0 ?cn0 ?cl0 ?cc0 ?ck0 ?cpg0 ?chd0 ?cpo0 ?csa0 ?cmk0 ?ckc0 ?cf0_back ?cf0_corner ?cf0_turn ?ca1 ?ci1 ?cn1 ?cl1 ?cc1 ?ck1 ?cpg1 ?chd1 ?cpo1 ?csa1 ?cmk1 ?ckc1 ?cf1_dims ?cf1_joined ?cf1_name ?cf1_parts ?ca2 ?ci2 ?cn2 ?cl2 ?cc2 ?ck2 ?cpg2 ?chd2 ?cpo2 ?csa2 ?cmk2 ?ckc2 ?cf2_curve ?cf2_deeds ?cf2_level ?cf2_size ?g_BITS ?g_FLIPS ?g_AXES ?g_FIGURES ?g_LETTERS ?g_LONGEST_NUMBER ?g_LONGEST_WORD ?g_PROMISES ?dl_PROMISES ?ds_PROMISES ?g_DIMS ?dl_DIMS ?ds_DIMS ?g_MOST_LEVEL ?dl_MOST_LEVEL ?g_LEAST_SIZE ?g_MOST_SIZE ?g_LEAST_MANY ?g_MOST_MANY ?g_MOST_DEEDS ?g_FORMS ?dl_FORMS ?ds_FORMS ?tl_FORMS_0 ?tl_FORMS_1 ?tl_FORMS_2 ?tl_FORMS_3 ?tl_FORMS_4 ?tl_FORMS_5 ?tl_FORMS_6 ?tl_FORMS_7 ?tl_FORMS_8 ?tl_FORMS_9 ?tl_FORMS_10 ?tl_FORMS_11 ?tl_FORMS_12 ?z_abs ?z_all ?z_bool ?z_enumerate ?z_int ?z_isinstance ?z_len ?z_list ?z_max ?z_min ?z_range ?z_reversed ?z_sorted ?z_str ?z_sum ?z_tuple ?z_zip
   all_goals (try exact⟨_,_,_,_,_,_,_,_,_,_,by k_is,by k_is,by k_is,by k_is⟩)
   all_goals (try k_is)
   (case dd14=>rfl)
   all_goals kernel_rfl

import PyProof.Rows.All
import OpenK.KLine
import KE.KItem
import Wide.Once
import Open.Boot
import Wide.FinOn
import Lean
import PyProof.EqAt
import PyProof.EqKinds
import PyProof.TupleCall
import PyProof.TupleKey
import KE.KIntText
import KE.IntTextLaws
import OpenK.KOwn
import KE.KIsAll
import PyProof.InstStoreFacts
import PyProof.RaisesMany
import PyProof.RulesAs
import KE.KTryMore
import PyProof.MaxThree
import PyProof.WalkInts
import KE.KRevIter
import PyProof.ListRange
import KE.RegMulBits
import PyProof.ReprRoads
import PyProof.ReprLen
import PyProof.Rows.SumAny
import PyProof.Rows.RuleN_abs
import Wide.Seal
import PyProof.FactsAll.bool_1
import PyProof.DictRoadsH
import PyProof.MinMaxWalk
import PyProof.Rows.CallKwBuiltin
import PyProof.ZipIter
import PyProof.StrLaws
import PyProof.Rows.FStr
import PyProof.Rows.StrNews
import PyProof.Rows.StrItems
import PyProof.StrLawsChain
import PyProof.StrLawsTight
import PyProof.StrCalls
import PyProof.LongRange
import OpenK.KTop
import PySem.Challenge.RW_curveyard_k46_scenes_both_ways
set_option Elab.async false
set_option Elab.async false
set_option linter.all false
set_option maxRecDepth 100000
set_option maxRecDepth 100000
noncomputable section
def ja{p:Prop}(h:p:=by decide +kernel):p:=h
def jb{p:Prop}(h:p:=by decide):p:=h
def jc{p:Prop}(h:p:=by omega):p:=h
def jd{p:Prop}(h:p:=by simp):p:=h
theorem je{p:Prop}(h:p:=by kernel_rfl):p:=h
def jf{p:Prop}(h:p:=by rfl):p:=h
abbrev jg:=PySem.W.Frag
abbrev jh:=PySem.Value->PySem.Shared->Prop
abbrev ji:=List (PySem.Addr×PySem.Obj)
abbrev jj:=List PySem.Value
abbrev jk:=Array PySem.Value
section
open PySem PySem.Spec PyProof.Rows
def Qq:=@Option.bind_some
def Qw:=@Option.bind_eq_some_iff
def Qe:=@wpAny_bind
def Qr:=@Heap.get?_push_of_some
def Qt:=@List.length_map
def Qy:=@Option.map_eq_some_iff
def Qu:=@List.map_cons
def Qi:=@List.getElem?_eq_getElem
def Qo:=@List.length_cons
def Qp:=@decide_eq_true
def Qa:=@List.mem_cons_of_mem
def Qs:=@Heap.lt_size
def Qd:=@wpAny_pure
def Qf:=@List.mem_cons_self
def Qg:=@List.size_toArray
def Qh:=@List.mem_cons
def Qj:=@Bool.false_ne_true
def Qk:=@List.length_append
def Ql:=@Nat.le_refl
def Qz:=@Heap.get?_push_size
def Qx:=@List.getElem?_cons_succ
def Qc:=@Bool.and_eq_true
def Qv:=@if_pos
def Qb:=@decide_eq_false
def Qn:=@List.all_eq_true
def Qm:=@List.getElem?_cons_zero
def Wq:=@Option.map_some
def Ww:=@List.getElem?_eq_some_iff
def We:=@PySem.F.plainAttrs_str
def Wr:=@PySem.F.plainAttrs_list
def Wt:=@List.map_append
def Wy:=@Bool.and_eq_true_iff
def Wu:=@List.getD_eq_getElem?_getD
def Wi:=@PySem.F.slot_list_append
def Wo:=@PySem.F.type_list_append
def Wp:=@Nat.lt_of_lt_of_le
def Wa:=@List.getElem?_map
def Ws:=@List.nil_append
def Wf:=@List.not_mem_nil
def Wg:=@Bool.false_eq_true
def Wh:=@if_neg
def Wj:=@List.mem_map
def Wk:=@Nat.lt_irrefl
def Wl:=@List.replicate_succ
def Wz:=@List.map_nil
def Wx:=@List.append_nil
def Wc:=@PySem.F.slot_str_join
def Wv:=@PySem.F.type_str_join
def Wb:=@decide_eq_true_eq
def Wn:=@of_decide_eq_true
def Wm:=@List.mem_singleton
def Ew:=@List.getElem?_append_right
def Ee:=@List.getElem?_set_ne
def Er:=@Nat.ne_of_lt
def Et:=@Nat.le_of_lt
def Ey:=@List.length_singleton
def Eu:=@List.mem_append
def Ei:=@PyProof.Rows.callWith_type1
def Eo:=@congrArg
def Ep:=@Nat.le_trans
def Ea:=@List.mem_append_right
def Es:=@List.getElem?_append_left
def Ed:=@List.lookup_cons
def Eg:=@Option.some.inj
def Eh:=@List.length_nil
def Ej:=@beq_eq_false_iff_ne
def Ek:=@wpAny_field
def El:=@PassesOwn.never
def Ez:=@wpAny_callSpecial?_slot
def Ex:=@List.append_assoc
def Ec:=@wpAny_seqItems
def Ev:=@Array.length_toList
def Eb:=@Option.isSome_iff_exists
def En:=@List.length_replicate
def Em:=@wpAny_newObj_type
def Rq:=@List.map_map
def Rw:=@Around.under_plainId
def Re:=@List.cons_append
def Rr:=@PySem.mem_of_lookup
def Rt:=@if_true
def Ry:=@Heap.get?_update_self
def Ru:=@StrLaws.glued_eq_join
def Ri:=@wpAny_holding
def Ro:=@List.getElem?_replicate
def Rp:=@if_false
def Ra:=@or_false
def Rs:=@Int.toNat_natCast
def Rf:=@Heap.get?_update_other
def Rg:=@wpAny_call_entry
def Rh:=@beq_self_eq_true
def Rj:=@List.getElem_mem
def Rk:=@wpAny_setField_rec
def Rl:=@Int.emod_lt_of_pos
def Rz:=@List.sum_cons
def Rx:=@List.contains_iff_mem
def Rc:=@List.singleton_append
def Rv:=@PyProof.Rows.slot_tuple_getitem
def Rb:=@codeAny_builtin
def Rn:=@Int.emod_nonneg
def Rm:=@plainId_quiet
def Tq:=@List.map_congr_left
def Tw:=@List.cons_ne_nil
def Te:=@List.mem_range
def Tt:=@Heap.size_push
def Tu:=@wpAny_passesOwn
def Ti:=@wpAny_truthy_bool
def To:=@List.flatten_cons
def Tp:=@List.nodup_append
def Ta:=@List.mem_of_getElem?
def Ts:=@wpAny_is_other
def Td:=@MeetsSeq.plain_index_loop
def Tg:=@List.mem_flatMap
def Th:=@Nat.zero_le
def Tj:=@wpAny_Call_Name_kw
def Tk:=@List.length_set
def Tl:=@Bool.or_eq_true
def Tz:=@PySem.W.kia_one
def Tx:=@List.pairwise_cons
def Tc:=@wpAny_ite_split
def Tv:=@List.find?_cons
def Tb:=@Bool.true_and
def Yq:=@List.getElem?_set_self
def Yw:=@wpAny_nextOf_list_item
def Ye:=@builtinLookup_eq_fast
def Yr:=@List.getElem?_eq_none
def Yt:=@List.length_take
def Yy:=@List.all_cons
def Yu:=@Bool.not_true
def Yi:=@call_meets
def Yo:=@Bool.eq_iff_iff
def Yp:=@List.nodup_cons
def Ya:=@SeqAt.EqAt.same
def Ys:=@List.forIn_cons
def Yd:=@wpAny_updateSeq
def Yf:=@wpAny_specialOf
def Yg:=@wpAny_pyIter_tuple
def Yh:=@wpAny_typeOf
def Yj:=@Array.forIn_toList
def Yk:=@List.sum_nil
def Yl:=@Int.lt_of_lt_of_le
def Yz:=@wpAny_pyIter_list
def Yx:=@PySem.F.args_tuple_add_2
def Yc:=@List.reverse_cons
def Yv:=@sizeLine_eq
def Yb:=@Nat.le_succ
def Yn:=@PySem.F.entry_tuple_add
def Ym:=@Bool.and_true
def Uq:=@List.eraseIdx_cons_succ
def Uw:=@Int.add_mul
def Ue:=@Int.eq_ofNat_of_zero_le
def Ur:=@wpAny_isInstance
def Ut:=@PySem.F.slot_tuple_add
def Uy:=@List.range_succ_eq_map
def Uu:=@PySem.F.slot_str_split
def Ui:=@PySem.F.type_str_split
def Uo:=@List.zipWith_cons_cons
def Up:=@StrLaws.join_length_le
def Ua:=@wpAny_execs_nil
def Us:=@wpAny_nextOf_list_end
def Ud:=@typeLookup_type
def Uf:=@PySem.F.slot_str_find
def Ug:=@PySem.F.type_str_find
def Uh:=@PySem.W.KIN.signs_num
def Uj:=@Int.lt_trans
def Uk:=@beq_iff_eq
def Ul:=@typeIs_str
def Uz:=@wpAny_rule
def Ux:=@List.mem_append_left
def Uc:=@SeqAt.EqAt.bool_bool
def Uv:=@wpAny_updateSeq_pair
def Ub:=@List.forIn_nil
def Um:=@Bool.not_false
def Iq:=@List.filterMap_cons
def Iw:=@ne_true_of_eq_false
def Ie:=@Calls.spliced_cons
def Ir:=@SeqAt.EqAt.int_int
def Iy:=@wpAny_attempt
def Iu:=@List.cons.inj
def Ii:=@List.find?_toArray
def Ip:=@wpAny_onRaise
def Ia:=@wpAny_mono
def Ig:=@Calls.spliced_nil
def Ih:=@List.getElem?_set
def Ij:=@Function.comp_def
def Ik:=@Nat.le_of_eq
def Il:=@codeAny_mono
def Ix:=@concat_meets
def Ic:=@Nat.sub_self
def Iv:=@List.all_map
def Ib:=@Nat.lt_succ_self
def Im:=@noFill_tuple_add
def Oq:=@List.length_drop
def Ow:=@wpAny_pyIter_zip
def Oe:=@wpAny_getItem_of
def Ot:=@List.zipIdx_cons
def Oy:=@List.eq_nil_of_length_eq_zero
def Ou:=@Bool.not_eq_true
def Oi:=@tail_any
def Oo:=@List.of_mem_zip
def Op:=@Iff.rfl
def Oa:=@List.length_zip
def Os:=@wpAny_letGo
def Od:=@Int.mul_sub
def Og:=@Calls.Name_function_global
def Oh:=@SeqAt.RcNeAt.lists_lengths
def Oj:=@List.drop_eq_getElem_cons
def Ol:=@MeetsSeq.entry_index_loop
end
namespace L2
open PySem PySem.Spec PyProof.Rows
def rR (s:Stmt)(j:Nat):Stmt:=match s with
 | .ClassDef _ _ _ body _ _ _ _ _ _ _=>body.getD j (.Pass ⟨0,0,0,0⟩)
 | _=>.Pass ⟨0,0,0,0⟩
def uT (s:Stmt):Arguments:=match s with
 | .FunctionDef _ a _ _ _ _ _ _ _ _=>a
 | _=>{ posonlyargs:=[],args:=[],vararg:=none,kwonlyargs:=[],kw_defaults:=[],kwarg:=none,defaults:=[] }
def wH (s:Stmt):List Stmt:=match s with
 | .FunctionDef _ _ b _ _ _ _ _ _ _=>b
 | _=>[]
def zS (s:Stmt):Scope:=match s with
 | .FunctionDef _ _ _ _ _ _ sc _ _ _=>sc
 | _=>{ kind:=.function,names:=[],isGenerator:=false,isCoroutine:=false }
end L2
namespace My
open PySem L2
def top (i:Nat):Stmt:=PySem.Challenge.pw_curveyard_k46_scenes_both_ways.main.body.getD i (.Pass ⟨0,0,0,0⟩)
end My
namespace My
open PySem PySem.W L2 PyData
abbrev cb (n:Str)(t1 t2 t3 l r1 m r2 o t4:Nat):Obj:=⟨.type "code",none,.fields #[.str n t1,.str n t2,.str "/claim/cut.py" t3,.int l 0,.int 0 0,.int 0 0,.int 0 0,.int 0 0,.ref r1,.bool false,.int m 0,.ref r2,.none,.none,.none,.none,.int o 0,.int l 0,.str "/claim/cut.py" t4],#[]⟩
abbrev tu (l:jk)(n:Nat):Obj:=⟨.type "tuple",none,.seq l n,#[]⟩
abbrev nf (l:jk):Obj:=⟨.none,none,.fields l,#[]⟩
abbrev tf (t:String)(l:jk):Obj:=⟨.type t,none,.fields l,#[]⟩
abbrev di (l:Array DictEntry)(n:Nat):Obj:=⟨.type "dict",none,.dict l n,#[]⟩
abbrev fm (l:Array (Option Value)):Obj:=⟨.type "frame",none,.plain,l⟩
abbrev co (n q:Str)(t1 t2 t3 l a x y z r1 m r2:Nat)(v1 v2 v3:Value)(r3 o t4:Nat):Obj:=⟨.type "code",none,.fields #[.str n t1,.str q t2,.str "/claim/cut.py" t3,.int l 0,.int a 0,.int x 0,.int y 0,.int z 0,.ref r1,.bool true,.int m 0,.ref r2,v1,v2,v3,.ref r3,.int o 0,.int l 0,.str "/claim/cut.py" t4],#[]⟩
abbrev fu (n q:Str)(s:Stmt)(m:Str)(t c:Nat):Obj:=⟨.type "function",none,.func (fnOf n q (uT s) (wH s) (zS s) (.none) (.none) (.none) (.str m t) none (.ref c) (.none)),#[]⟩
abbrev ke (P:Params)(n:Str)(t:Nat)(v:Value):DictEntry:=⟨keyHash P n,.str n t,v⟩
abbrev cl (n:Str)(b r:jj)(s:Nat)(u:jj)(l:Array (Option Value)):Obj:=⟨.type "type",none,.cls { name:=n,bases:=b,mro:=r,ns:=s,qualname:=n,hasDict:=true,slotNames:=[],subclasses:=u,abstract:=false,collection:=none,hasDel:=false },l⟩
abbrev gd (t a:Nat):Obj:=⟨.type "getset_descriptor",none,.fields #[.str "__dict__" t,.ref a,.builtin "function.__dict__",.builtin "function.__dict__#set"],#[]⟩
abbrev gw (t a:Nat):Obj:=⟨.type "getset_descriptor",none,.fields #[.str "__weakref__" t,.ref a,.builtin "ExceptionGroup.__weakref__",.none],#[]⟩
def zTc:Params->Frag:=fun P =>
 (nat_lit 3,di #[ke P "__name__" 165 (.str "law_curveyard_k46_scenes_both_ways" 786),ke P "__doc__" 166 .none,ke P "__package__" 167 .none,ke P "__loader__" 168 (.builtin "__main__.__loader__#opaque"),ke P "__spec__" 169 .none,ke P "__annotations__" 170 (.ref 6),ke P "__builtins__" 171 (.ref 4),ke P "__file__" 173 (.str "/claim/cut.py" 172),ke P "__cached__" 174 .none,ke P "BITS" 190 (.str "01" 189),ke P "FLIPS" 192 (.str "+-" 191),ke P "AXES" 194 (.str "xyz" 193),ke P "turned" 200 (.ref 19),ke P "still" 206 (.ref 24),ke P "after" 212 (.ref 29),ke P "turn_text" 218 (.ref 34),ke P "turn_of" 224 (.ref 39),ke P "corner_text" 230 (.ref 44),ke P "corner_of" 236 (.ref 49),ke P "Part" 271 (.ref 66),ke P "Curve" 306 (.ref 87),ke P "first_state" 313 (.ref 98),ke P "part_at" 326 (.ref 105),ke P "walked" 335 (.ref 112),ke P "YardError" 355 (.ref 122),ke P "TextError" 380 (.ref 142),ke P "BadRow" 396 (.ref 154),ke P "CornerTwice" 412 (.ref 166),ke P "Unmet" 441 (.ref 185),ke P "FIGURES" 445 (.str "0123456789" 444),ke P "LETTERS" 447 (.str "abcdefghijklmnopqrstuvwxyz" 446),ke P "LONGEST_NUMBER" 449 (.int 60 448),ke P "LONGEST_WORD" 451 (.int 12 450),ke P "number_of" 460 (.ref 195),ke P "is_word" 467 (.ref 202),ke P "is_made_of" 473 (.ref 207),ke P "full" 485 (.ref 214),ke P "deeper" 491 (.ref 219),ke P "next_to" 497 (.ref 224),ke P "unmet_at" 515 (.ref 231),ke P "meeting_of" 521 (.ref 236),ke P "PROMISES" 528 (.ref 237),ke P "DIMS" 535 (.ref 238),ke P "curve_rows" 541 (.ref 243),ke P "part_row" 549 (.ref 250),ke P "curve_from" 563 (.ref 257),ke P "words_at" 571 (.ref 264),ke P "read_head" 578 (.ref 271),ke P "read_part" 590 (.ref 278),ke P "fitted" 600 (.ref 285),ke P "place_text" 608 (.ref 290),ke P "place_of" 614 (.ref 295),ke P "MOST_LEVEL" 623 (.ref 296),ke P "LEAST_SIZE" 625 (.int 4 624),ke P "MOST_SIZE" 627 (.int 12 626),ke P "LEAST_MANY" 629 (.int 1 628),ke P "MOST_MANY" 631 (.int 999 630),ke P "MOST_DEEDS" 633 (.int 400 632),ke P "FORMS" 681 (.ref 297),ke P "Scene" 716 (.ref 327),ke P "scene_text" 722 (.ref 336),ke P "deed_row" 728 (.ref 341),ke P "value_text" 735 (.ref 348),ke P "scene_of" 749 (.ref 355),ke P "read_floor" 760 (.ref 362),ke P "read_deed" 766 (.ref 367),ke P "read_value" 775 (.ref 374),ke P "number_from" 785 (.ref 381),ke P "_law_cell_at" 795 (.ref 388),ke P "_law_mix" 804 (.ref 395),ke P "_law_same" 813 (.ref 402),ke P "_law_turned" 819 (.ref 407),ke P "_law_after" 825 (.ref 412),ke P "_law_undone" 834 (.ref 419),ke P "_law_turn" 840 (.ref 424),ke P "_law_base" 849 (.ref 431),ke P "_law_joined" 855 (.ref 436),ke P "_law_corners" 861 (.ref 441),ke P "_law_loose" 873 (.ref 448),ke P "_law_word" 887 (.ref 455),ke P "_law_curve_rows" 893 (.ref 460),ke P "_law_spot" 899 (.ref 465),ke P "_law_box" 905 (.ref 470),ke P "_law_deed" 923 (.ref 477),ke P "_law_place_text" 929 (.ref 482),ke P "_law_deed_row" 938 (.ref 489),ke P "_law_raised" 944 (.ref 494),ke P "_law_scene_same" 950 (.ref 499),ke P "law" 956 (.ref 504)] 89) ::
 (nat_lit 18,co "turned" "turned" 195 196 197 5 2 0 0 3 15 181 16 .none .none .none 17 198 199) ::
 (nat_lit 19,fu "turned" "turned" (top 4) "curveyard.turns" 187 18) ::
 (nat_lit 23,co "still" "still" 201 202 203 7 1 0 0 3 20 181 21 .none .none .none 22 204 205) ::
 (nat_lit 24,fu "still" "still" (top 5) "curveyard.turns" 187 23) ::
 (nat_lit 28,co "after" "after" 207 208 209 9 2 0 0 3 25 181 26 .none .none .none 27 210 211) ::
 (nat_lit 29,fu "after" "after" (top 6) "curveyard.turns" 187 28) ::
 (nat_lit 33,co "turn_text" "turn_text" 213 214 215 11 1 0 0 3 30 181 31 .none .none .none 32 216 217) ::
 (nat_lit 34,fu "turn_text" "turn_text" (top 7) "curveyard.turns" 187 33) ::
 (nat_lit 38,co "turn_of" "turn_of" 219 220 221 13 2 0 0 3 35 181 36 .none .none .none 37 222 223) ::
 (nat_lit 39,fu "turn_of" "turn_of" (top 8) "curveyard.turns" 187 38) ::
 (nat_lit 43,co "corner_text" "corner_text" 225 226 227 21 1 0 0 3 40 181 41 .none .none .none 42 228 229) ::
 (nat_lit 44,fu "corner_text" "corner_text" (top 9) "curveyard.turns" 187 43) ::
 (nat_lit 48,co "corner_of" "corner_of" 231 232 233 23 2 0 0 3 45 181 46 .none .none .none 47 234 235) ::
 (nat_lit 49,fu "corner_of" "corner_of" (top 10) "curveyard.turns" 187 48) ::
 (nat_lit 62,co "__init__" "Part.__init__" 251 252 253 31 4 0 0 3 57 181 58 .none (.ref 59) (.ref 60) 61 258 259) ::
 (nat_lit 63,fu "__init__" "Part.__init__" (rR (top 12) 0) "curveyard.curves" 237 62) ::
 (nat_lit 65,di #[ke P "__module__" 246 (.str "curveyard.curves" 237),ke P "__firstlineno__" 250 (.int 29 249),ke P "__init__" 260 (.ref 63),ke P "__static_attributes__" 264 (.ref 64),ke P "__dict__" 266 (.ref 67),ke P "__weakref__" 268 (.ref 68),ke P "__doc__" 269 .none] 4) ::
 (nat_lit 66,cl "Part" [.type "object"] [.ref 66,.type "object"] 65 [] #[none,none,some (.str "Part" 239),some (.str "Part" 247),some (.builtin "object.__new__"),some (.bool true)]) ::
 (nat_lit 67,gd 265 66) ::
 (nat_lit 68,gw 267 66) ::
 (nat_lit 83,co "__init__" "Curve.__init__" 284 285 286 37 5 0 0 3 78 181 79 .none (.ref 80) (.ref 81) 82 292 293) ::
 (nat_lit 84,fu "__init__" "Curve.__init__" (rR (top 13) 0) "curveyard.curves" 237 83) ::
 (nat_lit 86,di #[ke P "__module__" 279 (.str "curveyard.curves" 237),ke P "__firstlineno__" 283 (.int 35 282),ke P "__init__" 294 (.ref 84),ke P "__static_attributes__" 299 (.ref 85),ke P "__dict__" 301 (.ref 88),ke P "__weakref__" 303 (.ref 89),ke P "__doc__" 304 .none] 4) ::
 (nat_lit 87,cl "Curve" [.type "object"] [.ref 87,.type "object"] 86 [] #[none,none,some (.str "Curve" 272),some (.str "Curve" 280),some (.builtin "object.__new__"),some (.bool true)]) ::
 (nat_lit 88,gd 300 87) ::
 (nat_lit 89,gw 302 87) ::
 (nat_lit 97,co "first_state" "first_state" 307 308 309 42 1 0 0 3 92 181 93 .none (.ref 94) (.ref 95) 96 311 312) ::
 (nat_lit 98,fu "first_state" "first_state" (top 14) "curveyard.curves" 237 97) ::
 (nat_lit 104,co "part_at" "part_at" 314 315 316 44 3 0 0 3 99 181 100 .none (.ref 101) (.ref 102) 103 324 325) ::
 (nat_lit 105,fu "part_at" "part_at" (top 15) "curveyard.curves" 237 104) ::
 (nat_lit 111,co "walked" "walked" 327 328 329 49 3 0 0 3 106 181 107 .none (.ref 108) (.ref 109) 110 333 334) ::
 (nat_lit 112,fu "walked" "walked" (top 16) "curveyard.curves" 237 111) ::
 (nat_lit 121,di #[ke P "__module__" 345 (.str "curveyard.errors" 336),ke P "__firstlineno__" 349 (.int 52 348),ke P "__static_attributes__" 350 (.ref 120),ke P "__weakref__" 352 (.ref 123),ke P "__doc__" 353 .none] 3) ::
 (nat_lit 122,cl "YardError" [.type "ValueError"] [.ref 122,.type "ValueError",.type "Exception",.type "BaseException",.type "object"] 121 [.ref 142,.ref 185] #[some (.ref 113),none,some (.str "YardError" 338),some (.str "YardError" 346),some (.builtin "ValueError.__new__"),some (.bool true)]) ::
 (nat_lit 123,gw 351 122) ::
 (nat_lit 138,co "__init__" "TextError.__init__" 368 369 370 56 2 0 0 3 133 181 134 .none (.ref 135) (.ref 136) 137 373 374) ::
 (nat_lit 139,fu "__init__" "TextError.__init__" (rR (top 19) 0) "curveyard.errors" 336 138) ::
 (nat_lit 141,di #[ke P "__module__" 363 (.str "curveyard.errors" 336),ke P "__firstlineno__" 367 (.int 54 366),ke P "__init__" 375 (.ref 139),ke P "__static_attributes__" 377 (.ref 140),ke P "__doc__" 378 .none] 2) ::
 (nat_lit 142,cl "TextError" [.ref 122] [.ref 142,.ref 122,.type "ValueError",.type "Exception",.type "BaseException",.type "object"] 141 [.ref 154,.ref 166] #[some (.ref 126),none,some (.str "TextError" 356),some (.str "TextError" 364),some (.builtin "ValueError.__new__"),some (.bool true)]) ::
 (nat_lit 153,di #[ke P "__module__" 388 (.str "curveyard.errors" 336),ke P "__firstlineno__" 392 (.int 58 391),ke P "__static_attributes__" 393 (.ref 152),ke P "__doc__" 394 .none] 2) ::
 (nat_lit 154,cl "BadRow" [.ref 142] [.ref 154,.ref 142,.ref 122,.type "ValueError",.type "Exception",.type "BaseException",.type "object"] 153 [] #[some (.ref 145),none,some (.str "BadRow" 381),some (.str "BadRow" 389),some (.builtin "ValueError.__new__"),some (.bool true)]) ::
 (nat_lit 165,di #[ke P "__module__" 404 (.str "curveyard.errors" 336),ke P "__firstlineno__" 408 (.int 60 407),ke P "__static_attributes__" 409 (.ref 164),ke P "__doc__" 410 .none] 2) ::
 (nat_lit 166,cl "CornerTwice" [.ref 142] [.ref 166,.ref 142,.ref 122,.type "ValueError",.type "Exception",.type "BaseException",.type "object"] 165 [] #[some (.ref 157),none,some (.str "CornerTwice" 397),some (.str "CornerTwice" 405),some (.builtin "ValueError.__new__"),some (.bool true)]) ::
 (nat_lit 181,co "__init__" "Unmet.__init__" 425 426 427 64 4 0 0 3 176 181 177 .none (.ref 178) (.ref 179) 180 432 433) ::
 (nat_lit 182,fu "__init__" "Unmet.__init__" (rR (top 22) 0) "curveyard.errors" 336 181) ::
 (nat_lit 184,di #[ke P "__module__" 420 (.str "curveyard.errors" 336),ke P "__firstlineno__" 424 (.int 62 423),ke P "__init__" 434 (.ref 182),ke P "__static_attributes__" 438 (.ref 183),ke P "__doc__" 439 .none] 2) ::
 (nat_lit 185,cl "Unmet" [.ref 122] [.ref 185,.ref 122,.type "ValueError",.type "Exception",.type "BaseException",.type "object"] 184 [] #[some (.ref 169),none,some (.str "Unmet" 413),some (.str "Unmet" 421),some (.builtin "ValueError.__new__"),some (.bool true)]) ::
 (nat_lit 188,tu #[.none] 0) ::
 (nat_lit 194,co "number_of" "number_of" 452 453 454 73 2 0 0 3 189 181 190 .none (.ref 191) (.ref 192) 193 458 459) ::
 (nat_lit 195,⟨.type "function",none,.func (fnOf "number_of" "number_of" (uT (top 28)) (wH (top 28)) (zS (top 28)) (.ref 188) (.none) (.none) (.str "curveyard.figures" 442) none (.ref 194) (.none)),#[]⟩) ::
 (nat_lit 201,co "is_word" "is_word" 461 462 463 82 1 0 0 3 196 181 197 .none (.ref 198) (.ref 199) 200 465 466) ::
 (nat_lit 202,fu "is_word" "is_word" (top 29) "curveyard.figures" 442 201) ::
 (nat_lit 206,co "is_made_of" "is_made_of" 468 469 470 84 3 0 0 3 203 181 204 .none .none .none 205 471 472) ::
 (nat_lit 207,fu "is_made_of" "is_made_of" (top 30) "curveyard.figures" 442 206) ::
 (nat_lit 213,co "full" "full" 476 477 478 87 2 0 0 3 208 181 209 .none (.ref 210) (.ref 211) 212 483 484) ::
 (nat_lit 214,fu "full" "full" (top 32) "curveyard.numbering" 474 213) ::
 (nat_lit 218,co "deeper" "deeper" 486 487 488 92 2 0 0 3 215 181 216 .none .none .none 217 489 490) ::
 (nat_lit 219,fu "deeper" "deeper" (top 33) "curveyard.numbering" 474 218) ::
 (nat_lit 223,co "next_to" "next_to" 492 493 494 94 2 0 0 3 220 181 221 .none .none .none 222 495 496) ::
 (nat_lit 224,fu "next_to" "next_to" (top 34) "curveyard.numbering" 474 223) ::
 (nat_lit 230,co "unmet_at" "unmet_at" 500 501 502 97 2 0 0 3 225 181 226 .none (.ref 227) (.ref 228) 229 513 514) ::
 (nat_lit 231,fu "unmet_at" "unmet_at" (top 36) "curveyard.fitting" 498 230) ::
 (nat_lit 235,co "meeting_of" "meeting_of" 516 517 518 113 1 0 0 3 232 181 233 .none .none .none 234 519 520) ::
 (nat_lit 236,fu "meeting_of" "meeting_of" (top 37) "curveyard.fitting" 498 235) ::
 (nat_lit 237,di #[ke P "joined" 524 (.bool true),ke P "loose" 525 (.bool false)] 2) ::
 (nat_lit 238,di #[ke P "2" 529 (.int 2 530),ke P "3" 531 (.int 3 532)] 2) ::
 (nat_lit 242,co "curve_rows" "curve_rows" 536 537 538 122 1 0 0 3 239 181 240 .none .none .none 241 539 540) ::
 (nat_lit 243,fu "curve_rows" "curve_rows" (top 41) "curveyard.curvetext" 522 242) ::
 (nat_lit 249,co "part_row" "part_row" 542 543 544 126 1 0 0 3 244 181 245 .none (.ref 246) (.ref 247) 248 547 548) ::
 (nat_lit 250,fu "part_row" "part_row" (top 42) "curveyard.curvetext" 522 249) ::
 (nat_lit 256,co "curve_from" "curve_from" 550 551 552 131 1 0 0 3 251 181 252 .none (.ref 253) (.ref 254) 255 561 562) ::
 (nat_lit 257,fu "curve_from" "curve_from" (top 43) "curveyard.curvetext" 522 256) ::
 (nat_lit 263,co "words_at" "words_at" 564 565 566 142 2 0 0 3 258 181 259 .none (.ref 260) (.ref 261) 262 569 570) ::
 (nat_lit 264,fu "words_at" "words_at" (top 44) "curveyard.curvetext" 522 263) ::
 (nat_lit 270,co "read_head" "read_head" 572 573 574 146 1 0 0 3 265 181 266 .none (.ref 267) (.ref 268) 269 576 577) ::
 (nat_lit 271,fu "read_head" "read_head" (top 45) "curveyard.curvetext" 522 270) ::
 (nat_lit 277,co "read_part" "read_part" 579 580 581 152 3 0 0 3 272 181 273 .none (.ref 274) (.ref 275) 276 588 589) ::
 (nat_lit 278,fu "read_part" "read_part" (top 46) "curveyard.curvetext" 522 277) ::
 (nat_lit 284,co "fitted" "fitted" 591 592 593 161 1 0 0 3 279 181 280 .none (.ref 281) (.ref 282) 283 598 599) ::
 (nat_lit 285,fu "fitted" "fitted" (top 47) "curveyard.curvetext" 522 284) ::
 (nat_lit 289,co "place_text" "place_text" 603 604 605 168 1 0 0 3 286 181 287 .none .none .none 288 606 607) ::
 (nat_lit 290,fu "place_text" "place_text" (top 49) "curveyard.placetext" 601 289) ::
 (nat_lit 294,co "place_of" "place_of" 609 610 611 170 2 0 0 3 291 181 292 .none .none .none 293 612 613) ::
 (nat_lit 295,fu "place_of" "place_of" (top 50) "curveyard.placetext" 601 294) ::
 (nat_lit 296,di #[⟨2,.int 2 617,.int 6 618⟩,⟨3,.int 3 619,.int 4 620⟩] 2) ::
 (nat_lit 297,di #[ke P "put" 634 (.ref 298),ke P "move" 638 (.ref 299),ke P "take" 642 (.ref 300),ke P "names" 644 (.ref 301),ke P "where" 645 (.ref 302),ke P "inside" 647 (.ref 303),ke P "meeting" 650 (.ref 304),ke P "near" 653 (.ref 305),ke P "sharing" 656 (.ref 306),ke P "number" 657 (.ref 307),ke P "place" 659 (.ref 308),ke P "spans" 661 (.ref 309),ke P "cover" 664 (.ref 310)] 13) ::
 (nat_lit 298,tu #[.str "name" 635,.str "place" 636,.str "place" 637] 0) ::
 (nat_lit 299,tu #[.str "name" 639,.str "place" 640,.str "place" 641] 0) ::
 (nat_lit 300,tu #[.str "name" 643] 0) ::
 (nat_lit 301,tu #[] 0) ::
 (nat_lit 302,tu #[.str "name" 646] 0) ::
 (nat_lit 303,tu #[.str "place" 648,.str "place" 649] 0) ::
 (nat_lit 304,tu #[.str "place" 651,.str "place" 652] 0) ::
 (nat_lit 305,tu #[.str "place" 654,.str "many" 655] 0) ::
 (nat_lit 306,tu #[] 0) ::
 (nat_lit 307,tu #[.str "place" 658] 0) ::
 (nat_lit 308,tu #[.str "number" 660] 0) ::
 (nat_lit 309,tu #[.str "place" 662,.str "place" 663] 0) ::
 (nat_lit 310,tu #[.str "place" 665,.str "place" 666,.str "many" 667] 0) ::
 (nat_lit 323,co "__init__" "Scene.__init__" 694 695 696 183 5 0 0 3 318 181 319 .none (.ref 320) (.ref 321) 322 702 703) ::
 (nat_lit 324,fu "__init__" "Scene.__init__" (rR (top 59) 0) "curveyard.scenetext" 615 323) ::
 (nat_lit 326,di #[ke P "__module__" 689 (.str "curveyard.scenetext" 615),ke P "__firstlineno__" 693 (.int 181 692),ke P "__init__" 704 (.ref 324),ke P "__static_attributes__" 709 (.ref 325),ke P "__dict__" 711 (.ref 328),ke P "__weakref__" 713 (.ref 329),ke P "__doc__" 714 .none] 4) ::
 (nat_lit 327,cl "Scene" [.type "object"] [.ref 327,.type "object"] 326 [] #[none,none,some (.str "Scene" 682),some (.str "Scene" 690),some (.builtin "object.__new__"),some (.bool true)]) ::
 (nat_lit 328,gd 710 327) ::
 (nat_lit 329,gw 712 327) ::
 (nat_lit 335,co "scene_text" "scene_text" 717 718 719 188 1 0 0 3 332 181 333 .none .none .none 334 720 721) ::
 (nat_lit 336,fu "scene_text" "scene_text" (top 60) "curveyard.scenetext" 615 335) ::
 (nat_lit 340,co "deed_row" "deed_row" 723 724 725 191 1 0 0 3 337 181 338 .none .none .none 339 726 727) ::
 (nat_lit 341,fu "deed_row" "deed_row" (top 61) "curveyard.scenetext" 615 340) ::
 (nat_lit 347,co "value_text" "value_text" 729 730 731 193 1 0 0 3 342 181 343 .none (.ref 344) (.ref 345) 346 733 734) ::
 (nat_lit 348,fu "value_text" "value_text" (top 62) "curveyard.scenetext" 615 347) ::
 (nat_lit 354,co "scene_of" "scene_of" 736 737 738 195 1 0 0 3 349 181 350 .none (.ref 351) (.ref 352) 353 747 748) ::
 (nat_lit 355,fu "scene_of" "scene_of" (top 63) "curveyard.scenetext" 615 354) ::
 (nat_lit 361,co "read_floor" "read_floor" 750 751 752 206 3 0 0 3 356 181 357 .none (.ref 358) (.ref 359) 360 758 759) ::
 (nat_lit 362,fu "read_floor" "read_floor" (top 64) "curveyard.scenetext" 615 361) ::
 (nat_lit 366,co "read_deed" "read_deed" 761 762 763 214 3 0 0 3 363 181 364 .none .none .none 365 764 765) ::
 (nat_lit 367,fu "read_deed" "read_deed" (top 65) "curveyard.scenetext" 615 366) ::
 (nat_lit 373,co "read_value" "read_value" 767 768 769 221 3 0 0 3 368 181 369 .none (.ref 370) (.ref 371) 372 773 774) ::
 (nat_lit 374,fu "read_value" "read_value" (top 66) "curveyard.scenetext" 615 373) ::
 (nat_lit 380,co "number_from" "number_from" 776 777 778 229 3 0 0 3 375 181 376 .none (.ref 377) (.ref 378) 379 783 784) ::
 (nat_lit 381,fu "number_from" "number_from" (top 67) "curveyard.scenetext" 615 380) ::
 (nat_lit 387,co "_law_cell_at" "_law_cell_at" 788 789 790 233 2 0 0 3 382 181 383 .none (.ref 384) (.ref 385) 386 793 794) ::
 (nat_lit 388,fu "_law_cell_at" "_law_cell_at" (top 69) "law_curveyard_k46_scenes_both_ways" 786 387) ::
 (nat_lit 394,co "_law_mix" "_law_mix" 796 797 798 237 2 0 0 3 389 181 390 .none (.ref 391) (.ref 392) 393 802 803) ::
 (nat_lit 395,fu "_law_mix" "_law_mix" (top 70) "law_curveyard_k46_scenes_both_ways" 786 394) ::
 (nat_lit 401,co "_law_same" "_law_same" 805 806 807 240 2 0 0 3 396 181 397 .none (.ref 398) (.ref 399) 400 811 812) ::
 (nat_lit 402,fu "_law_same" "_law_same" (top 71) "law_curveyard_k46_scenes_both_ways" 786 401) ::
 (nat_lit 406,co "_law_turned" "_law_turned" 814 815 816 261 2 0 0 3 403 181 404 .none .none .none 405 817 818) ::
 (nat_lit 407,fu "_law_turned" "_law_turned" (top 72) "law_curveyard_k46_scenes_both_ways" 786 406) ::
 (nat_lit 411,co "_law_after" "_law_after" 820 821 822 263 2 0 0 3 408 181 409 .none .none .none 410 823 824) ::
 (nat_lit 412,fu "_law_after" "_law_after" (top 73) "law_curveyard_k46_scenes_both_ways" 786 411) ::
 (nat_lit 418,co "_law_undone" "_law_undone" 826 827 828 265 1 0 0 3 413 181 414 .none (.ref 415) (.ref 416) 417 832 833) ::
 (nat_lit 419,fu "_law_undone" "_law_undone" (top 74) "law_curveyard_k46_scenes_both_ways" 786 418) ::
 (nat_lit 423,co "_law_turn" "_law_turn" 835 836 837 270 2 0 0 3 420 181 421 .none .none .none 422 838 839) ::
 (nat_lit 424,fu "_law_turn" "_law_turn" (top 75) "law_curveyard_k46_scenes_both_ways" 786 423) ::
 (nat_lit 430,co "_law_base" "_law_base" 841 842 843 277 1 0 0 3 425 181 426 .none (.ref 427) (.ref 428) 429 847 848) ::
 (nat_lit 431,fu "_law_base" "_law_base" (top 76) "law_curveyard_k46_scenes_both_ways" 786 430) ::
 (nat_lit 435,co "_law_joined" "_law_joined" 850 851 852 287 2 0 0 3 432 181 433 .none .none .none 434 853 854) ::
 (nat_lit 436,fu "_law_joined" "_law_joined" (top 77) "law_curveyard_k46_scenes_both_ways" 786 435) ::
 (nat_lit 440,co "_law_corners" "_law_corners" 856 857 858 303 1 0 0 3 437 181 438 .none .none .none 439 859 860) ::
 (nat_lit 441,fu "_law_corners" "_law_corners" (top 78) "law_curveyard_k46_scenes_both_ways" 786 440) ::
 (nat_lit 447,co "_law_loose" "_law_loose" 862 863 864 308 2 0 0 3 442 181 443 .none (.ref 444) (.ref 445) 446 871 872) ::
 (nat_lit 448,fu "_law_loose" "_law_loose" (top 79) "law_curveyard_k46_scenes_both_ways" 786 447) ::
 (nat_lit 454,co "_law_word" "_law_word" 874 875 876 316 2 0 0 3 449 181 450 .none (.ref 451) (.ref 452) 453 885 886) ::
 (nat_lit 455,fu "_law_word" "_law_word" (top 80) "law_curveyard_k46_scenes_both_ways" 786 454) ::
 (nat_lit 459,co "_law_curve_rows" "_law_curve_rows" 888 889 890 334 4 0 0 3 456 181 457 .none .none .none 458 891 892) ::
 (nat_lit 460,fu "_law_curve_rows" "_law_curve_rows" (top 81) "law_curveyard_k46_scenes_both_ways" 786 459) ::
 (nat_lit 464,co "_law_spot" "_law_spot" 894 895 896 341 3 0 0 3 461 181 462 .none .none .none 463 897 898) ::
 (nat_lit 465,fu "_law_spot" "_law_spot" (top 82) "law_curveyard_k46_scenes_both_ways" 786 464) ::
 (nat_lit 469,co "_law_box" "_law_box" 900 901 902 343 4 0 0 3 466 181 467 .none .none .none 468 903 904) ::
 (nat_lit 470,fu "_law_box" "_law_box" (top 83) "law_curveyard_k46_scenes_both_ways" 786 469) ::
 (nat_lit 476,co "_law_deed" "_law_deed" 906 907 908 356 5 0 0 3 471 181 472 .none (.ref 473) (.ref 474) 475 921 922) ::
 (nat_lit 477,fu "_law_deed" "_law_deed" (top 84) "law_curveyard_k46_scenes_both_ways" 786 476) ::
 (nat_lit 481,co "_law_place_text" "_law_place_text" 924 925 926 382 1 0 0 3 478 181 479 .none .none .none 480 927 928) ::
 (nat_lit 482,fu "_law_place_text" "_law_place_text" (top 85) "law_curveyard_k46_scenes_both_ways" 786 481) ::
 (nat_lit 488,co "_law_deed_row" "_law_deed_row" 930 931 932 384 1 0 0 3 483 181 484 .none (.ref 485) (.ref 486) 487 936 937) ::
 (nat_lit 489,fu "_law_deed_row" "_law_deed_row" (top 86) "law_curveyard_k46_scenes_both_ways" 786 488) ::
 (nat_lit 493,co "_law_raised" "_law_raised" 939 940 941 392 1 0 0 3 490 181 491 .none .none .none 492 942 943) ::
 (nat_lit 494,fu "_law_raised" "_law_raised" (top 87) "law_curveyard_k46_scenes_both_ways" 786 493) ::
 (nat_lit 498,co "_law_scene_same" "_law_scene_same" 945 946 947 399 8 0 0 3 495 181 496 .none .none .none 497 948 949) ::
 (nat_lit 499,fu "_law_scene_same" "_law_scene_same" (top 88) "law_curveyard_k46_scenes_both_ways" 786 498) ::
 (nat_lit 503,co "law" "law" 951 952 953 404 1 0 0 3 500 181 501 .none .none .none 502 954 955) ::
 (nat_lit 504,fu "law" "law" (top 89) "law_curveyard_k46_scenes_both_ways" 786 503)::[]
def mM:Program:=view PySem.Challenge.pw_curveyard_k46_scenes_both_ways [89]
def loose:List Str:="BITS"::"FLIPS"::"AXES"::"turned"::"still"::"after"::"turn_text"::"turn_of"::"corner_text"::"corner_of"::"Part"::"Curve"::"first_state"::"part_at"::"walked"::"YardError"::"TextError"::"BadRow"::"CornerTwice"::"Unmet"::"FIGURES"::"LETTERS"::"LONGEST_NUMBER"::"LONGEST_WORD"::"number_of"::"is_word"::"is_made_of"::"full"::"deeper"::"next_to"::"unmet_at"::"meeting_of"::"PROMISES"::"DIMS"::"curve_rows"::"part_row"::"curve_from"::"words_at"::"read_head"::"read_part"::"fitted"::"place_text"::"place_of"::"MOST_LEVEL"::"LEAST_SIZE"::"MOST_SIZE"::"LEAST_MANY"::"MOST_MANY"::"MOST_DEEDS"::"FORMS"::"Scene"::"scene_text"::"deed_row"::"value_text"::"scene_of"::"read_floor"::"read_deed"::"read_value"::"number_from"::"_law_cell_at"::"_law_mix"::"_law_same"::"_law_turned"::"_law_after"::"_law_undone"::"_law_turn"::"_law_base"::"_law_joined"::"_law_corners"::"_law_loose"::"_law_word"::"_law_curve_rows"::"_law_spot"::"_law_box"::"_law_deed"::"_law_place_text"::"_law_deed_row"::"_law_raised"::"_law_scene_same"::[]
def zIP:List Addr:=nat_lit 3::nat_lit 18::nat_lit 19::nat_lit 23::nat_lit 24::nat_lit 28::nat_lit 29::nat_lit 33::nat_lit 34::nat_lit 38::nat_lit 39::nat_lit 43::nat_lit 44::nat_lit 48::nat_lit 49::nat_lit 62::nat_lit 63::nat_lit 65::nat_lit 66::nat_lit 67::nat_lit 68::nat_lit 83::nat_lit 84::nat_lit 86::nat_lit 87::nat_lit 88::nat_lit 89::nat_lit 97::nat_lit 98::nat_lit 104::nat_lit 105::nat_lit 111::nat_lit 112::nat_lit 121::nat_lit 122::nat_lit 123::nat_lit 138::nat_lit 139::nat_lit 141::nat_lit 142::nat_lit 153::nat_lit 154::nat_lit 165::nat_lit 166::nat_lit 181::nat_lit 182::nat_lit 184::nat_lit 185::nat_lit 188::nat_lit 194::nat_lit 195::nat_lit 201::nat_lit 202::nat_lit 206::nat_lit 207::nat_lit 213::nat_lit 214::nat_lit 218::nat_lit 219::nat_lit 223::nat_lit 224::nat_lit 230::nat_lit 231::nat_lit 235::nat_lit 236::nat_lit 237::nat_lit 238::nat_lit 242::nat_lit 243::nat_lit 249::nat_lit 250::nat_lit 256::nat_lit 257::nat_lit 263::nat_lit 264::nat_lit 270::nat_lit 271::nat_lit 277::nat_lit 278::nat_lit 284::nat_lit 285::nat_lit 289::nat_lit 290::nat_lit 294::nat_lit 295::nat_lit 296::nat_lit 297::nat_lit 298::nat_lit 299::nat_lit 300::nat_lit 301::nat_lit 302::nat_lit 303::nat_lit 304::nat_lit 305::nat_lit 306::nat_lit 307::nat_lit 308::nat_lit 309::nat_lit 310::nat_lit 323::nat_lit 324::nat_lit 326::nat_lit 327::nat_lit 328::nat_lit 329::nat_lit 335::nat_lit 336::nat_lit 340::nat_lit 341::nat_lit 347::nat_lit 348::nat_lit 354::nat_lit 355::nat_lit 361::nat_lit 362::nat_lit 366::nat_lit 367::nat_lit 373::nat_lit 374::nat_lit 380::nat_lit 381::nat_lit 387::nat_lit 388::nat_lit 394::nat_lit 395::nat_lit 401::nat_lit 402::nat_lit 406::nat_lit 407::nat_lit 411::nat_lit 412::nat_lit 418::nat_lit 419::nat_lit 423::nat_lit 424::nat_lit 430::nat_lit 431::nat_lit 435::nat_lit 436::nat_lit 440::nat_lit 441::nat_lit 447::nat_lit 448::nat_lit 454::nat_lit 455::nat_lit 459::nat_lit 460::nat_lit 464::nat_lit 465::nat_lit 469::nat_lit 470::nat_lit 476::nat_lit 477::nat_lit 481::nat_lit 482::nat_lit 488::nat_lit 489::nat_lit 493::nat_lit 494::nat_lit 498::nat_lit 499::nat_lit 503::nat_lit 504::[]
theorem zRw (P:Params):zIP=(zTc P).map (fun x=>x.1):=je
abbrev hook:Hook:=kHook zTc zIP zRw
abbrev zLT (s:Shared):Bool:=xlAt mM [] s&&recOk (RowW.records PySem.Challenge.rw_curveyard_k46_scenes_both_ways.row.toRowW) s
def b (P:Params)(i:Nat):Obj:=((zTc P).getD i (0,default)).2
def cf (n q:Str)(s:Stmt):Obj:=⟨.none,none,.func { name:=n,qualname:=q,params:=uT s,body:=.stmts (wH s),scope:=zS s,globals:=0,closure:=[],defaults:=.none,kwdefaults:=.none },#[]⟩
def zJY (P:Params):List Obj :=
 boot_o_0 P ::
 boot_o_1 P ::
 boot_o_2 P ::
 di #[ke P "__name__" 165 (.str "curveyard.figures" 442),ke P "__doc__" 166 .none,ke P "__package__" 167 .none,ke P "__loader__" 168 (.builtin "__main__.__loader__#opaque"),ke P "__spec__" 169 .none,ke P "__annotations__" 170 (.ref 6),ke P "__builtins__" 171 (.ref 4),ke P "__file__" 173 (.str "/claim/cut.py" 172),ke P "__cached__" 174 .none,ke P "BITS" 190 (.str "01" 189),ke P "FLIPS" 192 (.str "+-" 191),ke P "AXES" 194 (.str "xyz" 193),ke P "turned" 200 (.ref 19),ke P "still" 206 (.ref 24),ke P "after" 212 (.ref 29),ke P "turn_text" 218 (.ref 34),ke P "turn_of" 224 (.ref 39),ke P "corner_text" 230 (.ref 44),ke P "corner_of" 236 (.ref 49),ke P "Part" 271 (.ref 66),ke P "Curve" 306 (.ref 87),ke P "first_state" 313 (.ref 98),ke P "part_at" 326 (.ref 105),ke P "walked" 335 (.ref 112),ke P "YardError" 355 (.ref 122),ke P "TextError" 380 (.ref 142),ke P "BadRow" 396 (.ref 154),ke P "CornerTwice" 412 (.ref 166),ke P "Unmet" 441 (.ref 185),ke P "FIGURES" 445 (.str "0123456789" 444),ke P "LETTERS" 447 (.str "abcdefghijklmnopqrstuvwxyz" 446),ke P "LONGEST_NUMBER" 449 (.int 60 448),ke P "LONGEST_WORD" 451 (.int 12 450),ke P "number_of" 460 (.ref 195),ke P "is_word" 467 (.ref 202)] 35 ::
 boot_o_4 P ::
 boot_o_5 P ::
 boot_o_6 P ::
 boot_o_7 P ::
 boot_o_8 P ::
 boot_o_9 P ::
 boot_o_10 P ::
 tu #[] 0 ::
 nf #[.int 5 0,.int 0 0,.ref 18,.int 7 0,.int 0 0,.ref 23,.int 9 0,.int 0 0,.ref 28,.int 11 0,.int 0 0,.ref 33,.int 13 0,.int 0 0,.ref 38,.int 21 0,.int 0 0,.ref 43,.int 23 0,.int 0 0,.ref 48,.int 29 0,.int 0 0,.ref 55,.int 35 0,.int 0 0,.ref 76,.int 42 0,.int 0 0,.ref 97,.int 44 0,.int 0 0,.ref 104,.int 49 0,.int 0 0,.ref 111,.int 52 0,.int 0 0,.ref 118,.int 54 0,.int 0 0,.ref 131,.int 58 0,.int 0 0,.ref 150,.int 60 0,.int 0 0,.ref 162,.int 62 0,.int 0 0,.ref 174,.int 73 0,.int 0 0,.ref 194,.int 82 0,.int 0 0,.ref 201] ::
 cb "<module>" 182 183 184 1 11 181 12 185 186 ::
 fm #[some (.ref 13),some (.ref 3),some (.ref 3),none,some (.str "__main__" 164),none,some (.ref 0)] ::
 tu #[] 0 ::
 nf #[] ::
 cf "turned" "turned" (top 4) ::
 b P 1 ::
 b P 2 ::
 tu #[] 0 ::
 nf #[] ::
 cf "still" "still" (top 5) ::
 b P 3 ::
 b P 4 ::
 tu #[] 0 ::
 nf #[] ::
 cf "after" "after" (top 6) ::
 b P 5 ::
 b P 6 ::
 tu #[] 0 ::
 nf #[] ::
 cf "turn_text" "turn_text" (top 7) ::
 b P 7 ::
 b P 8 ::
 tu #[] 0 ::
 nf #[] ::
 cf "turn_of" "turn_of" (top 8) ::
 b P 9 ::
 b P 10 ::
 tu #[] 0 ::
 nf #[] ::
 cf "corner_text" "corner_text" (top 9) ::
 b P 11 ::
 b P 12 ::
 tu #[] 0 ::
 nf #[] ::
 cf "corner_of" "corner_of" (top 10) ::
 b P 13 ::
 b P 14 ::
 tu #[] 0 ::
 tf "builtin_function_or_method" #[.builtin "type.__prepare__",.type "type"] ::
 di #[ke P "__module__" 246 (.str "curveyard.curves" 237),ke P "__qualname__" 248 (.str "Part" 247),ke P "__firstlineno__" 250 (.int 29 249),ke P "__init__" 260 (.ref 63),ke P "__static_attributes__" 264 (.ref 64)] 5 ::
 tu #[] 0 ::
 nf #[.int 31 0,.int 4 0,.ref 62] ::
 cb "Part" 241 242 243 29 53 181 54 244 245 ::
 fm #[some (.ref 55),some (.ref 3),some (.ref 52),none,some (.str "curveyard.curves" 237),none,some (.ref 0)] ::
 tu #[] 0 ::
 nf #[] ::
 tu #[.str "self" 254,.str "corner" 255,.str "turn" 256,.str "back" 257] 0 ::
 tu #[] 0 ::
 cf "__init__" "Part.__init__" (rR (top 12) 0) ::
 b P 15 ::
 b P 16 ::
 tu #[.str "back" 261,.str "corner" 262,.str "turn" 263] 0 ::
 b P 17 ::
 b P 18 ::
 b P 19 ::
 b P 20 ::
 tf "super" #[.ref 66,.ref 66,.ref 66] ::
 tf "builtin_function_or_method" #[.builtin "object.__init_subclass__",.ref 66] ::
 tu #[] 0 ::
 tf "builtin_function_or_method" #[.builtin "type.__prepare__",.type "type"] ::
 di #[ke P "__module__" 279 (.str "curveyard.curves" 237),ke P "__qualname__" 281 (.str "Curve" 280),ke P "__firstlineno__" 283 (.int 35 282),ke P "__init__" 294 (.ref 84),ke P "__static_attributes__" 299 (.ref 85)] 5 ::
 tu #[] 0 ::
 nf #[.int 37 0,.int 4 0,.ref 83] ::
 cb "Curve" 274 275 276 35 74 181 75 277 278 ::
 fm #[some (.ref 76),some (.ref 3),some (.ref 73),none,some (.str "curveyard.curves" 237),none,some (.ref 0)] ::
 tu #[] 0 ::
 nf #[] ::
 tu #[.str "self" 287,.str "name" 288,.str "dims" 289,.str "joined" 290,.str "parts" 291] 0 ::
 tu #[] 0 ::
 cf "__init__" "Curve.__init__" (rR (top 13) 0) ::
 b P 21 ::
 b P 22 ::
 tu #[.str "dims" 295,.str "joined" 296,.str "name" 297,.str "parts" 298] 0 ::
 b P 23 ::
 b P 24 ::
 b P 25 ::
 b P 26 ::
 tf "super" #[.ref 87,.ref 87,.ref 87] ::
 tf "builtin_function_or_method" #[.builtin "object.__init_subclass__",.ref 87] ::
 tu #[] 0 ::
 nf #[] ::
 tu #[.str "dims" 310] 0 ::
 tu #[] 0 ::
 cf "first_state" "first_state" (top 14) ::
 b P 27 ::
 b P 28 ::
 tu #[] 0 ::
 nf #[] ::
 tu #[.str "curve" 317,.str "state" 318,.str "digit" 319,.str "turn" 320,.str "back" 321,.str "part" 322,.str "inner" 323] 0 ::
 tu #[] 0 ::
 cf "part_at" "part_at" (top 15) ::
 b P 29 ::
 b P 30 ::
 tu #[] 0 ::
 nf #[] ::
 tu #[.str "curve" 330,.str "back" 331,.str "number" 332] 0 ::
 tu #[] 0 ::
 cf "walked" "walked" (top 16) ::
 b P 31 ::
 b P 32 ::
 tu #[.type "ValueError"] 0 ::
 tf "builtin_function_or_method" #[.builtin "type.__prepare__",.type "type"] ::
 di #[ke P "__module__" 345 (.str "curveyard.errors" 336),ke P "__qualname__" 347 (.str "YardError" 346),ke P "__firstlineno__" 349 (.int 52 348),ke P "__static_attributes__" 350 (.ref 120)] 4 ::
 tu #[] 0 ::
 nf #[] ::
 cb "YardError" 340 341 342 52 116 181 117 343 344 ::
 fm #[some (.ref 118),some (.ref 3),some (.ref 115),none,some (.str "curveyard.errors" 336),none,some (.ref 0)] ::
 tu #[] 0 ::
 b P 33 ::
 b P 34 ::
 b P 35 ::
 tf "super" #[.ref 122,.ref 122,.ref 122] ::
 tf "builtin_function_or_method" #[.builtin "object.__init_subclass__",.ref 122] ::
 tu #[.ref 122] 0 ::
 tf "builtin_function_or_method" #[.builtin "type.__prepare__",.type "type"] ::
 di #[ke P "__module__" 363 (.str "curveyard.errors" 336),ke P "__qualname__" 365 (.str "TextError" 364),ke P "__firstlineno__" 367 (.int 54 366),ke P "__init__" 375 (.ref 139),ke P "__static_attributes__" 377 (.ref 140)] 5 ::
 tu #[] 0 ::
 nf #[.int 56 0,.int 4 0,.ref 138] ::
 cb "TextError" 358 359 360 54 129 181 130 361 362 ::
 fm #[some (.ref 131),some (.ref 3),some (.ref 128),none,some (.str "curveyard.errors" 336),none,some (.ref 0)] ::
 tu #[] 0 ::
 nf #[] ::
 tu #[.str "self" 371,.str "row" 372] 0 ::
 tu #[] 0 ::
 cf "__init__" "TextError.__init__" (rR (top 19) 0) ::
 b P 36 ::
 b P 37 ::
 tu #[.str "row" 376] 0 ::
 b P 38 ::
 b P 39 ::
 tf "super" #[.ref 142,.ref 142,.ref 142] ::
 tf "builtin_function_or_method" #[.builtin "object.__init_subclass__",.ref 142] ::
 tu #[.ref 142] 0 ::
 tf "builtin_function_or_method" #[.builtin "type.__prepare__",.type "type"] ::
 di #[ke P "__module__" 388 (.str "curveyard.errors" 336),ke P "__qualname__" 390 (.str "BadRow" 389),ke P "__firstlineno__" 392 (.int 58 391),ke P "__static_attributes__" 393 (.ref 152)] 4 ::
 tu #[] 0 ::
 nf #[] ::
 cb "BadRow" 383 384 385 58 148 181 149 386 387 ::
 fm #[some (.ref 150),some (.ref 3),some (.ref 147),none,some (.str "curveyard.errors" 336),none,some (.ref 0)] ::
 tu #[] 0 ::
 b P 40 ::
 b P 41 ::
 tf "super" #[.ref 154,.ref 154,.ref 154] ::
 tf "builtin_function_or_method" #[.builtin "object.__init_subclass__",.ref 154] ::
 tu #[.ref 142] 0 ::
 tf "builtin_function_or_method" #[.builtin "type.__prepare__",.type "type"] ::
 di #[ke P "__module__" 404 (.str "curveyard.errors" 336),ke P "__qualname__" 406 (.str "CornerTwice" 405),ke P "__firstlineno__" 408 (.int 60 407),ke P "__static_attributes__" 409 (.ref 164)] 4 ::
 tu #[] 0 ::
 nf #[] ::
 cb "CornerTwice" 399 400 401 60 160 181 161 402 403 ::
 fm #[some (.ref 162),some (.ref 3),some (.ref 159),none,some (.str "curveyard.errors" 336),none,some (.ref 0)] ::
 tu #[] 0 ::
 b P 42 ::
 b P 43 ::
 tf "super" #[.ref 166,.ref 166,.ref 166] ::
 tf "builtin_function_or_method" #[.builtin "object.__init_subclass__",.ref 166] ::
 tu #[.ref 122] 0 ::
 tf "builtin_function_or_method" #[.builtin "type.__prepare__",.type "type"] ::
 di #[ke P "__module__" 420 (.str "curveyard.errors" 336),ke P "__qualname__" 422 (.str "Unmet" 421),ke P "__firstlineno__" 424 (.int 62 423),ke P "__init__" 434 (.ref 182),ke P "__static_attributes__" 438 (.ref 183)] 5 ::
 tu #[] 0 ::
 nf #[.int 64 0,.int 4 0,.ref 181] ::
 cb "Unmet" 415 416 417 62 172 181 173 418 419 ::
 fm #[some (.ref 174),some (.ref 3),some (.ref 171),none,some (.str "curveyard.errors" 336),none,some (.ref 0)] ::
 tu #[] 0 ::
 nf #[] ::
 tu #[.str "self" 428,.str "first" 429,.str "second" 430,.str "level" 431] 0 ::
 tu #[] 0 ::
 cf "__init__" "Unmet.__init__" (rR (top 22) 0) ::
 b P 44 ::
 b P 45 ::
 tu #[.str "first" 435,.str "level" 436,.str "second" 437] 0 ::
 b P 46 ::
 b P 47 ::
 tf "super" #[.ref 185,.ref 185,.ref 185] ::
 tf "builtin_function_or_method" #[.builtin "object.__init_subclass__",.ref 185] ::
 b P 48 ::
 tu #[] 0 ::
 nf #[] ::
 tu #[.str "text" 455,.str "most" 456,.str "number" 457] 0 ::
 tu #[] 0 ::
 cf "number_of" "number_of" (top 28) ::
 b P 49 ::
 b P 50 ::
 tu #[] 0 ::
 nf #[] ::
 tu #[.str "text" 464] 0 ::
 tu #[] 0 ::
 cf "is_word" "is_word" (top 29) ::
 b P 51 ::
 b P 52::[]
def zXt:Env:={ scope:=PySem.Challenge.rw_curveyard_k46_scenes_both_ways.row.prog.main.scope,locals:=mainNs,globals:=mainNs,cells:=[],code:=.ref 13,frame:=some 14 }
def zHU:List Stmt:=(behindTheImports PySem.Challenge.rw_curveyard_k46_scenes_both_ways.row.prog).take 30
def zJD:List Stmt:=(behindTheImports PySem.Challenge.rw_curveyard_k46_scenes_both_ways.row.prog).drop 30
def zH8 (w:World)(os:OsState):Shared:=⟨⟨⟨zJY w.params⟩,{}⟩,#[],⟨0,0,0,0⟩,468,os⟩
def zLz:Pos:=⟨0,0,0,0⟩
def zJa:Pos:=⟨0,0,0,0⟩
def zMK:Pos:=⟨0,0,0,0⟩
def zLh:Pos:=⟨82,0,83,50⟩
abbrev zTH:Code:=.body (zHU++zJD) zXt
abbrev zGh (w:World)(os:OsState):=topGo treeTable PySem.Challenge.rw_curveyard_k46_scenes_both_ways.row.prog w 11 (some (.ref 6)) 12 ⟨boot_heap w.params,Array.mk [],boot_drawn,boot_toks,os⟩ (topStub PySem.Challenge.rw_curveyard_k46_scenes_both_ways.row.prog)
abbrev zHK (w:World)(os:OsState):=(zGh w os).bind fun x=>segRun treeTable PySem.Challenge.rw_curveyard_k46_scenes_both_ways.row.prog w 11 (some (.ref 6)) 1 1 x.1 (blockOf (zHU++zJD) zXt zTH zJa [topFrame zLz])
theorem zG1 (w:World)(os:OsState):(zGh w os).map (fun x=>x.2)=some ⟨denote treeTable zTH,zTH,zJa,[topFrame zLz]⟩:=je
theorem zFV (w:World)(os:OsState):(zHK w os).map (fun y=>(y.1,y.2.2))=some (.next,zTH,zMK):=je
theorem zG3 (w:World)(os:OsState):((zHK w os).bind fun y=>segRun treeTable PySem.Challenge.rw_curveyard_k46_scenes_both_ways.row.prog w 11 (some (.ref 6)) 1 2056 y.2.1 (piecesOf zHU zXt zTH zMK [topFrame zLz]))=some (.next,zH8 w os,zTH,zLh):=je
abbrev zKN (w:World)(os:OsState):Option Shared:=(topRun treeTable PySem.Challenge.rw_curveyard_k46_scenes_both_ways.row.prog w 11 (some (.ref 6)) 2032 (zH8 w os) (restOf zJD zXt zTH zLh [topFrame zLz])).bind fun s=>match staticsOk (importedModules PySem.Challenge.rw_curveyard_k46_scenes_both_ways.row.prog.main.body) (boot_heap w.params) s.heap&&namesBound PySem.Challenge.rw_curveyard_k46_scenes_both_ways.row.prog s.heap&&gensDone s&&laidKept (boot_heap w.params) s.heap with
 | true=>some s
 | false=>none
def pT (w:World):Prop:=∀os:OsState,(zKN w os).map (fun s=>openSeen mM loose (importedModules PySem.Challenge.rw_curveyard_k46_scenes_both_ways.row.prog.main.body) zLT true s)=some (openGood mM loose)
theorem zRq (w:World):pT (w.withFollow "special-get-raises" false):=by unfold pT;intros;kernel_rfl
theorem zSr (w:World):pT (w.withFollow "special-get-raises" true):=by unfold pT;intros;kernel_rfl
theorem zNq (w:World)(os:OsState):(zKN w os).map (fun s=>openSeen mM loose (importedModules PySem.Challenge.rw_curveyard_k46_scenes_both_ways.row.prog.main.body) zLT true s)=some (openGood mM loose):=byRow2 "special-get-raises" (P:=pT) zRq zSr w os
def qQ (w:World):Prop:=∀os:OsState,(zKN w os).map hook.obs=some (hook.val w)
theorem zRP (w:World):qQ (w.withFollow "special-get-raises" false):=by unfold qQ;intros;kernel_rfl
theorem zSP (w:World):qQ (w.withFollow "special-get-raises" true):=by unfold qQ;intros;kernel_rfl
theorem zOu (w:World)(os:OsState):(zKN w os).map hook.obs=some (hook.val w):=byRow2 "special-get-raises" (P:=qQ) zRP zSP w os
theorem zM9 (w:World):((boot_heap w.params).isNs mainGlobals&&(Array.mk []:Array GenState).size==0,(boot_heap w.params).objs.size,(boot_heap w.params).nsMap mainGlobals "__annotations__")=(true,11,some (.ref 6)):=je
theorem zNd:opening PySem.Challenge.rw_curveyard_k46_scenes_both_ways.row.prog=plainProg PySem.Challenge.rw_curveyard_k46_scenes_both_ways.row.prog.main.scope.names:=je
theorem zOe (s:Shared):fenceModules? PySem.Challenge.rw_curveyard_k46_scenes_both_ways.row.prog s=some s:=je
theorem zKy (w:World)(os:OsState)(r:Shared)(k:topRun treeTable PySem.Challenge.rw_curveyard_k46_scenes_both_ways.row.prog w 11 (some (.ref 6)) 2032 (zH8 w os) (restOf zJD zXt zTH zLh [topFrame zLz])=some r):topRun treeTable PySem.Challenge.rw_curveyard_k46_scenes_both_ways.row.prog w 11 (some (.ref 6)) (12+(1+(2056+2032))) ⟨boot_heap w.params,Array.mk [],boot_drawn,boot_toks,os⟩ (topStub PySem.Challenge.rw_curveyard_k46_scenes_both_ways.row.prog)=some r:=by
 have ha:=zG1 w os
 have hb:=zFV w os
 have hc:=zG3 w os
 obtain⟨⟨sa,ta⟩,ga,ea⟩:=Qy.mp ha
 have ea':ta=_:=ea
 subst ea'
 unfold zHK at hb hc
 rw[ga] at hb hc
 obtain⟨⟨fb,sb,cb,pb⟩,gb,eb⟩:=Qy.mp hb
 have e1:fb=Flow.next:=Eo (fun y:Flow×Code×Pos=>y.1) eb
 have e2:cb=zTH:=Eo (fun y:Flow×Code×Pos=>y.2.1) eb
 have e3:pb=zMK:=Eo (fun y:Flow×Code×Pos=>y.2.2) eb
 subst e1 e2 e3
 have gb':=gb
 rw[Qq] at gb'
 rw[gb] at hc
 rw[Qq] at hc
 exact go_top ga (piece_block gb' (piece_app hc k))
def zSD {β:Type}{f:Shared->β}{v:World->β}(h:∀w os,(zKN w os).map f=some (v w))(w:World):(openEnds treeTable PySem.Challenge.rw_curveyard_k46_scenes_both_ways.row.prog w 8114).map f=some (v w):=by
 obtain⟨⟨hp,gs,d,k,os⟩,e,e'⟩:=Qy.mp (boot_open zNd (N:=8114) jb zOe w)
 have e1:hp=_:=Eo (fun y:Heap×Array GenState×Drawn×Nat=>y.1) e'
 have e2:gs=_:=Eo (fun y:Heap×Array GenState×Drawn×Nat=>y.2.1) e'
 have e3:d=_:=Eo (fun y:Heap×Array GenState×Drawn×Nat=>y.2.2.1) e'
 have e4:k=_:=Eo (fun y:Heap×Array GenState×Drawn×Nat=>y.2.2.2) e'
 subst e1 e2 e3 e4
 have z:=zM9 w
 have z1:=Eo (fun y:Bool×Nat×Option Value=>y.1) z
 have z2:=Eo (fun y:Bool×Nat×Option Value=>y.2.1) z
 have z3:=Eo (fun y:Bool×Nat×Option Value=>y.2.2) z
 dsimp only at z1 z2 z3
 have q:=h w os
 obtain⟨s1,hs,hf⟩:=Qy.mp q
 obtain⟨r,hr,hm⟩:=Qw.mp hs
 have m:=topRun_mono (8114 - (12+(1+(2056+2032)))) _ _ _ _ (zKy w os r hr)
 rw[show 12+(1+(2056+2032))+(8114 - (12+(1+(2056+2032))))=8114 from jc] at m
 unfold openEnds
 rw[e,Qq]
 unfold topFrom
 dsimp only
 rw[z1,z2,z3,m]
 show(match staticsOk _ _ r.heap&&_&&_&&_ with | true=>some r | false=>none:Option Shared).map f=_
 rw[←hf]
 exact Eo (Option.map f) hm
def zJf {α β γ:Type}{x:Option α}{f:α->β}{g:α->γ}{a:β}{b:γ}(h1:x.map f=some a)(h2:x.map g=some b):x.map (fun s=>(f s,g s))=some (a,b):=by
 cases x with
 | none=>cases h1
 | some s=>cases h1;cases h2;rfl
def zJi:LeftO PySem.Challenge.rw_curveyard_k46_scenes_both_ways.row.prog mM loose zLT hook.obs hook.val 8114:=fun w=>zJf (zSD (v:=fun _=>openGood mM loose) zNq w) (zSD zOu w)
theorem zMu:PySem.Challenge.rw_curveyard_k46_scenes_both_ways.row.wellSaid=true:=je
theorem zJR:PySem.W.OpenLaw.wellSaid PySem.Challenge.rw_curveyard_k46_scenes_both_ways=true:=by
 unfold PySem.W.OpenLaw.wellSaid
 rw[zMu]
 kernel_rfl
end My
namespace L2
open PySem PySem.Spec PyProof.Rows
abbrev Key:=Sum Int Str
def zIR:Key->Value->Bool
 | .inl k,v=>Value.isInt k v
 | .inr x,v=>Value.isStrOf x v
def zFy (w:World):Key->Int
 | .inl k=>hashInt k
 | .inr x=>hashStr w x
def vA:∀ {k:Key} {v:Value},zIR k v=true->(∃i t,k=Sum.inl i/\v=Value.int i t)∨(∃x t,k=Sum.inr x/\v=Value.str x t)
 | .inl i,v,h=>by
   obtain⟨t,e⟩:=Value.isInt_shape (k:=i) (v:=v) h
   exact .inl ⟨i,t,rfl,e⟩
 | .inr x,v,h=>by
   obtain⟨t,e⟩:=Value.isStrOf_shape (x:=x) (v:=v) h
   exact .inr ⟨x,t,rfl,e⟩
def zHo (a b:Int):decide ((Sum.inl a:Key)=Sum.inl b)=(a==b):=by
 by_cases e:a=b
 · subst e;simp
 · have h:¬(Sum.inl a:Key)=Sum.inl b:=fun q=>e (Sum.inl.inj q)
   rw[Qb h]
   exact(Ej.mpr e).symm
def zIH (a b:Str):decide ((Sum.inr a:Key)=Sum.inr b)=decide (a=b):=by
 by_cases e:a=b
 · subst e;simp
 · have h:¬(Sum.inr a:Key)=Sum.inr b:=fun q=>e (Sum.inr.inj q)
   rw[Qb h,Qb e]
def zIo (a:Int)(b:Str):decide ((Sum.inl a:Key)=Sum.inr b)=false:=Qb (fun q=>nomatch q)
def zHC (a:Str)(b:Int):decide ((Sum.inr a:Key)=Sum.inl b)=false:=Qb (fun q=>nomatch q)
def zPs (prog:Program)(w:World):PySem.KeyKind prog w Key where
 is:=zIR
 hash:=zFy w
 inj:=fun v a b ha hb=>by
   rcases vA ha with⟨i,t,rfl,rfl⟩ | ⟨x,t,rfl,rfl⟩
   · rcases vA hb with⟨j,u,rfl,e⟩ | ⟨y,u,rfl,e⟩
     · injection e with e1 _;rw[e1]
     · exact nomatch e
   · rcases vA hb with⟨j,u,rfl,e⟩ | ⟨y,u,rfl,e⟩
     · exact nomatch e
     · injection e with e1 _;rw[e1]
 byValue:=fun k v h=>by
   rcases vA h with⟨i,t,rfl,rfl⟩ | ⟨x,t,rfl,rfl⟩<;>rfl
 pyHash:=fun hv h=>by
   rcases vA hv with⟨i,t,rfl,rfl⟩ | ⟨x,t,rfl,rfl⟩
   · exact wpAny_pyHash_int h
   · exact wpAny_pyHash_str h
 eqBool:=fun hu hv h=>by
   rcases vA hu with⟨i,t,rfl,rfl⟩ | ⟨x,t,rfl,rfl⟩
   · rcases vA hv with⟨j,u,rfl,rfl⟩ | ⟨y,u,rfl,rfl⟩
     · rw[zHo] at h;exact wpAny_eqBool_int h
     · rw[zIo] at h;exact SeqAt.EqAt.int_str i t y u _ _ _ _ h
   · rcases vA hv with⟨j,u,rfl,rfl⟩ | ⟨y,u,rfl,rfl⟩
     · rw[zHC] at h;exact SeqAt.EqAt.str_int x t j u _ _ _ _ h
     · rw[zIH] at h;exact wpAny_eqBool_str h
 «strs» := fun k x t v h=>by
   rcases vA h with⟨i,u,rfl,e⟩ | ⟨y,u,rfl,e⟩
   · exact nomatch e
   · injection e with e1 _
     subst e1
     cases v<;>rfl
inductive V where
 | non | bl (b:Bool) | int (i:Int) | str (x:Str) | byt (b:Array UInt8) | flt (b:UInt64) | ref (a:Addr) | ty (n:String)
 deriving DecidableEq
def RelV:V->Value->Prop
 | .non,u=>u=Value.none
 | .bl b,u=>u=Value.bool b
 | .int i,u=>∃t,u=Value.int i t
 | .str x,u=>∃t,u=Value.str x t
 | .byt b,u=>∃t,u=Value.bytes b t
 | .flt b,u=>∃t,u=Value.float b t
 | .ref a,u=>u=Value.ref a
 | .ty n,u=>u=Value.type n
abbrev Vals:List V->List Value->Prop:=Paired RelV
def Vals.length {xs:List V}{us:jj}(r:Vals xs us):xs.length=us.length:=Paired.length r
def Vals.get:∀ {xs:List V} {us:jj} {i:Nat} {x:V},Vals xs us->xs[i]?=some x->∃u,us[i]?=some u/\RelV x u
 | _,_,_,_,.nil,e=>by simp at e
 | _,_,0,_,.cons r _,e=>by simp at e;subst e;exact⟨_,rfl,r⟩
 | _,_,i+1,x,.cons _ t,e=>by
   obtain⟨u,h1,h2⟩:=Vals.get (i:=i) (x:=x) t (by simpa using e)
   exact⟨u,by simpa using h1,h2⟩
def Vals.set {x:V}{u:Value}(r:RelV x u):∀ {xs:List V} {us:jj} (i:Nat),Vals xs us->Vals (xs.set i x) (us.set i u)
 | _,_,_,.nil=>.nil
 | _,_,0,.cons _ t=>.cons r t
 | _,_,i+1,.cons q t=>.cons q (Vals.set r i t)
def Vals.append:∀ {xs ys:List V} {us ws:jj},Vals xs us->Vals ys ws->Vals (xs++ys) (us++ws)
 | _,_,_,_,.nil,s=>s
 | _,_,_,_,.cons r t,s=>.cons r (Vals.append t s)
def Vals.take:∀ {xs:List V} {us:jj} (n:Nat),Vals xs us->Vals (xs.take n) (us.take n)
 | _,_,0,_=>.nil
 | _,_,_+1,.nil=>.nil
 | _,_,n+1,.cons r t=>.cons r (Vals.take n t)
def Vals.drop:∀ {xs:List V} {us:jj} (n:Nat),Vals xs us->Vals (xs.drop n) (us.drop n)
 | _,_,0,r=>r
 | _,_,_+1,.nil=>.nil
 | _,_,n+1,.cons _ t=>Vals.drop n t
def RelO:Option V->Option Value->Prop
 | some v,some u=>RelV v u
 | none,none=>True
 | _,_=>False
def KV {κ:Type}:List (κ×V)->List (κ×Value)->Prop:=Paired fun(p:κ×V) (q:κ×Value)=>p.1=q.1/\RelV p.2 q.2
def kV:Key->V
 | .inl i=>.int i
 | .inr x=>.str x
inductive HO where
 /-- a list -/
 | lst (xs:List V)
 /-- a tuple (never changes) -/
 | tup (xs:List V)
 /-- a dict whose keys are ints and texts; one whose keys are tuples of ints and texts (the empty one is both) -/
 | dK (j8:List (Key×V)) | dT (j8:List (List Key×V))
 /-- a set of ints: j6 members, j6 size -/
 | set (S:Int->Bool) (n:Nat)
 /-- an instance of the class at C, j6 dict at dx, j6 attributes -/
 | ins (C dx:Addr) (fs:List (Str×V))
 /-- the dict of the instance at x -/
 | own (x:Addr)
 /-- the dict of an exception -/
 | xd (fs:List (Str×V))
 /-- a bound method, f of x -/
 | met (f x:Addr)
 /-- a range object lo, lo + 1, .. below hi -/
 | rng (lo hi:Int)
 /-- a thing that is known to the object (the script; a dict while a loop walks it): read, never written while it is so -/
 | frz (o:Obj) (u:HO)
 /-- a code object's table -/
 | tbl (ps:jk)
 /-- any other thing, by what is true of j6 one object (a def of one's own: SetO a S n := HO.ext fun h => ..) -/
 | ext (φ:Heap->Prop)
abbrev Hp:=Addr->Option HO
def upd (H:Hp)(a:Addr)(o:HO):Hp:=fun b=>if b=a then some o else H b
def yW {H:Hp}{a:Addr}{o:HO}:upd H a o a=some o:=by unfold upd;rw[Qv rfl]
def yL {H:Hp}{a b:Addr}{o:HO}(h:b≠a):upd H a o b=H b:=by unfold upd;rw[Wh h]
def xH {H:Hp}{a b:Addr}{o:HO}(h:H a=some o)(h':H b=none):a≠b:=by
 intro e;subst e;rw[h] at h';cases h'
section
variable (P:Program) (w:World)
def ObjOk (H:Hp)(h:Heap)(a:Addr):HO->Prop
 | .lst xs=>xs.length<=sizeLine/\∃(j6:jj) (n:Nat),Vals xs j6/\h.get? a=some { cls:=.type "list",data:=.seq j6.toArray n }
 | .tup xs=>xs.length<=sizeLine/\∃j6:List Value,Vals xs j6/\IsTup h a j6.toArray
 | .dK j8=>j8.length<=sizeLine/\(a==sysModules)=false/\∃vs,KV j8 vs/\h.DictOf (zPs P w) a vs
 | .dT j8=>j8.length<=sizeLine/\(a==sysModules)=false/\∃xs:List (List Key×Addr×Value),
     Paired (fun(p:List Key×V) (q:List Key×Addr×Value)=>p.1=q.1/\H q.2.1=some (.tup (p.1.map kV))/\RelV p.2 q.2.2) j8 xs /\
     ∃o es ep,h.get? a=some o/\o.ExactDict/\o.data = .dict es ep/\es.toList=xs.map (entryOfKey (tupleKind (zPs P w)))/\(xs.map (·.1)).Nodup
 | .set S n=>h.SetOf (intKind P w) a S n
 | .ins C dx fs=>H dx=some (.own a)/\fs.length<=1000/\dx≠a/\h.get? a=some (PySem.W.instObj C dx) /\
     ∃mA,h.Ns1 dx mA/\(∀f,RelO (fs.lookup f) (mA f))/\PySem.Within mA (fs.map (·.1))
 | .own _=>∃o,h.get? a=some o
 | .xd fs=>∃mA,h.Ns1 a mA/\∀f,RelO (fs.lookup f) (mA f)
 | .rng lo hi=>∃t u v,h.get? a=some { cls:=.type "range",data:=.fields #[.int lo t,.int hi u,.int 1 v] }
 | .frz o u=>h.get? a=some o/\ObjOk H h a u
 | .tbl ps=>h.get? a=some { cls:=.none,data:=.fields ps }
 | .met f x=>h.get? a=some (PySem.W.methodObj (.ref f) (.ref x))
 | .ext φ=>φ h/\(∃o,h.get? a=some o)/\∀h1 h2:Heap,φ h1->(∀o,h1.get? a=some o->h2.get? a=some o)->φ h2
def HOk (H:Hp)(h:Heap):Prop:=∀a o,H a=some o->ObjOk P w H h a o
end
section
variable {P:Program} {w:World} {H H':Hp} {h h':Heap} {a:Addr} {o:HO}
def ObjOk.lt (x:ObjOk P w H h a o):a < h.objs.size:=by
 cases o with
 | lst xs=>obtain⟨_,_,_,_,e⟩:=x;exact Qs e
 | tup xs=>obtain⟨_,_,_,p⟩:=x;exact p.lt
 | dK j8=>obtain⟨_,_,_,_,o,_,_,e,_⟩:=x;exact Qs e
 | dT j8=>obtain⟨_,_,_,_,o,_,_,e,_⟩:=x;exact Qs e
 | set S n=>obtain⟨o,_,_,_,e,_⟩:=x;exact Qs e
 | ins C dx fs=>obtain⟨_,_,_,e,_⟩:=x;exact Qs e
 | own y=>obtain⟨_,e⟩:=x;exact Qs e
 | xd fs=>obtain⟨_,⟨_,_,_,e,_⟩,_⟩:=x;exact Qs e
 | rng lo hi=>obtain⟨_,_,_,e⟩:=x;exact Qs e
 | frz ob u=>obtain⟨e,_⟩:=x;exact Qs e
 | tbl ps=>exact Qs (show h.get? a=some _ from x)
 | met f y=>exact Qs (show h.get? a=some _ from x)
 | ext φ=>obtain⟨_,⟨_,e⟩,_⟩:=x;exact Qs e
def Paired.mapP {α β:Type}{F G:α->β->Prop}:∀ {l₁:List α} {l₂:List β},Paired F l₁ l₂->(∀a b,F a b->G a b)->Paired G l₁ l₂
 | _,_,.nil,_=>.nil
 | _,_,.cons r t,f=>.cons (f _ _ r) (Paired.mapP t f)
def ObjOk.stay (x:ObjOk P w H h a o)(k:∀b u,(b=a∨H b=some (.own a))->h.get? b=some u->h'.get? b=some u)
   (ho:∀b,H b=some (.own a)->H' b=some (.own a)) (ht:∀b xs,H b=some (.tup xs)->H' b=some (.tup xs)):ObjOk P w H' h' a o:=by
 induction o with
 | lst xs=>obtain⟨z,j6,n,r,e⟩:=x;exact⟨z,j6,n,r,k _ _ (.inl rfl) e⟩
 | tup xs=>obtain⟨z,j6,r,ob,e,c⟩:=x;exact⟨z,j6,r,ob,k _ _ (.inl rfl) e,c⟩
 | dK j8=>obtain⟨z,y,vs,r,ob,es,ep,e,c⟩:=x;exact⟨z,y,vs,r,ob,es,ep,k _ _ (.inl rfl) e,c⟩
 | dT j8 =>
   obtain⟨z,y,xs,r,ob,es,ep,e,c⟩:=x
   exact⟨z,y,xs,Paired.mapP r fun p q z=>⟨z.1,ht _ _ z.2.1,z.2.2⟩,ob,es,ep,k _ _ (.inl rfl) e,c⟩
 | set S n=>obtain⟨ob,es,ep,t,e,c⟩:=x;exact⟨ob,es,ep,t,k _ _ (.inl rfl) e,c⟩
 | ins C dx fs =>
   obtain⟨d,z,ne,e,mA,⟨od,es,ep,e2,c⟩,r⟩:=x
   exact⟨ho _ d,z,ne,k _ _ (.inl rfl) e,mA,⟨od,es,ep,k _ _ (.inr d) e2,c⟩,r⟩
 | own y=>obtain⟨ob,e⟩:=x;exact⟨ob,k _ _ (.inl rfl) e⟩
 | xd fs=>obtain⟨mA,⟨od,es,ep,e,c⟩,r⟩:=x;exact⟨mA,⟨od,es,ep,k _ _ (.inl rfl) e,c⟩,r⟩
 | rng lo hi=>obtain⟨t,u,v,e⟩:=x;exact⟨t,u,v,k _ _ (.inl rfl) e⟩
 | frz ob u ih=>obtain⟨e,q⟩:=x;exact⟨k _ _ (.inl rfl) e,ih q⟩
 | tbl ps =>
   have e:h.get? a=some { cls:=.none,data:=.fields ps }:=x
   show h'.get? a=some { cls:=.none,data:=.fields ps }
   exact k a _ (.inl rfl) e
 | met f y =>
   have e:h.get? a=some (PySem.W.methodObj (.ref f) (.ref y)):=x
   show h'.get? a=some (PySem.W.methodObj (.ref f) (.ref y))
   exact k a _ (.inl rfl) e
 | ext φ=>obtain⟨p,⟨o,e⟩,st⟩:=x;exact⟨st _ _ p fun o q=>k _ _ (.inl rfl) q,⟨o,k _ _ (.inl rfl) e⟩,st⟩
def HOk.lt (x:HOk P w H h)(e:H a=some o):a < h.objs.size:=(x a o e).lt
def HOk.fresh (x:HOk P w H h)(e:h.objs.size<=a):H a=none:=by
 cases q:H a with
 | none=>rfl
 | some u=>exact absurd (Wp (x.lt q) e) (Wk _)
def HOk.kept (x:HOk P w H h)(k:∀b u,h.get? b=some u->h'.get? b=some u):HOk P w H h':=fun a o e =>
 (x a o e).stay (fun b u _ q=>k b u q) (fun _ q=>q) fun _ _ q=>q
def HOk.laid (x:HOk P w H h)(k:∀b u,h.get? b=some u->h'.get? b=some u)(hp:h.objs.size<=a)(new:ObjOk P w (upd H a o) h' a o):HOk P w (upd H a o) h':=fun b u e=>by
 have hn:=x.fresh hp
 by_cases hb:b=a
 · subst hb;rw[yW] at e;cases e;exact new
 · rw[yL hb] at e
   exact(x b u e).stay (fun c v _ q=>k c v q) (fun c q=>by rw[yL (xH q hn)];exact q) fun c xs q=>by rw[yL (xH q hn)];exact q
end
def Rd (H:Hp)(a:Addr)(u:HO):Prop:=H a=some u∨∃o,H a=some (.frz o u)
def Rd.ok {P:Program}{w:World}{H:Hp}{h:Heap}{a:Addr}{u:HO}(r:Rd H a u)(x:HOk P w H h):ObjOk P w H h a u:=by
 rcases r with r | ⟨o,r⟩
 · exact x a u r
 · obtain⟨_,q⟩:=x a _ r
   exact q
def Mut:Option HO->Prop
 | some (.lst _)=>True
 | some (.dK _)=>True
 | some (.dT _)=>True
 | some (.set _ _)=>True
 | some (.ins _ _ _)=>True
 | some (.ext _)=>True
 | _=>False
section
variable {P:Program} {w:World} {H:Hp} {h h':Heap} {x e:Addr} {o':HO}
def HOk.write (ok:HOk P w H h)(mu:Mut (H x))(he:e=x∨H e=some (.own x))(k:∀b u,b≠e->h.get? b=some u->h'.get? b=some u)(heo:∃u,h'.get? e=some u)
   (new:ObjOk P w (upd H x o') h' x o'):HOk P w (upd H x o') h':=fun b u q=>by
 have nown:∀c y,H c=some (.own y)->c≠x:=fun c y r z=>by subst z;rw[r] at mu;exact mu
 have ntup:∀c xs,H c=some (.tup xs)->c≠x:=fun c xs r z=>by subst z;rw[r] at mu;exact mu
 by_cases hb:b=x
 · subst hb;rw[yW] at q;cases q;exact new
 · rw[yL hb] at q
   by_cases hbe:b=e
   · have q':H b=some (.own x):=by
       rcases he with z | z
       · exact absurd (hbe.trans z) hb
       · rw[hbe];exact z
     rw[q] at q';cases q'
     obtain⟨v,hv⟩:=heo
     exact⟨v,by rw[hbe];exact hv⟩
   · refine(ok b u q).stay (fun c v hc r=>k c v ?_ r) (fun c r=>by rw[yL (nown c b r)];exact r) fun c xs r=>by rw[yL (ntup c xs r)];exact r
     rcases hc with rfl | hc
     · exact hbe
     · rintro rfl
       rcases he with z | z
       · exact nown c b hc z
       · rw[hc] at z;cases z;exact hb rfl
end
structure Un (fs ex:List Addr)(H H':Hp)(h h':Heap):Prop where
 keep:∀b o,h.get? b=some o->H b=none->b∉fs->b∉ex->h'.get? b=some o
 slot:∀b o,h.get? b=some o->H b=none->b∈fs->b∉ex->∃sl,h'.get? b=some { o with slots:=sl }
 free:∀b o,h.get? b=some o->H b=none->b∉ex->H' b=none
 there:∀b o,h.get? b=some o->b∉ex->∃o',h'.get? b=some o'
 tups:∀b xs,H b=some (.tup xs)->H' b=some (.tup xs)
 frzs:∀b o u,H b=some (.frz o u)->H' b=some (.frz o u)
 tbls:∀b ps,H b=some (.tbl ps)->∃more,H' b=some (.tbl (ps++more))
section
variable {fs ex:List Addr} {H H1 H2:Hp} {h h1 h2 h':Heap} {a x e:Addr} {o:HO}
def Un.any (u:Un fs ex H H1 h h1){b:Addr}{ob:Obj}(q:h.get? b=some ob)(n:H b=none)(hx:b∉ex):∃sl,h1.get? b=some { ob with slots:=sl }:=by
 by_cases hb:b∈fs
 · exact u.slot b ob q n hb hx
 · exact⟨ob.slots,u.keep b ob q n hb hx⟩
def Un.trans (a:Un fs ex H H1 h h1)(b:Un fs ex H1 H2 h1 h2):Un fs ex H H2 h h2 where
 keep:=fun c ob q n hc hx=>b.keep c ob (a.keep c ob q n hc hx) (a.free c ob q n hx) hc hx
 slot:=fun c ob q n hc hx=>by
   obtain⟨sl,e1⟩:=a.slot c ob q n hc hx
   obtain⟨sl',e2⟩:=b.slot c _ e1 (a.free c ob q n hx) hc hx
   exact⟨sl',e2⟩
 free:=fun c ob q n hx=>by
   obtain⟨o',e1⟩:=a.there c ob q hx
   exact b.free c o' e1 (a.free c ob q n hx) hx
 there:=fun c ob q hx=>by
   obtain⟨o',e1⟩:=a.there c ob q hx
   exact b.there c o' e1 hx
 tups:=fun c xs q=>b.tups c xs (a.tups c xs q)
 frzs:=fun c ob xs q=>b.frzs c ob xs (a.frzs c ob xs q)
 tbls:=fun c ps q=>by
   obtain⟨m1,e1⟩:=a.tbls c ps q
   obtain⟨m2,e2⟩:=b.tbls c _ e1
   exact⟨m1++m2,by rw[e2,Array.append_assoc]⟩
def Un.kept (k:∀b u,h.get? b=some u->h'.get? b=some u):Un fs ex H H h h' :=
 ⟨fun b ob q _ _ _=>k b ob q,fun b ob q _ _ _=>⟨ob.slots,k b ob q⟩,fun _ _ _ n _=>n,fun b ob q _=>⟨ob,k b ob q⟩,fun _ _ q=>q,fun _ _ _ q=>q,fun _ ps q=>⟨#[],by rw[q];simp⟩⟩
def Un.refl:Un fs ex H H h h:=Un.kept fun _ _ q=>q
def Un.laid (k:∀b u,h.get? b=some u->h'.get? b=some u)(hp:h.objs.size<=a)(hn:H a=none):Un fs ex H (upd H a o) h h' where
 keep:=fun b u q _ _ _=>k b u q
 slot:=fun b u q _ _ _=>⟨u.slots,k b u q⟩
 free:=fun b u q n _=>by rw[yL (Er (Wp (Qs q) hp))];exact n
 there:=fun b u q _=>⟨u,k b u q⟩
 tups:=fun b xs q=>by rw[yL (xH q hn)];exact q
 frzs:=fun b u xs q=>by rw[yL (xH q hn)];exact q
 tbls:=fun b ps q=>⟨#[],by rw[yL (xH q hn),q];simp⟩
def Un.write (mu:Mut (H x))(he:e=x∨H e=some (.own x))(k:∀b u,b≠e->h.get? b=some u->h'.get? b=some u)(heo:∃u,h'.get? e=some u):Un fs ex H (upd H x o) h h':=by
 have hx:∀b,H b=none->b≠x:=fun b n z=>by subst z;rw[n] at mu;exact mu
 have hb:∀b,H b=none->b≠e:=fun b n z=>by
   subst z
   rcases he with r | r
   · exact hx b n r
   · rw[n] at r;cases r
 have hm:∀b u,H b=some u->¬Mut (some u)->b≠x:=fun b u q nm z=>by subst z;rw[q] at mu;exact nm mu
 refine⟨fun b u q n _ _=>k b u (hb b n) q,fun b u q n _ _=>⟨u.slots,k b u (hb b n) q⟩,fun b u q n _=>by rw[yL (hx b n)];exact n,fun b u q _=>?_,
   fun b xs q=>by rw[yL (hm b _ q fun z=>z)];exact q,fun b u xs q=>by rw[yL (hm b _ q fun z=>z)];exact q,fun b ps q=>⟨#[],by rw[yL (hm b _ q fun z=>z),q];simp⟩⟩
 by_cases hbe:b=e
 · subst hbe;exact heo
 · exact⟨u,k b u hbe q⟩
end
def trk (h:Heap)(H:Hp):List Addr:=(List.range h.objs.size).filter fun a=>(H a).isSome
def zUx (h:Heap)(H:Hp):Heap:=PySem.W.hideAll h (trk h H)
def zMY (h:Heap)(H:Hp):(zUx h H).objs.size=h.objs.size:=PySem.W.hideAll_size _ _
def zMO {h:Heap}{H:Hp}{b:Addr}{o:Obj}(e:h.get? b=some o)(n:H b=none):(zUx h H).get? b=some o :=
 PySem.W.hideAll_get _ e fun hm=>by
   have q:(H b).isSome=true:=(List.mem_filter.mp hm).2
   rw[n] at q;simp at q
def zK9 {h:Heap}{H:Hp}{b:Addr}{o:Obj}(e:(zUx h H).get? b=some o):h.get? b=some o/\H b=none:=by
 have e':h.get? b=some o:=PySem.W.of_hideAll (trk h H) e
 refine⟨e',?_⟩
 cases q:H b with
 | none=>rfl
 | some x =>
   have hm:b∈trk h H:=List.mem_filter.mpr ⟨Te.mpr (Qs e'),by simp[q]⟩
   have z:(zUx h H).get? b=none:=PySem.W.hideAll_none (trk h H) hm
   rw[z] at e;cases e
def zKg (g h:Heap)(L:Addr):ji:=(List.range h.objs.size).filterMap fun a=>if a=L∨(g.get? a).isSome=true then none else(h.get? a).map fun o=>(a,o)
def rest (g h:Heap)(L d:Addr):ji:=(zKg g h L).filter fun p=>decide (p.1≠d)
structure Mod (K:jg)(mg:Str->Option Value)(base:Heap):Prop where
 kin:K.In base
 glob:base.Ns mainGlobals mg
 blt:∃mb,base.Ns builtinsNs mb/\∀x:Str,x≠"__name__"->mb x=bootBuiltins x
 nolimit:base.NoLimit
/-- the context: a def's body (or a comprehension's block) running. base: fixed through the whole law; s₀, H₀: the entry; outer: the frames whose slots others may change (a def's callers); stack: all frames that run;
  ex: iterators that were made ahead of the entry and are walked here (a comprehension's);fn: the names whose cells were made at the entry (a def: all;a comprehension's block: j6 own);calm: not within an except suite;pn: Z that every state bears;xe: what is wanted of an exception that leaves the code -/
structure Cx where
 prog:Program
 w:World
 K:jg
 mg:Str->Option Value
 base:Heap
 A:Around
 N:List Str
 s₀:Shared
 H₀:Hp
 env:Env
 outer:List Env
 stack:List Env
 ex:List Addr
 fn:Str->Bool
 calm:Bool
 pn:ji
 xe:Value->Shared->Prop
def frs (l:List Env):List Addr:=l.filterMap (·.frame)
abbrev Cx.fs (X:Cx):List Addr:=frs X.outer
def Vis (sc:Scope)(x:Str):Prop:=sc.names.lookup x=some .local∨sc.names.lookup x=some .cell∨sc.names.lookup x=some .free
def Loc (sc:Scope)(x:Str):Prop:=sc.names.lookup x=some .local∨sc.names.lookup x=some .cell
def zF0 (env:Env)(h:Heap)(m:Str->Option Value)(x:Str)(u:Value):Prop :=
 (env.kindOf x=some .local/\m x=some u)∨((env.kindOf x=some .cell∨env.kindOf x=some .free)/\∃c,env.cells.lookup x=some c/\h.IsCell c (some u))
structure Cx.Ok (X:Cx):Prop where
 mod:Mod X.K X.mg X.base
 kind:X.env.scope.kind = .function
 glob:X.env.globals=mainGlobals
 blt:X.env.builtins=builtinsNs
 above:X.s₀.heap.objs.size<=X.env.locals
 inj:∀x y c,X.env.cells.lookup x=some c->X.env.cells.lookup y=some c->x=y
 has:∀x,(X.env.kindOf x=some .cell∨X.env.kindOf x=some .free)->∃c,X.env.cells.lookup x=some c
 cab:∀x c,X.fn x=true->X.env.cells.lookup x=some c->X.s₀.heap.objs.size<=c
 hd:X.calm=true->X.A.handled=none
 frames:X.A.frames=some X.stack
 stk:X.stack=X.outer∨(X.stack=X.env::X.outer/\X.env.frame=some X.env.locals)
 exf:∀b∈X.ex,b≠X.env.locals/\∀x c,X.env.cells.lookup x=some c->c≠b
 bs:∀b o,X.base.get? b=some o->X.s₀.heap.get? b=some o/\X.H₀ b=none
 bsz:X.base.objs.size<=X.s₀.heap.objs.size
 noex:∀b o,X.base.get? b=some o->b∉X.ex
 exfs:∀b∈X.ex,b∉X.fs
 funs:X.s₀.heap.FunFrames X.base X.outer
 frf:∀b∈X.fs,X.H₀ b=none
structure Inv (X:Cx)(Z:ji)(σ:List (Option V))(H:Hp)(s:Shared):Prop where
 ok:X.Ok
 os:s.os=X.s₀.os
 bare:AllBare s.gens
 base:Un X.fs X.ex X.H₀ H X.s₀.heap s.heap
 loc:∃m,s.heap.Ns X.env.locals m/\∀(i:Nat) (x:Str) (v:V),X.N[i]?=some x->σ[i]?=some (some v)->Vis X.env.scope x->∃u,RelV v u/\zF0 X.env s.heap m x u
 cell:∀x c,X.env.cells.lookup x=some c->∃v,s.heap.IsCell c v
 free:H X.env.locals=none
 freeC:∀x c,X.env.cells.lookup x=some c->H c=none
 pin:∀p∈X.pn++Z,s.heap.get? p.1=some p.2/\H p.1=none/\p.1≠X.env.locals/\p.1∉X.fs/\∀v,p.2.data ≠ .cell v
 hok:HOk X.prog X.w H s.heap
 len:σ.length=X.N.length
section
variable {X:Cx} {Z:ji} {σ:List (Option V)} {H H':Hp} {s:Shared} {h':Heap}
def Cx.Ok.nofr (ok:X.Ok){b:Addr}{o:Obj}(e:X.base.get? b=some o):b∉X.fs:=fun hb=>by
 have:=(ok.funs.mem hb).1
 rw[e] at this;cases this
def Inv.bs (I:Inv X Z σ H s):∀b o,X.base.get? b=some o->s.heap.get? b=some o/\H b=none:=fun b o e =>
 ⟨I.base.keep b o (I.ok.bs b o e).1 (I.ok.bs b o e).2 (I.ok.nofr e) (I.ok.noex b o e),I.base.free b o (I.ok.bs b o e).1 (I.ok.bs b o e).2 (I.ok.noex b o e)⟩
def Inv.bk (I:Inv X Z σ H s):∀b o,X.base.get? b=some o->s.heap.get? b=some o:=fun b o e=>(I.bs b o e).1
def Inv.mod (I:Inv X Z σ H s):Mod X.K X.mg X.base:=I.ok.mod
def Inv.kIn (I:Inv X Z σ H s):X.K.In s.heap:=I.ok.mod.kin.keeps I.bk
def Inv.lt (I:Inv X Z σ H s):X.env.locals < s.heap.objs.size:=let ⟨_,hn,_⟩:=I.loc;hn.lt
def Inv.sz (I:Inv X Z σ H s):X.s₀.heap.objs.size<=s.heap.objs.size:=Ep I.ok.above (Et I.lt)
def Inv.nofs (I:Inv X Z σ H s){a:Addr}(h:s.heap.objs.size<=a):a∉X.fs:=fun hb=>by
 obtain⟨_,o,ho,_⟩:=I.ok.funs.mem hb
 exact absurd (Wp (Qs ho) (Ep I.sz h)) (Wk _)
def Inv.cne (I:Inv X Z σ H s):∀x c,X.env.cells.lookup x=some c->c≠X.env.locals:=fun x c e z=>by
 obtain⟨v,o,ho,hd⟩:=I.cell x c e
 obtain⟨m,⟨o',es,ep,ho',hd',_⟩,_⟩:=I.loc
 rw[z,ho'] at ho;cases ho;rw[hd'] at hd;cases hd
def Inv.funs (I:Inv X Z σ H s):s.heap.FunFrames X.base X.outer:=by
 have all:∀(l:List Env),(∀b∈frs l,b∈X.fs)->X.s₀.heap.FunFrames X.base l->s.heap.FunFrames X.base l:=by
   intro l
   induction l with
   | nil=>intro _ _;trivial
   | cons env r ih =>
     intro hs hl
     obtain⟨hk,⟨L,o,hf,hn,ho,hd⟩,hr⟩:=hl
     have hL:L∈X.fs:=hs L (by unfold frs;rw[Iq,hf];exact Qf)
     obtain⟨sl,e⟩:=I.base.slot L o ho (I.ok.frf L hL) hL fun z=>I.ok.exfs L z hL
     exact⟨hk,⟨L,_,hf,hn,e,hd⟩,ih (fun b hb=>hs b (by unfold frs;rw[Iq,hf];exact Qa _ hb)) hr⟩
 exact all X.outer (fun _ hb=>hb) I.ok.funs
def Inv.stack (I:Inv X Z σ H s):s.heap.FunFrames X.base X.stack:=by
 rcases I.ok.stk with e | ⟨e,hf⟩
 · rw[e];exact I.funs
 · rw[e]
   obtain⟨m,hn,_⟩:=I.loc
   refine .cons (by rw[I.ok.kind];decide) hf hn ?_ I.funs
   exact Heap.get?_none_of_le (Ep I.ok.bsz I.ok.above)
def Inv.stkSub (I:Inv X Z σ H s):∀b∈frs X.stack,b∈X.env.locals::X.fs:=fun b hb=>by
 rcases I.ok.stk with e | ⟨e,hf⟩
 · rw[e] at hb;exact Qa _ hb
 · rw[e] at hb
   unfold frs at hb
   rw[Iq,hf] at hb
   exact hb
def Inv.stkFree (I:Inv X Z σ H s):∀b∈frs X.stack,H b=none:=fun b hb=>by
 rcases Qh.mp (I.stkSub b hb) with e | hb
 · rw[e];exact I.free
 · obtain⟨_,o,ho,_⟩:=I.ok.funs.mem hb
   exact I.base.free b o ho (I.ok.frf b hb) fun z=>I.ok.exfs b z hb
def Inv.step {g':Array GenState}{t':Nat}{d':Drawn}{ch:List Addr}(I:Inv X Z σ H s)
   (hch:∀b∈ch,(b∈X.ex∨X.s₀.heap.objs.size<=b)/\b≠X.env.locals/\(∀x c,X.env.cells.lookup x=some c->c≠b)/\∀p∈X.pn++Z,p.1≠b)
   (keep:∀b o,b≠X.env.locals->b∉X.fs->b∉ch->s.heap.get? b=some o->H b=none->h'.get? b=some o)
   (slot:∀b o,b≠X.env.locals->b∈X.fs->b∉ch->s.heap.get? b=some o->H b=none->∃sl,h'.get? b=some { o with slots:=sl }) (free:∀b o,b∉ch->s.heap.get? b=some o->H b=none->H' b=none)
   (there:∀b o,b∉ch->s.heap.get? b=some o->∃o',h'.get? b=some o')
   (tups:∀b xs,H b=some (.tup xs)->H' b=some (.tup xs)) (frzs:∀b o u,H b=some (.frz o u)->H' b=some (.frz o u)) (tbls:∀b ps,H b=some (.tbl ps)->∃more,H' b=some (.tbl (ps++more)))
   (ns:∀m,s.heap.Ns X.env.locals m->h'.Ns X.env.locals m) (hok:HOk X.prog X.w H' h') (hg:AllBare g') :
   Inv X Z σ H' { s with heap:=h',gens:=g',drawn:=d',toks:=t' }:=by
 have neL:∀b o,X.s₀.heap.get? b=some o->b≠X.env.locals:=fun b o e=>Er (Wp (Qs e) I.ok.above)
 have neC:∀b o,X.s₀.heap.get? b=some o->b∉X.ex->b∉ch:=fun b o e hx hb=>by
   rcases(hch b hb).1 with z | z
   · exact hx z
   · exact absurd (Wp (Qs e) z) (Wk _)
 have cellK:∀x c,X.env.cells.lookup x=some c->∀v,s.heap.IsCell c v->h'.IsCell c v:=fun x c e v ⟨o,ho,hd⟩=>by
   have nch:c∉ch:=fun z=>(hch c z).2.2.1 x c e rfl
   by_cases hc:c∈X.fs
   · obtain⟨sl,q⟩:=slot c o (I.cne x c e) hc nch ho (I.freeC x c e)
     exact⟨_,q,hd⟩
   · exact⟨o,keep c o (I.cne x c e) hc nch ho (I.freeC x c e),hd⟩
 refine⟨I.ok,I.os,hg,⟨fun b o e n hb hx=>?_,fun b o e n hb hx=>?_,fun b o e n hx=>?_,fun b o e hx=>?_,fun b xs e=>tups b xs (I.base.tups b xs e),fun b o xs e=>frzs b o xs (I.base.frzs b o xs e),fun b ps e=>?_⟩,?_,fun x c e=>?_,?_,fun x c e=>?_,fun p hp=>?_,hok,I.len⟩
 · exact keep b o (neL b o e) hb (neC b o e hx) (I.base.keep b o e n hb hx) (I.base.free b o e n hx)
 · obtain⟨sl,e1⟩:=I.base.slot b o e n hb hx
   obtain⟨sl',e2⟩:=slot b _ (neL b o e) hb (neC b o e hx) e1 (I.base.free b o e n hx)
   exact⟨sl',e2⟩
 · obtain⟨o',e1⟩:=I.base.there b o e hx
   exact free b o' (neC b o e hx) e1 (I.base.free b o e n hx)
 · obtain⟨o',e1⟩:=I.base.there b o e hx
   exact there b o' (neC b o e hx) e1
 · obtain⟨m1,e1⟩:=I.base.tbls b ps e
   obtain⟨m2,e2⟩:=tbls b _ e1
   exact⟨m1++m2,by rw[e2,Array.append_assoc]⟩
 · obtain⟨m,hn,hl⟩:=I.loc
   refine⟨m,ns m hn,fun i x v e1 e2 e3=>?_⟩
   obtain⟨u,r,l⟩:=hl i x v e1 e2 e3
   refine⟨u,r,?_⟩
   rcases l with l | ⟨k,c,e,z⟩
   · exact .inl l
   · exact .inr ⟨k,c,e,cellK x c e _ z⟩
 · obtain⟨v,z⟩:=I.cell x c e
   exact⟨v,cellK x c e v z⟩
 · obtain⟨m,⟨o,_,_,ho,_⟩,_⟩:=I.loc
   exact free _ o (fun z=>(hch _ z).2.1 rfl) ho I.free
 · obtain⟨v,o,ho,hd⟩:=I.cell x c e
   exact free c o (fun z=>(hch c z).2.2.1 x c e rfl) ho (I.freeC x c e)
 · obtain⟨e,n,ne,nf,d⟩:=I.pin p hp
   have nch:p.1∉ch:=fun z=>(hch p.1 z).2.2.2 p hp rfl
   exact⟨keep p.1 p.2 ne nf nch e n,free p.1 p.2 nch e n,ne,nf,d⟩
def Inv.un {t':Nat}(I:Inv X Z σ H s)(u:Un X.fs [] H H' s.heap h')(hok:HOk X.prog X.w H' h'):Inv X Z σ H' { s with heap:=h',toks:=t' }:=by
 obtain⟨m,⟨o,es,ep,ho,r⟩,_⟩:=id I.loc
 obtain⟨sl,hL⟩:=u.any ho I.free jd
 exact I.step (g':=s.gens) (d':=s.drawn) (ch:=[]) (fun _ z=>nomatch z) (fun b o _ hb _ e n=>u.keep b o e n hb jd) (fun b o _ hb _ e n=>u.slot b o e n hb jd) (fun b o _ e n=>u.free b o e n jd) (fun b o _ e=>u.there b o e jd) u.tups u.frzs u.tbls (fun m' hm=>by
   obtain⟨o',es',ep',ho',r'⟩:=hm
   rw[ho] at ho';cases ho'
   exact⟨_,es',ep',hL,r'⟩) hok I.bare
def Inv.call {g':Array GenState}{t':Nat}{d':Drawn}{ch:List Addr}(I:Inv X Z σ H s)(u:Un (frs X.stack) ch H H' s.heap h')(hok:HOk X.prog X.w H' h')(hg:AllBare g')
   (hch:∀b∈ch,(b∈X.ex∨X.s₀.heap.objs.size<=b)/\b≠X.env.locals/\(∀x c,X.env.cells.lookup x=some c->c≠b)/\∀p∈X.pn++Z,p.1≠b) :
   Inv X Z σ H' { s with heap:=h',gens:=g',drawn:=d',toks:=t' }:=by
 obtain⟨m,⟨o,es,ep,ho,r⟩,_⟩:=id I.loc
 obtain⟨sl,hL⟩:=u.any ho I.free fun z=>(hch _ z).2.1 rfl
 exact I.step (ch:=ch) hch (fun b o hL hb hc e n=>u.keep b o e n (fun z=>(Qh.mp (I.stkSub b z)).elim hL hb) hc) (fun b o _ _ hc e n=>u.any e n hc) (fun b o hc e n=>u.free b o e n hc) (fun b o hc e=>u.there b o e hc) u.tups u.frzs u.tbls (fun m' hm=>by
   obtain⟨o',es',ep',ho',r'⟩:=hm
   rw[ho] at ho';cases ho'
   exact⟨_,es',ep',hL,r'⟩) hok hg
def Inv.turned {t':Nat}{it:Addr}(I:Inv X Z σ H s)(k:∀b o,b≠it->s.heap.get? b=some o->h'.get? b=some o)(hn:H it=none)(hL:it≠X.env.locals)
   (h1:it∈X.ex∨X.s₀.heap.objs.size<=it) (h2:∀x c,X.env.cells.lookup x=some c->c≠it) (h3:∀p∈X.pn++Z,p.1≠it):Inv X Z σ H { s with heap:=h',toks:=t' }:=by
 have nit:∀b u,H b=some u->b≠it:=fun b u e z=>by rw[z,hn] at e;cases e
 refine I.step (g':=s.gens) (d':=s.drawn) (ch:=[it]) (fun b hb=>?_) (fun b o _ _ hc e _=>k b o (fun z=>hc (by simp[z])) e) (fun b o _ _ hc e _=>⟨o.slots,k b o (fun z=>hc (by simp[z])) e⟩) (fun _ _ _ _ n=>n)
   (fun b o hc e=>⟨o,k b o (fun z=>hc (by simp[z])) e⟩) (fun _ _ e=>e) (fun _ _ _ e=>e) (fun b ps e=>⟨#[],by rw[e];simp⟩) (fun m hm=>?_) (fun b u e=>?_) I.bare
 · have e:b=it:=by simpa using hb
   subst e
   exact⟨h1,hL,h2,h3⟩
 · obtain⟨o,es,ep,ho,r⟩:=hm
   exact⟨o,es,ep,k _ o (Ne.symm hL) ho,r⟩
 · refine(I.hok b u e).stay (fun c v hc q=>k c v ?_ q) (fun _ q=>q) fun _ _ q=>q
   rcases hc with z | z
   · rw[z];exact nit b u e
   · exact nit c _ z
def Inv.tok (I:Inv X Z σ H s)(t:Nat):Inv X Z σ H { s with toks:=t }:=I.un (h':=s.heap) (t':=t) Un.refl I.hok
def Inv.kept {t':Nat}(I:Inv X Z σ H s)(k:∀b u,s.heap.get? b=some u->h'.get? b=some u):Inv X Z σ H { s with heap:=h',toks:=t' }:=I.un (Un.kept k) (I.hok.kept k)
def Inv.laid {a:Addr}{o:HO}{t':Nat}(I:Inv X Z σ H s)(k:∀b u,s.heap.get? b=some u->h'.get? b=some u)(hp:s.heap.objs.size<=a)(new:ObjOk X.prog X.w (upd H a o) h' a o) :
   Inv X Z σ (upd H a o) { s with heap:=h',toks:=t' }:=I.un (Un.laid k hp (I.hok.fresh hp)) (I.hok.laid k hp new)
def Inv.write {x e:Addr}{o:HO}{t':Nat}(I:Inv X Z σ H s)(mu:Mut (H x))(he:e=x∨H e=some (.own x))(k:∀b u,b≠e->s.heap.get? b=some u->h'.get? b=some u)(heo:∃u,h'.get? e=some u)
   (new:ObjOk X.prog X.w (upd H x o) h' x o):Inv X Z σ (upd H x o) { s with heap:=h',toks:=t' }:=I.un (Un.write mu he k heo) (I.hok.write mu he k heo new)
def Inv.pins_of {pins':ji}(I:Inv X Z σ H s)(h:∀p∈pins',s.heap.get? p.1=some p.2/\H p.1=none/\p.1≠X.env.locals/\p.1∉X.fs/\∀v,p.2.data ≠ .cell v):Inv X pins' σ H s :=
 ⟨I.ok,I.os,I.bare,I.base,I.loc,I.cell,I.free,I.freeC,fun p hp=>(Eu.mp hp).elim (fun z=>I.pin p (Ux _ z)) (h p),I.hok,I.len⟩
def zR8 {N:List Str}(hN:N.Nodup){i j:Nat}{x:Str}(a:N[i]?=some x)(b:N[j]?=some x):i=j:=by
 obtain⟨h1,e1⟩:=Ww.mp a
 obtain⟨h2,e2⟩:=Ww.mp b
 exact(List.getElem_inj hN).mp (e1.trans e2.symm)
def zVk {M:Model}{A:Around}{E:jh}{i:Nat}{x:Str}{v:V}{u:Value}{Q:Unit->Shared->Prop}(I:Inv X Z σ H s)(hN:X.N.Nodup)(hi:X.N[i]?=some x)(hx:Loc X.env.scope x)(r:RelV v u)
   (h:∀s',Inv X Z (σ.set i (some v)) H s'->(∃a,Heap.SameBut a s.heap s'.heap/\(a=X.env.locals∨X.env.cells.lookup x=some a))->Q () s') (hf:X.fn x=true∨X.env.scope.names.lookup x=some .local:=by first | exact .inl rfl | exact .inr rfl | assumption):wpAny M A (storeName X.env x u) Q E s:=by
 obtain⟨m,hn,hl⟩:=id I.loc
 have hcls:(X.env.scope.kind == .class||(X.env.scope.kind == .module&&X.env.locals != X.env.globals))=false:=by rw[I.ok.kind];rfl
 have hiσ:i < σ.length:=by rw[I.len];exact(Ww.mp hi).1
 have cne:=I.cne
 have tracked:∀ {a:Addr} {h':Heap},(∃o,s.heap.get? a=some o/\H a=none)->Heap.SameBut a s.heap h'->HOk X.prog X.w H h':=fun {a h'} ha hs b ob e=>by
   obtain⟨_,_,hfree⟩:=ha
   refine(I.hok b ob e).stay (fun c w' hc q=>(hs.2 c ?_).trans q) (fun _ q=>q) fun _ _ q=>q
   rintro rfl
   rcases hc with rfl | hc
   · rw[hfree] at e;cases e
   · rw[hfree] at hc;cases hc
 rcases hx with hk | hk
 · refine wpAny_storeName_local hk hn (fun h' hn' hs=>?_) hcls
   obtain⟨oL,_,_,hoL,_⟩:=id hn
   refine h _ ⟨I.ok,I.os,I.bare,⟨fun b o e n hb hx=>?_,fun b o e n hb hx=>?_,I.base.free,fun b o e hx=>?_,I.base.tups,I.base.frzs,I.base.tbls⟩,⟨_,hn',fun j y v' e1 e2 e3=>?_⟩,fun y c e=>?_,I.free,I.freeC,fun p hp=>?_,tracked ⟨oL,hoL,I.free⟩ hs,by simpa using I.len⟩ ⟨_,hs,.inl rfl⟩
   · exact(hs.2 b (Er (Wp (Qs e) I.ok.above))).trans (I.base.keep b o e n hb hx)
   · obtain⟨sl,e1⟩:=I.base.slot b o e n hb hx
     exact⟨sl,(hs.2 b (Er (Wp (Qs e) I.ok.above))).trans e1⟩
   · obtain⟨o',e1⟩:=I.base.there b o e hx
     exact⟨o',(hs.2 b (Er (Wp (Qs e) I.ok.above))).trans e1⟩
   · by_cases hj:j=i
     · subst hj
       rw[hi] at e1;cases e1
       rw[Yq hiσ] at e2
       cases e2
       exact⟨u,r,.inl ⟨hk,jd⟩⟩
     · rw[Ee (Ne.symm hj)] at e2
       obtain⟨u',r',q⟩:=hl j y v' e1 e2 e3
       refine⟨u',r',?_⟩
       rcases q with⟨k,e⟩ | ⟨k,c,e,z⟩
       · refine .inl ⟨k,?_⟩
         have:y≠x:=fun e=>hj (zR8 hN e1 (e ▸ hi))
         simp[this,e]
       · exact .inr ⟨k,c,e,z.sameBut hs (cne y c e)⟩
   · obtain⟨w',z⟩:=I.cell y c e
     exact⟨w',z.sameBut hs (cne y c e)⟩
   · obtain⟨e,n,ne,nf,d⟩:=I.pin p hp
     exact⟨(hs.2 p.1 ne).trans e,n,ne,nf,d⟩
 · have hfn:X.fn x=true:=by
     rcases hf with z | z
     · exact z
     · rw[z] at hk;cases hk
   obtain⟨c,hc⟩:=I.ok.has x (.inl hk)
   obtain⟨w',z⟩:=I.cell x c hc
   refine wpAny_storeName_cell I.ok.kind hk hc z (fun h' hc' hs=>?_)
   obtain⟨oc,hoc,hocd⟩:=id z
   refine h { s with heap:=h' } ⟨I.ok,I.os,I.bare,⟨fun b o e n hb hx=>?_,fun b o e n hb hx=>?_,I.base.free,fun b o e hx=>?_,I.base.tups,I.base.frzs,I.base.tbls⟩,⟨m,hn.sameBut hs (Ne.symm (cne x c hc)),fun j y v' e1 e2 e3=>?_⟩,fun y c' e=>?_,I.free,I.freeC,fun p hp=>?_,tracked ⟨oc,hoc,I.freeC x c hc⟩ hs,by simpa using I.len⟩ ⟨c,hs,.inr hc⟩
   · exact(hs.2 b (Er (Wp (Qs e) (I.ok.cab x c hfn hc)))).trans (I.base.keep b o e n hb hx)
   · obtain⟨sl,e1⟩:=I.base.slot b o e n hb hx
     exact⟨sl,(hs.2 b (Er (Wp (Qs e) (I.ok.cab x c hfn hc)))).trans e1⟩
   · obtain⟨o',e1⟩:=I.base.there b o e hx
     exact⟨o',(hs.2 b (Er (Wp (Qs e) (I.ok.cab x c hfn hc)))).trans e1⟩
   · by_cases hj:j=i
     · subst hj
       rw[hi] at e1;cases e1
       rw[Yq hiσ] at e2
       cases e2
       exact⟨u,r,.inr ⟨.inl hk,c,hc,hc'⟩⟩
     · rw[Ee (Ne.symm hj)] at e2
       obtain⟨u',r',q⟩:=hl j y v' e1 e2 e3
       refine⟨u',r',?_⟩
       rcases q with q | ⟨k,c',e,z'⟩
       · exact .inl q
       · refine .inr ⟨k,c',e,z'.sameBut hs ?_⟩
         rintro rfl
         exact hj (zR8 hN e1 (I.ok.inj _ _ _ e hc ▸ hi))
   · by_cases hcc:c'=c
     · subst hcc;exact⟨_,hc'⟩
     · obtain⟨w2,z2⟩:=I.cell y c' e
       exact⟨w2,z2.sameBut hs hcc⟩
   · obtain⟨e,n,ne,nf,d⟩:=I.pin p hp
     refine⟨(hs.2 p.1 ?_).trans e,n,ne,nf,d⟩
     intro q
     rw[q,hoc] at e
     have q':oc=p.2:=Eg e
     exact d w' (by rw[←q'];exact hocd)
def zRf {M:Model}{A:Around}{E:jh}{i:Nat}{x:Str}{v:V}{u:Value}{Q:Unit->Shared->Prop}(I:Inv X Z σ H s)(hN:X.N.Nodup)(hi:X.N[i]?=some x)(hx:Loc X.env.scope x)(r:RelV v u)
   (h:∀s',Inv X Z (σ.set i (some v)) H s'->Q () s') (hf:X.fn x=true∨X.env.scope.names.lookup x=some .local:=by first | exact .inl rfl | exact .inr rfl | assumption):wpAny M A (storeName X.env x u) Q E s :=
 zVk I hN hi hx r (fun s' I' _=>h s' I') hf
def Inv.call' {s':Shared}{ch:List Addr}(I:Inv X Z σ H s)(ho:s'.os=s.os)(u:Un (frs X.stack) ch H H' s.heap s'.heap)(hok:HOk X.prog X.w H' s'.heap)(hg:AllBare s'.gens)
   (hch:∀b∈ch,(b∈X.ex∨X.s₀.heap.objs.size<=b)/\b≠X.env.locals/\(∀x c,X.env.cells.lookup x=some c->c≠b)/\∀p∈X.pn++Z,p.1≠b):Inv X Z σ H' s':=by
 obtain⟨h',g',d',t',o'⟩:=s'
 have e:o'=s.os:=ho
 subst e
 exact I.call (g':=g') (t':=t') (d':=d') u hok hg hch
end
abbrev XK:=Value->Option Addr->Hp->Prop
abbrev St:=List (Option V)
abbrev VK:=V->Hp->Prop
abbrev TE:=St->Hp->VK->Prop
abbrev TT:=St->Hp->(Bool->Hp->Prop)->Prop
abbrev TA:=St->Hp->(List V->Hp->Prop)->Prop
structure Ends where
 nx:St->Hp->Prop
 rt:VK
 bk:St->Hp->Prop:=fun _ _=>False
 ct:St->Hp->Prop:=fun _ _=>False
abbrev TS:=Ends->St->Hp->Prop
def EP (X:Cx)(Z:ji)(σ:St)(Q:VK)(u:Value)(s':Shared):Prop:=∃v H',Inv X Z σ H' s'/\RelV v u/\Q v H'
def TP (X:Cx)(Z:ji)(σ:St)(Q:Bool->Hp->Prop)(b:Bool)(s':Shared):Prop:=∃H',Inv X Z σ H' s'/\Q b H'
def AP (X:Cx)(Z:ji)(σ:St)(Q:List V->Hp->Prop)(us:jj)(s':Shared):Prop:=∃vs H',Inv X Z σ H' s'/\Vals vs us/\Q vs H'
def SP (X:Cx)(Z:ji)(D:Ends)(f:Flow)(s':Shared):Prop :=
 match f with
 | .next=>∃σ' H',Inv X Z σ' H' s'/\D.nx σ' H'
 | .brk=>∃σ' H',Inv X Z σ' H' s'/\D.bk σ' H'
 | .cont=>∃σ' H',Inv X Z σ' H' s'/\D.ct σ' H'
 | .ret u=>∃v σ' H',Inv X Z σ' H' s'/\RelV v u/\D.rt v H'
def PE (X:Cx)(e:Expr)(t:TE):Prop :=
 ∀(Z:ji) (s:Shared) (σ:St) (H:Hp) (Q:VK),Inv X Z σ H s->t σ H Q->wpAny (model X.prog X.w) X.A (eval e X.env) (EP X Z σ Q) X.xe s
def PT (X:Cx)(e:Expr)(t:TT):Prop :=
 ∀(Z:ji) (s:Shared) (σ:St) (H:Hp) (Q:Bool->Hp->Prop),Inv X Z σ H s->t σ H Q->wpAny (model X.prog X.w) X.A (isTrue e X.env (eval e X.env)) (TP X Z σ Q) X.xe s
def PW (X:Cx)(e:Expr)(t:TT):Prop :=
 ∀(whole:Sem Value) (Z:ji) (s:Shared) (σ:St) (H:Hp) (Q:Bool->Hp->Prop),Inv X Z σ H s->t σ H Q->wpAny (model X.prog X.w) X.A (isTrue e X.env whole) (TP X Z σ Q) X.xe s
def PW.pt {X:Cx}{e:Expr}{t:TT}(h:PW X e t):PT X e t:=h _
def PA (X:Cx)(es:List Expr)(t:TA):Prop :=
 ∀(pos:Pos) (Z:ji) (s:Shared) (σ:St) (H:Hp) (Q:List V->Hp->Prop),Inv X Z σ H s->t σ H Q->wpAny (model X.prog X.w) X.A (spliced (backTo pos (starEach es X.env))) (AP X Z σ Q) X.xe s
def PS (X:Cx)(st:Stmt)(t:TS):Prop :=
 ∀(Z:ji) (s:Shared) (σ:St) (H:Hp) (D:Ends),Inv X Z σ H s->t D σ H->wpAny (model X.prog X.w) X.A (exec st X.env) (SP X Z D) X.xe s
def PSs (X:Cx)(st:List Stmt)(t:TS):Prop :=
 ∀(Z:ji) (s:Shared) (σ:St) (H:Hp) (D:Ends),Inv X Z σ H s->t D σ H->wpAny (model X.prog X.w) X.A (execs st X.env) (SP X Z D) X.xe s
def thn {α:Type}{t:Sem α}{Q Q':α->Shared->Prop}{M:Model}{A:Around}{E:jh}{s:Shared}(h:wpAny M A t Q E s)(hQ:∀a s,Q a s->Q' a s):wpAny M A t Q' E s:=Ia h hQ fun _ _ x=>x
section
variable {X:Cx}
def zJd (i:Nat):TE:=fun σ H Q=>∃v,σ[i]?=some (some v)/\Q v H
def tC (v:V):TE:=fun _ H Q=>Q v H
def pX {i:Nat}{x:Str}{pos:Pos}(hN:X.N[i]?=some x)(hv:Vis X.env.scope x)(hd:(x==("__debug__":Str))=false:=by decide)(hcd:(x==("__classdict__":Str))=false:=by decide):PE X (.Name x pos) (zJd i):=by
 intro Z s σ H Q I h
 obtain⟨v,e,h⟩:=h
 obtain⟨m,hn,hl⟩:=I.loc
 obtain⟨u,r,l⟩:=hl i x v hN e hv
 have fin:EP X Z σ Q u s:=⟨v,H,I,r,h⟩
 rcases l with⟨hk,hm⟩ | ⟨hk,c,hc,hcell⟩
 · exact wpAny_Name (wpAny_loadName_local I.ok.kind hk hn hm fin) hd
 · rcases hk with hk | hk
   · exact wpAny_Name (wpAny_loadName_cell I.ok.kind hk hc hcell fin) hd
   · exact wpAny_Name (wpAny_loadName_free I.ok.kind hk hc hcell fin hcd) hd
def zIk {i j pos}:PE X (.Constant (.int i) j pos) (tC (.int i)):=fun _ _ _ H _ I h=>wpAny_Constant_int ⟨.int i,H,I.tok _,⟨_,rfl⟩,h⟩
def zGV {b j pos}:PE X (.Constant (.bool b) j pos) (tC (.bl b)):=fun _ _ _ H _ I h=>Constant_bool ⟨.bl b,H,I,rfl,h⟩
def zLY {j pos}:PE X (.Constant .none j pos) (tC .non):=fun _ _ _ H _ I h=>Constant_none ⟨.non,H,I,rfl,h⟩
def zHh {x j pos}:PE X (.Constant (.str x) j pos) (tC (.str x)):=fun _ _ _ H _ I h=>Calls.Constant_str ⟨.str x,H,I.tok _,⟨_,rfl⟩,h⟩
def Gl (X:Cx)(x:Str):Prop:=X.env.kindOf x=some .globalImplicit
def zUa {E:jh}{Z:ji}{s:Shared}{σ:St}{H:Hp}{x:Str}{u:Value}{pos:Pos}{Q:jh}(I:Inv X Z σ H s)(hg:Gl X x)(hm:X.mg x=some u)(h:Q u s)
   (hd:(x==("__debug__":Str))=false:=by decide):wpAny (model X.prog X.w) X.A (eval (.Name x pos) X.env) Q E s :=
 Og I.ok.kind hg (Calls.loadGlobal_global (by rw[I.ok.glob];exact I.mod.glob.keeps I.bk) hm h) hd
def oA {E:jh}{Z:ji}{s:Shared}{σ:St}{H:Hp}{x:Str}{u:Value}{pos:Pos}{Q:jh}(I:Inv X Z σ H s)(hg:Gl X x)(hm:X.mg x=none)(hv:bootBuiltins x=some u)(h:Q u s)
   (hn:x≠"__name__":=by decide) (hd:(x==("__debug__":Str))=false:=by decide):wpAny (model X.prog X.w) X.A (eval (.Name x pos) X.env) Q E s:=by
 obtain⟨mb,h1,h2⟩:=I.mod.blt
 exact Og I.ok.kind hg (Calls.loadGlobal_builtin (by rw[I.ok.glob];exact I.mod.glob.keeps I.bk) hm (by rw[I.ok.blt];exact h1.keeps I.bk) ((h2 x hn).trans hv) h) hd
def gM {x:Str}{v:V}{u:Value}{pos:Pos}(hg:Gl X x)(hm:X.mg x=some u)(r:RelV v u)(hd:(x==("__debug__":Str))=false:=by decide):PE X (.Name x pos) (tC v) :=
 fun _ _ _ H _ I h=>zUa I hg hm ⟨v,H,I,r,h⟩ hd
def zJv {x:Str}{v:V}{u:Value}{pos:Pos}(hg:Gl X x)(hm:X.mg x=none)(hv:bootBuiltins x=some u)(r:RelV v u)(hn:x≠"__name__":=by decide)(hd:(x==("__debug__":Str))=false:=by decide):PE X (.Name x pos) (tC v) :=
 fun _ _ _ H _ I h=>oA I hg hm hv ⟨v,H,I,r,h⟩ hn hd
variable {a b:Expr} {ta tb:TE} {pos:Pos}
def tB (t:TE):TT:=fun σ H Q=>t σ H fun x H1=>∃c,x = .bl c/\Q c H1
def zIn {e:Expr}{t:TE}(h:PE X e t)(he:∀whole,isTrue e X.env whole=(do let v ←whole;standAt e.pos;holding [v] (truthy v)):=by intro _;rfl):PT X e (tB t):=by
 intro Z s σ H Q I hw
 refine isTrue_plain (thn (h Z s σ H _ I hw) fun v s1 ⟨x,H1,I1,r1,q1⟩=>?_) (he _)
 obtain⟨d,rfl,q⟩:=q1
 cases r1
 exact Ti ⟨H1,I1,q⟩
variable {tA tB':TT} {rest:List Expr}
def zFr (t u:TT):TT:=fun σ H Q=>t σ H fun c H1=>if c=true then u σ H1 Q else Q false H1
def tOr (t u:TT):TT:=fun σ H Q=>t σ H fun c H1=>if c=true then Q true H1 else u σ H1 Q
def zFG (t:TT):TT:=fun σ H Q=>t σ H fun c H1=>Q (!c) H1
def zJk (ha:PT X a tA):PW X (.BoolOp .And [a] pos) tA:=by
 intro wh Z s σ H Q I h
 refine isTrue_and (thn (ha Z s σ H Q I h) fun c s1 e=>?_)
 cases c with
 | true=>exact isTrue_and_nil e
 | false=>exact e
def zHu (ha:PT X a tA):PW X (.BoolOp .Or [a] pos) tA:=by
 intro wh Z s σ H Q I h
 refine isTrue_or (thn (ha Z s σ H Q I h) fun c s1 e=>?_)
 cases c with
 | false=>exact isTrue_or_nil e
 | true=>exact e
def zID (ha:PT X a tA)(hb:PW X (.BoolOp .And (b::rest) pos) tB'):PW X (.BoolOp .And (a::b::rest) pos) (zFr tA tB'):=by
 intro wh Z s σ H Q I h
 refine isTrue_and (thn (ha Z s σ H _ I h) fun c s1 ⟨H1,I1,q1⟩=>?_)
 cases c with
 | true=>exact hb wh Z s1 σ H1 Q I1 q1
 | false=>exact⟨H1,I1,q1⟩
def zHa (ha:PT X a tA)(hb:PW X (.BoolOp .Or (b::rest) pos) tB'):PW X (.BoolOp .Or (a::b::rest) pos) (tOr tA tB'):=by
 intro wh Z s σ H Q I h
 refine isTrue_or (thn (ha Z s σ H _ I h) fun c s1 ⟨H1,I1,q1⟩=>?_)
 cases c with
 | true=>exact⟨H1,I1,q1⟩
 | false=>exact hb wh Z s1 σ H1 Q I1 q1
def zIu (ha:PT X a tA):PT X (.UnaryOp .Not a pos) (zFG tA):=by
 intro Z s σ H Q I h
 exact isTrue_not (ha Z s σ H (fun c H1=>Q (!c) H1) I h)
def zG0 (ta tb:TE):TE:=fun σ H Q=>ta σ H fun x H1=>∃c,x = .bl c/\if c=true then tb σ H1 Q else Q (.bl false) H1
def zGH (ta:TE):TE:=fun σ H Q=>ta σ H fun x H1=>∃c,x = .bl c/\Q (.bl (!c)) H1
def zIi {op}{t:TE}(h:PE X a t):PE X (.BoolOp op [a] pos) t:=fun Z s σ H Q I hw=>BoolOp_one (h Z s σ H Q I hw)
def zIv (ha:PE X a ta)(hb:PE X (.BoolOp .And (b::rest) pos) tb):PE X (.BoolOp .And (a::b::rest) pos) (zG0 ta tb):=by
 intro Z s σ H Q I h
 refine BoolOp_and (thn (ha Z s σ H _ I h) fun v s1 ⟨x,H1,I1,r1,q1⟩=>?_)
 obtain⟨c,rfl,q1⟩:=q1
 cases r1
 refine Ti ?_
 cases c with
 | true=>exact hb Z s1 σ H1 Q I1 q1
 | false=>exact⟨.bl false,H1,I1,rfl,q1⟩
def zIx (ha:PE X a ta):PE X (.UnaryOp .Not a pos) (zGH ta):=by
 intro Z s σ H Q I h
 refine UnaryOp_ (thn (ha Z s σ H _ I h) fun v s1 ⟨x,H1,I1,r1,q1⟩=>?_)
 obtain⟨c,rfl,q1⟩:=q1
 cases r1
 exact not_of (Ti ⟨.bl (!c),H1,I1,rfl,q1⟩)
def tIf (t:TT)(ta tb:TE):TE:=fun σ H Q=>t σ H fun c H1=>if c=true then ta σ H1 Q else tb σ H1 Q
def zLf {c:Expr}(hc:PT X c tA)(ha:PE X a ta)(hb:PE X b tb):PE X (.IfExp c a b pos) (tIf tA ta tb):=by
 intro Z s σ H Q I h
 refine wpAny_IfExp (thn (hc Z s σ H _ I h) fun d s1 ⟨H1,I1,q1⟩=>?_)
 cases d with
 | true=>exact ha Z s1 σ H1 Q I1 q1
 | false=>exact hb Z s1 σ H1 Q I1 q1
end
def SqL (K:jg)(H:Hp)(a:Addr)(xs:List V):Prop :=
 Rd H a (.lst xs) ∨
   ∃(o:Obj) (j6:jk) (n:Nat),K.lookup a=some o/\o.cls = .type "list"/\o.dict=none/\o.data = .seq j6 n/\j6.size<=sizeLine/\Vals xs j6.toList
def SqT (K:jg)(H:Hp)(a:Addr)(xs:List V):Prop :=
 Rd H a (.tup xs) ∨
   ∃(o:Obj) (j6:jk) (n:Nat),K.lookup a=some o/\o.cls = .type "tuple"/\o.data = .seq j6 n/\j6.size<=sizeLine/\Vals xs j6.toList
def zFE:Value->Option V
 | .none=>some .non
 | .bool b=>some (.bl b)
 | .int i _=>some (.int i)
 | .str x _=>some (.str x)
 | .bytes b _=>some (.byt b)
 | .float b _=>some (.flt b)
 | .ref a=>some (.ref a)
 | .type n=>some (.ty n)
 | _=>none
def RelV.abs {x:V}{u:Value}(r:RelV x u):zFE u=some x:=by
 cases x with
 | non=>cases r;rfl
 | bl _=>cases r;rfl
 | int _=>obtain⟨t,rfl⟩:=r;rfl
 | str _=>obtain⟨t,rfl⟩:=r;rfl
 | byt _=>obtain⟨t,rfl⟩:=r;rfl
 | flt _=>obtain⟨t,rfl⟩:=r;rfl
 | ref _=>cases r;rfl
 | ty _=>cases r;rfl
def RelV.inj {x y:V}{u:Value}(r:RelV x u)(q:RelV y u):x=y:=Eg (r.abs.symm.trans q.abs)
def Vals.inj:∀ {xs ys:List V} {us:jj},Vals xs us->Vals ys us->xs=ys
 | _,_,_,.nil,.nil=>rfl
 | _,_,_,.cons r t,.cons r' t'=>by rw[r.inj r',Vals.inj t t']
section
variable {X:Cx} {Z:ji} {σ:St} {H:Hp} {s:Shared} {a:Addr} {xs ys:List V}
def SqL.of {K:jg}(h:H a=some (.lst xs)):SqL K H a xs:=.inl (.inl h)
def SqT.of {K:jg}(h:H a=some (.tup xs)):SqT K H a xs:=.inl (.inl h)
def Inv.list (I:Inv X Z σ H s)(h:SqL X.K H a xs):∃j6:List Value,Vals xs j6/\PlainL s.heap a j6.toArray/\xs.length<=sizeLine:=by
 rcases h with h | ⟨o,j6,n,hk,hc,hd,hs,hz,r⟩
 · obtain⟨z,j6,n,r,e⟩:=h.ok I.hok
   exact⟨j6,r,⟨_,n,e,rfl,rfl,rfl⟩,z⟩
 · refine⟨j6.toList,r,⟨o,n,I.kIn a o hk,hc,hd,by simpa using hs⟩,?_⟩
   have e:=r.length
   simp only[Ev] at e
   omega
def Inv.tuple (I:Inv X Z σ H s)(h:SqT X.K H a xs):∃j6:List Value,Vals xs j6/\IsTup s.heap a j6.toArray/\xs.length<=sizeLine:=by
 rcases h with h | ⟨o,j6,n,hk,hc,hs,hz,r⟩
 · obtain⟨z,j6,r,p⟩:=h.ok I.hok
   exact⟨j6,r,p,z⟩
 · refine⟨j6.toList,r,⟨o,I.kIn a o hk,hc,n,by simpa using hs⟩,?_⟩
   have e:=r.length
   simp only[Ev] at e
   omega
def Inv.list_inj (I:Inv X Z σ H s)(h:SqL X.K H a xs)(h':SqL X.K H a ys):xs=ys:=by
 obtain⟨j6,r,⟨o,n,e,_,_,d⟩,_⟩:=I.list h
 obtain⟨its',r',⟨o',n',e',_,_,d'⟩,_⟩:=I.list h'
 rw[e] at e';cases e'
 rw[d] at d'
 injection d' with d1 _
 have:j6=its':=by simpa using Eo Array.toList d1
 subst this
 exact r.inj r'
def Inv.tuple_inj (I:Inv X Z σ H s)(h:SqT X.K H a xs)(h':SqT X.K H a ys):xs=ys:=by
 obtain⟨j6,r,⟨o,e,_,n,d⟩,_⟩:=I.tuple h
 obtain⟨its',r',⟨o',e',_,n',d'⟩,_⟩:=I.tuple h'
 rw[e] at e';cases e'
 rw[d] at d'
 injection d' with d1 _
 have:j6=its':=by simpa using Eo Array.toList d1
 subst this
 exact r.inj r'
end
abbrev Cx.wish (X:Cx)(E:jh):Cx:={ X with xe:=E }
abbrev Cx.nox (X:Cx):Cx:=X.wish fun _ _=>False
def Cx.Ok.wish {X:Cx}(ok:X.Ok)(E:jh):(X.wish E).Ok :=
 ⟨ok.mod,ok.kind,ok.glob,ok.blt,ok.above,ok.inj,ok.has,ok.cab,ok.hd,ok.frames,ok.stk,ok.exf,ok.bs,ok.bsz,ok.noex,ok.exfs,ok.funs,ok.frf⟩
def Cx.Ok.unwish {X:Cx}{E:jh}(ok:(X.wish E).Ok):X.Ok :=
 ⟨ok.mod,ok.kind,ok.glob,ok.blt,ok.above,ok.inj,ok.has,ok.cab,ok.hd,ok.frames,ok.stk,ok.exf,ok.bs,ok.bsz,ok.noex,ok.exfs,ok.funs,ok.frf⟩
section
variable {X:Cx} {Z:ji} {σ:St} {H:Hp} {s:Shared} {E:jh}
def Inv.wish (I:Inv X Z σ H s)(E:jh):Inv (X.wish E) Z σ H s:=⟨I.ok.wish E,I.os,I.bare,I.base,I.loc,I.cell,I.free,I.freeC,I.pin,I.hok,I.len⟩
def Inv.unwish (I:Inv (X.wish E) Z σ H s):Inv X Z σ H s:=⟨I.ok.unwish,I.os,I.bare,I.base,I.loc,I.cell,I.free,I.freeC,I.pin,I.hok,I.len⟩
def SP.unwish {D:Ends}{f:Flow}{s':Shared}(h:SP (X.wish E) Z D f s'):SP X Z D f s':=by
 cases f with
 | next=>obtain⟨σ',H',I,q⟩:=h;exact⟨σ',H',I.unwish,q⟩
 | brk=>obtain⟨σ',H',I,q⟩:=h;exact⟨σ',H',I.unwish,q⟩
 | cont=>obtain⟨σ',H',I,q⟩:=h;exact⟨σ',H',I.unwish,q⟩
 | ret u=>obtain⟨v,σ',H',I,r,q⟩:=h;exact⟨v,σ',H',I.unwish,r,q⟩
def PSs.nox {st:List Stmt}{t:TS}(h:PSs X.nox st t):PSs X st t:=fun Z s σ H D I hw =>
 Ia (h Z s σ H D (I.wish _) hw) (fun _ _ q=>q.unwish) fun _ _ z=>False.elim z
variable {st:Stmt} {rest:List Stmt} {t u:TS} {e:Expr} {te:TE} {pos:Pos}
def zGD:TS:=fun D σ H=>D.nx σ H
def zFK (t u:TS):TS:=fun D σ H=>t { D with nx:=u D } σ H
def zST:PSs X [] zGD:=fun _ _ σ H _ I h=>Ua ⟨σ,H,I,h⟩
def zZq (h1:PS X st t)(h2:PSs X rest u):PSs X (st::rest) (zFK t u):=by
 intro Z s σ H D I h
 refine wpAny_execs_cons (thn (h1 Z s σ H { D with nx:=u D } I h) fun f s1 q=>?_)
 cases f with
 | next =>
   obtain⟨σ',H',I',q⟩:=q
   exact h2 Z s1 σ' H' D I' q
 | ret v=>exact q
 | brk=>exact q
 | cont=>exact q
def zJ0 (h1:PS X st t):PSs X [st] t:=by
 intro Z s σ H D I h
 refine wpAny_execs_cons (thn (h1 Z s σ H D I h) fun f s1 q=>?_)
 cases f with
 | next=>exact Ua q
 | ret v=>exact q
 | brk=>exact q
 | cont=>exact q
def Inv.quiet {Z:ji}{σ:St}{H:Hp}{s:Shared}(I:Inv X Z σ H s):interactive X.env=false:=by simp[interactive,I.ok.kind]
def zFO (te:TE):TS:=fun D σ H=>te σ H fun _ H1=>D.nx σ H1
def zKm (he:PE X e te)(hs:swapsWith e none pos.line X.env=pure false:=by rfl):PS X (.Expr e pos) (zFO te):=by
 intro Z s σ H D I h
 exact wpAny_Expr_any (thn (he Z s σ H _ I h) fun v s1 ⟨x,H1,I1,r1,q1⟩=>⟨σ,H1,I1,q1⟩) I.quiet hs
def zF6 (te:TE):TS:=fun D σ H=>te σ H D.rt
def zQ6 (he:PE X e te):PS X (.Return (some e) pos) (zF6 te):=by
 intro Z s σ H D I h
 exact wpAny_Return_some (thn (he Z s σ H _ I h) fun v s1 ⟨x,H1,I1,r1,q1⟩=>⟨x,σ,H1,I1,r1,q1⟩)
def zFm (c:TT)(t u:TS):TS:=fun D σ H=>c σ H fun b H1=>if b=true then t D σ H1 else u D σ H1
def zGR {c:Expr}{a b:List Stmt}{tc:TT}(hc:PT X c tc)(ha:PSs X a t)(hb:PSs X b u):PS X (.If c a b pos) (zFm tc t u):=by
 intro Z s σ H D I h
 refine wpAny_If (thn (hc Z s σ H _ I h) fun d s1 ⟨H1,I1,q1⟩=>?_)
 cases d with
 | true=>exact ha Z s1 σ H1 D I1 q1
 | false=>exact hb Z s1 σ H1 D I1 q1
end
abbrev TG:=V->St->Hp->(St->Hp->Prop)->Prop
abbrev TGs:=List V->St->Hp->(St->Hp->Prop)->Prop
def PG (X:Cx)(target:Expr)(t:TG):Prop :=
 ∀(Z:ji) (s:Shared) (σ:St) (H:Hp) (v:V) (u:Value) (Q:St->Hp->Prop),Inv X Z σ H s->RelV v u->t v σ H Q ->
   wpAny (model X.prog X.w) X.A (assign target X.env u) (fun _ s'=>∃σ' H',Inv X Z σ' H' s'/\Q σ' H') X.xe s
def PGs (X:Cx)(ts:List Expr)(t:TGs):Prop :=
 ∀(Z:ji) (s:Shared) (σ:St) (H:Hp) (vs:List V) (us:jj) (Q:St->Hp->Prop),Inv X Z σ H s->Vals vs us->t vs σ H Q ->
   wpAny (model X.prog X.w) X.A (assignInOrder ((assignEach ts X.env).map (·.2)) us) (fun _ s'=>∃σ' H',Inv X Z σ' H' s'/\Q σ' H') X.xe s
abbrev zI0:=V->V->V->Hp->(Hp->Prop)->Prop
def zHB (X:Cx)(t:zI0):Prop :=
 ∀(Z:ji) (s:Shared) (σ:St) (H:Hp) (o i v:V) (ov iv u:Value) (Q:Hp->Prop),Inv X Z σ H s->RelV o ov->RelV i iv->RelV v u->t o i v H Q ->
   wpAny (model X.prog X.w) X.A (setItem ov iv u) (fun _ s'=>∃H',Inv X Z σ H' s'/\Q H') X.xe s
section
variable {X:Cx} {pos:Pos}
def zS9 (i:Nat):TG:=fun v σ H Q=>Q (σ.set i (some v)) H
def zJV {i:Nat}{x:Str}(hN:X.N.Nodup)(hi:X.N[i]?=some x)(hx:Loc X.env.scope x)(hf:X.fn x=true∨X.env.scope.names.lookup x=some .local:=by first | exact .inl rfl | exact .inr rfl | assumption):PG X (.Name x pos) (zS9 i):=by
 intro Z s σ H v u Q I r h
 exact wpAny_assign_Name (zRf I hN hi hx r (fun s' I'=>⟨_,H,I',h⟩) hf)
def zFq:TGs:=fun vs σ H Q=>vs=[]/\Q σ H
def zGC (t:TG)(u:TGs):TGs:=fun vs σ H Q=>∃v r,vs=v::r/\t v σ H fun σ' H'=>u r σ' H' Q
def zKx:PGs X [] zFq:=by
 intro Z s σ H vs us Q I r h
 obtain⟨e,h⟩:=h
 subst e
 cases r
 exact assignInOrder_nil ⟨σ,H,I,h⟩
def zMF {e:Expr}{es:List Expr}{t:TG}{u:TGs}(h1:PG X e t)(h2:PGs X es u)
   (hs:(assignEach (e::es) X.env).map (·.2)=assign e X.env::(assignEach es X.env).map (·.2):=by rfl):PGs X (e::es) (zGC t u):=by
 intro Z s σ H vs us Q I r h
 obtain⟨v,vr,e1,h⟩:=h
 subst e1
 cases r with
 | cons r rr =>
   rw[hs]
   refine assignInOrder_cons (thn (h1 Z s σ H _ _ _ I r h) fun _ s1 ⟨σ1,H1,I1,q1⟩=>?_)
   exact h2 Z s1 σ1 H1 _ _ Q I1 rr q1
def zFw (K:jg)(n:Nat)(t:TGs):TG:=fun v σ H Q=>∃a xs,v = .ref a/\SqT K H a xs/\xs.length=n/\t xs σ H Q
def zIz {es:List Expr}{k:Nat}{t:TGs}{n:Nat}(hc:X.calm=true)(h:PGs X es t)
   (hn:(assignEach es X.env).length=n:=by rfl) (hst:(assignEach es X.env).findIdx? (·.1)=none:=by rfl):PG X (.Tuple es k pos) (zFw X.K n t):=by
 intro Z s σ H v u Q I r hw
 obtain⟨a,xs,e1,hq,hl,hw⟩:=hw
 subst e1
 cases r
 obtain⟨j6,rv,ht,hz⟩:=I.tuple hq
 refine assign_Tuple_tuple (I.ok.hd hc) ht (by simp[hn,←hl,rv.length]) hst fun h' hx=>?_
 have I1:Inv X Z σ H { s with heap:=h' }:=I.kept (t':=s.toks) fun b o e=>hx b o (Er (Qs e)) e
 exact h Z _ σ H xs _ Q I1 (by simpa using rv) hw
def zFJ (to ti:TE)(t:zI0):TG:=fun v σ H Q=>to σ H fun o H1=>ti σ H1 fun i H2=>t o i v H2 fun H3=>Q σ H3
def zMz {o i:Expr}{to ti:TE}{t:zI0}(ho:PE X o to)(hi:PE X i ti)(hs:zHB X t)
   (ha:∀v,assign (.Subscript o i pos) X.env v=(do
     let ov ←holding [v] (eval o X.env)
     let iv ←holding [v,ov] (eval i X.env)
     standAt pos
     holding [v,ov,iv] (setItem ov iv v)
     release [v,ov,iv] []):=by intro _;rfl):PG X (.Subscript o i pos) (zFJ to ti t):=by
 intro Z s σ H v u Q I r h
 rw[ha]
 refine Qe (Ri (thn (ho Z s σ H _ I h) fun ov s1 ⟨x,H1,I1,r1,q1⟩=>?_))
 refine Qe (Ri (thn (hi Z s1 σ H1 _ I1 q1) fun iv s2 ⟨y,H2,I2,r2,q2⟩=>?_))
 refine Qe (wpAny_standAt (Qe (Ri (thn (hs Z s2 σ H2 x y v ov iv u _ I2 r1 r2 r q2) fun _ s3 ⟨H3,I3,q3⟩=>?_))))
 exact wpAny_release ⟨σ,H3,I3,q3⟩
def zNK (te:TE)(g:TG):TS:=fun D σ H=>te σ H fun x H1=>g x σ H1 D.nx
def zQm {tg e:Expr}{te:TE}{g:TG}(he:PE X e te)(hg:PG X tg g)(hs:swapsWithSole [tg] e pos.line X.env=pure false:=by rfl)(hw:swappedStores [tg] e X.env=pure none:=by rfl)
   (h1:(assignEach [tg] X.env).map (·.2)=[assign tg X.env]:=by rfl):PS X (.Assign [tg] e pos) (zNK te g):=by
 intro Z s σ H D I h
 refine wpAny_Assign_stores (thn (he Z s σ H _ I h) fun v s1 ⟨x,H1,I1,r1,q1⟩=>?_) hs hw
 rw[h1]
 exact thn (hg Z s1 σ H1 x v _ I1 r1 q1) fun _ s2 q=>q
def zUs {i:Nat}{x:Str}{e:Expr}{te:TE}{pos':Pos}(hN:X.N.Nodup)(hi:X.N[i]?=some x)(hx:Loc X.env.scope x)(he:PE X e te)(hs:swapsWith e (some (.Name x pos')) pos.line X.env=pure false:=by rfl)(hf:X.fn x=true∨X.env.scope.names.lookup x=some .local:=by first | exact .inl rfl | exact .inr rfl | assumption) :
   PS X (.Assign [.Name x pos'] e pos) (zNK te (zS9 i)):=by
 intro Z s σ H D I h
 refine wpAny_Assign_Name (thn (he Z s σ H _ I h) fun v s1 ⟨y,H1,I1,r1,q1⟩=>?_) hs
 exact zRf I1 hN hi hx r1 (fun s2 I2=>⟨_,H1,I2,q1⟩) hf
def zIj (c:TT)(tb:TS):TS:=fun D σ H=>∃W:Nat->St->Hp->Prop,(∃m,W m σ H)/\∀m σ H,W m σ H ->
 c σ H fun b H1=>if b=true then ∃N:St->Hp->Prop,(∀σ' H',N σ' H'->∃m',m' < m/\W m' σ' H')/\tb { D with nx:=N,ct:=N,bk:=D.nx } σ H1 else D.nx σ H1
def zKD {c:Expr}{body:List Stmt}{tc:TT}{tb:TS}(hp:PassesOwn (model X.prog X.w) X.A X.env X.xe)(hc:PT X c tc)(hb:PSs X body tb):PS X (.While c body [] pos) (zIj tc tb):=by
 intro Z s σ H D I h
 obtain⟨W,⟨m0,w0⟩,turn⟩:=h
 refine wpAny_While (codeAny_whileLoop (fun n s'=>∃σ' H',Inv X Z σ' H' s'/\W n σ' H') ?_ m0 ⟨σ,H,I,w0⟩)
 rintro n s1 ⟨σ1,H1,I1,w1⟩
 refine Tu hp (thn (hc Z s1 σ1 H1 _ I1 (turn n σ1 H1 w1)) fun b s2 ⟨H2,I2,q2⟩=>?_)
 cases b with
 | true =>
   obtain⟨N,hN,q2⟩:=q2
   rw[Qv rfl]
   refine Tu hp (thn (hb Z s2 σ1 H2 _ I2 q2) fun f s3 q3=>?_)
   cases f with
   | next =>
     obtain⟨σ3,H3,I3,n3⟩:=q3
     obtain⟨m',hm,w3⟩:=hN σ3 H3 n3
     exact⟨m',hm,σ3,H3,I3,w3⟩
   | cont =>
     obtain⟨σ3,H3,I3,n3⟩:=q3
     obtain⟨m',hm,w3⟩:=hN σ3 H3 n3
     exact⟨m',hm,σ3,H3,I3,w3⟩
   | brk=>exact q3
   | ret v=>exact q3
 | false =>
   rw[Wh Qj]
   exact Ua ⟨σ1,H2,I2,q2⟩
end
structure It where
 go:Nat->Hp->Prop
 yld:Nat->Hp->V->Hp->Prop
 stop:Nat->Hp->Prop
def lD (X:Cx)(Z:ji)(H:Hp)(b:Addr):Prop :=
 H b=none/\b≠X.env.locals/\b∉X.fs/\(b∈X.ex∨X.s₀.heap.objs.size<=b)/\(∀x c,X.env.cells.lookup x=some c->c≠b)/\∀p∈X.pn++Z,p.1≠b
def Inv.fpOk {X:Cx}{Z:ji}{σ:St}{H H':Hp}{s:Shared}{b:Addr}(I:Inv X Z σ H s)(hb:s.heap.objs.size<=b)(hn:H' b=none):lD X Z H' b:=by
 refine⟨hn,Nat.ne_of_gt (Wp I.lt hb),I.nofs hb,.inr (Ep I.sz hb),fun x c e z=>?_,fun p hp z=>?_⟩
 · obtain⟨v,q⟩:=I.cell x c e
   exact absurd (Wp q.lt (by rw[z];exact hb)) (Wk _)
 · exact absurd (Wp (Qs (I.pin p hp).1) (by rw[z];exact hb)) (Wk _)
structure Turn (P:Program)(w:World)(K:jg)(tg:Expr)(J:It)(fp:List Addr)(it:Addr)(tn:Nat->Heap->Prop):Prop where
 mem:it∈fp
 obj:∀i h,tn i h->∀b∈fp,∃o,h.get? b=some o/\∀v,o.data ≠ .cell v
 keep:∀i h h',tn i h->(∀b∈fp,∀o,h.get? b=some o->h'.get? b=some o)->tn i h'
 item:∀(X:Cx),X.prog=P->X.w=w->X.K=K->X.calm=true->∀(i:Nat) (Z:ji) (s:Shared) (σ:St) (H:Hp) (E:jh),Inv X Z σ H s->(∀b∈fp,lD X Z H b)->tn i s.heap->J.go i H ->
   wpAny (model P w) X.A (pyNext (.ref it)) (fun r s1=>∃u,r=some u /\
     wpAny (model P w) X.A (letOwnedTupleGo tg (.ref it) u) (fun _ s2=>∃x H',Inv X Z σ H' s2/\RelV x u/\J.yld i H x H'/\tn (i+1) s2.heap/\∀b∈fp,H' b=none) E s1) E s
 done:∀(X:Cx),X.prog=P->X.w=w->X.K=K->X.calm=true->∀(i:Nat) (Z:ji) (s:Shared) (σ:St) (H:Hp) (E:jh),Inv X Z σ H s->(∀b∈fp,lD X Z H b)->tn i s.heap->J.stop i H ->
   wpAny (model P w) X.A (pyNext (.ref it)) (fun r s1=>r=none/\Inv X Z σ H s1) E s
 self:∀(A:Around) (i:Nat) (s:Shared) (Q:jh) (E:jh),tn i s.heap->Q (.ref it) s->wpAny (model P w) A (pyIter (.ref it)) Q E s
abbrev TI:=St->Hp->(It->Hp->Prop)->Prop
def PIE (X:Cx)(Z:ji)(σ:St)(tg:Expr)(R:It->Hp->Prop)(itv:Value)(s2:Shared):Prop :=
 ∃(it:Addr) (fp:List Addr) (tn:Nat->Heap->Prop) (J:It) (H':Hp),itv = .ref it/\Inv X Z σ H' s2/\Turn X.prog X.w X.K tg J fp it tn/\tn 0 s2.heap/\(∀b∈fp,lD X Z H' b)/\R J H'
def PI (X:Cx)(tg iter:Expr)(wi:TI):Prop :=
 ∀(Z:ji) (s:Shared) (σ:St) (H:Hp) (R:It->Hp->Prop),Inv X Z σ H s->wi σ H R ->
   wpAny (model X.prog X.w) X.A (eval iter X.env) (fun v s1=>wpAny (model X.prog X.w) X.A (pyIter v) (PIE X Z σ tg R) X.xe s1) X.xe s
def zS1 {M:Model}{A:Around}{E:jh}{s:Shared}{tg:Expr}{it:Addr}{u:Value}{o:Obj}{n:String}{vs:jk}{Q:Unit->Shared->Prop}(ho:s.heap.get? it=some o)(hc:o.cls = .type n)(hd:o.data = .fields vs)
   (hn:["enumerate","zip","dict_itemiterator","dict_reverseitemiterator","odict_iterator","itertools.zip_longest","itertools.pairwise"].contains n=false) (hQ:Q () s):wpAny M A (letOwnedTupleGo tg (.ref it) u) Q E s:=by
 unfold letOwnedTupleGo
 cases tg<;>first
   | exact Qd hQ
   | (cases u<;>first
       | exact Qd hQ
       | (refine Qe (wpAny_load ho ?_)
          rw[hc,hd]
          show wpAny M A (if (["enumerate","zip","dict_itemiterator","dict_reverseitemiterator","odict_iterator","itertools.zip_longest","itertools.pairwise"].contains n&&vs[0]?==some (rawInt _))=true then _ else _) Q E s
          rw[Wh (by intro h;rw[hn,Bool.false_and] at h;cases h)]
          exact Qd hQ))
def Itl (K:jg)(a:Addr):It :=
 ⟨fun i H=>∃xs x,SqL K H a xs/\xs[i]?=some x,fun i H x H'=>H'=H/\∀xs,SqL K H a xs->xs[i]?=some x,fun i H=>∃xs,SqL K H a xs/\xs.length<=i⟩
def Itt (K:jg)(a:Addr):It :=
 ⟨fun i H=>∃xs x,SqT K H a xs/\xs[i]?=some x,fun i H x H'=>H'=H/\∀xs,SqT K H a xs->xs[i]?=some x,fun i H=>∃xs,SqT K H a xs/\xs.length<=i⟩
def Itr (lo:Int)(n:Nat):It:=⟨fun i _=>i < n,fun i H x H'=>H'=H/\x = .int (lo+i),fun i _=>n<=i⟩
def zNA {P:Program}{w:World}{K:jg}{tg:Expr}(a it:Addr):Turn P w K tg (Itl K a) [it] it (fun i h=>h.IsListIter it a i) where
 mem:=jd
 obj:=fun i h st b hb=>by
   have e:b=it:=by simpa using hb
   subst e
   obtain⟨o,e,c,d⟩:=st
   exact⟨o,e,fun v z=>by rw[d] at z;cases z⟩
 keep:=fun i h h' st k=>st.at fun o e=>k it jd o e
 item:=by
   intro X hP hw hK hc i Z s σ H E I hf st hg
   subst hP hw hK
   obtain⟨xs,x,hq,hx⟩:=hg
   obtain⟨j6,rv,p,hz⟩:=I.list hq
   obtain⟨u,hu,ru⟩:=rv.get hx
   obtain⟨f0,f1,f2,f3,f4,f5⟩:=hf it jd
   refine wpAny_pyNext_list_item st p.isList (x:=u) (by simpa using hu) fun h' st' sb=>?_
   have I1:Inv X Z σ H { s with heap:=h' }:=I.turned (t':=s.toks) (fun b o hb e=>(sb.2 b hb).trans e) f0 f1 f3 f4 f5
   obtain⟨o,e,c,d⟩:=id st'
   exact⟨u,rfl,zS1 (s:={ s with heap:=h' }) e c d jb ⟨x,H,I1,ru,⟨rfl,fun ys hy=>by rw[I.list_inj hy hq];exact hx⟩,st',fun b hb=>(hf b hb).1⟩⟩
 done:=by
   intro X hP hw hK hc i Z s σ H E I hf st hg
   subst hP hw hK
   obtain⟨xs,hq,hx⟩:=hg
   obtain⟨j6,rv,p,hz⟩:=I.list hq
   obtain⟨f0,f1,f2,f3,f4,f5⟩:=hf it jd
   have hl:=rv.length
   exact wpAny_pyNext_list_end (I.ok.hd hc) st p.isList (by simp;omega) fun h' eb=>⟨rfl,I.turned (t':=s.toks) (fun b o hb e=>eb b o hb e) f0 f1 f3 f4 f5⟩
 self:=fun _ _ _ _ _ st h=>wpAny_pyIter_listiter st h
def zQ0 {P:Program}{w:World}{K:jg}{tg:Expr}(a it:Addr):Turn P w K tg (Itt K a) [it] it (fun i h=>h.IsTupleIter it a i) where
 mem:=jd
 obj:=fun i h st b hb=>by
   have e:b=it:=by simpa using hb
   subst e
   obtain⟨o,e,c,d⟩:=st
   exact⟨o,e,fun v z=>by rw[d] at z;cases z⟩
 keep:=fun i h h' st k=>st.at fun o e=>k it jd o e
 item:=by
   intro X hP hw hK hc i Z s σ H E I hf st hg
   subst hP hw hK
   obtain⟨xs,x,hq,hx⟩:=hg
   obtain⟨j6,rv,p,hz⟩:=I.tuple hq
   obtain⟨u,hu,ru⟩:=rv.get hx
   obtain⟨f0,f1,f2,f3,f4,f5⟩:=hf it jd
   refine wpAny_pyNext_tuple_item st (show s.heap.IsTuple a j6.toArray from p) (x:=u) (by simpa using hu) fun h' st' sb=>?_
   have I1:Inv X Z σ H { s with heap:=h' }:=I.turned (t':=s.toks) (fun b o hb e=>(sb.2 b hb).trans e) f0 f1 f3 f4 f5
   obtain⟨o,e,c,d⟩:=id st'
   exact⟨u,rfl,zS1 (s:={ s with heap:=h' }) e c d jb ⟨x,H,I1,ru,⟨rfl,fun ys hy=>by rw[I.tuple_inj hy hq];exact hx⟩,st',fun b hb=>(hf b hb).1⟩⟩
 done:=by
   intro X hP hw hK hc i Z s σ H E I hf st hg
   subst hP hw hK
   obtain⟨xs,hq,hx⟩:=hg
   obtain⟨j6,rv,p,hz⟩:=I.tuple hq
   obtain⟨f0,f1,f2,f3,f4,f5⟩:=hf it jd
   have hl:=rv.length
   exact wpAny_pyNext_tuple_end (I.ok.hd hc) st (show s.heap.IsTuple a j6.toArray from p) (by simp;omega) fun h' eb=>⟨rfl,I.turned (t':=s.toks) (fun b o hb e=>eb b o hb e) f0 f1 f3 f4 f5⟩
 self:=fun _ _ _ _ _ st h=>wpAny_pyIter_tupleiter st h
def zPW {P:Program}{w:World}{K:jg}{tg:Expr}(it:Addr)(lo:Int)(n:Nat):Turn P w K tg (Itr lo n) [it] it (fun i h=>IsRangeIter h it (lo+(i:Nat)*1) ((n:Int) - (i:Nat)) 1) where
 mem:=jd
 obj:=fun i h st b hb=>by
   have e:b=it:=by simpa using hb
   subst e
   exact⟨_,st,fun v z=>by
     have z':Data.fields _=Data.cell v:=z
     cases z'⟩
 keep:=fun i h h' st k=>k it jd _ st
 item:=by
   intro X hP hw hK hc i Z s σ H E I hf st hg
   subst hP hw hK
   obtain⟨f0,f1,f2,f3,f4,f5⟩:=hf it jd
   have W:=Walks.range (prog:=X.prog) (w:=X.w) (I.ok.hd hc) it lo 1 n
   refine W.item i s _ _ hg st fun v h' tk hv st' kk=>?_
   obtain⟨t,rfl⟩:=hv
   have I1:Inv X Z σ H { s with heap:=h',toks:=tk }:=I.turned (fun b o hb e=>kk b o (by simpa using hb) e) f0 f1 f3 f4 f5
   refine⟨_,rfl,zS1 (s:={ s with heap:=h',toks:=tk }) (n:="range_iterator") st' rfl rfl jb ⟨.int (lo+i),H,I1,⟨t,?_⟩,⟨rfl,rfl⟩,st',fun b hb=>(hf b hb).1⟩⟩
   rw[Int.mul_one]
 done:=by
   intro X hP hw hK hc i Z s σ H E I hf st hg
   subst hP hw hK
   obtain⟨f0,f1,f2,f3,f4,f5⟩:=hf it jd
   exact wpAny_pyNext_range_end (I.ok.hd hc) st (by have:n<=i:=hg;omega) fun h' eb=>⟨rfl,I.turned (t':=s.toks) (fun b o hb e=>eb b o hb e) f0 f1 f3 f4 f5⟩
 self:=fun _ _ _ _ _ st h=>wpAny_pyIter_rangeiter st h
section
variable {X:Cx} {tg:Expr}
def zGQ (K:jg)(tl:TE):TI:=fun σ H R=>tl σ H fun x H1=>∃a,x = .ref a/\(∃xs,SqL K H1 a xs)/\R (Itl K a) H1
def zF4 (K:jg)(tl:TE):TI:=fun σ H R=>tl σ H fun x H1=>∃a,x = .ref a/\(∃xs,SqT K H1 a xs)/\R (Itt K a) H1
def zP6 {l:Expr}{tl:TE}(hl:PE X l tl):PI X tg l (zGQ X.K tl):=by
 intro Z s σ H R I h
 refine thn (hl Z s σ H _ I h) fun v s1 ⟨x,H1,I1,r1,q1⟩=>?_
 obtain⟨a,e,⟨xs,hq⟩,q⟩:=q1
 subst e
 cases r1
 obtain⟨j6,rv,p,hz⟩:=I1.list hq
 refine Yz p.isList ?_
 refine⟨s1.heap.objs.size,[s1.heap.objs.size],_,_,H1,rfl,I1.kept (t':=s1.toks) fun b o e=>Qr _ e,zNA a _,⟨_,Qz _ rfl,rfl,rfl⟩,fun b hb=>?_,q⟩
 have e:b=s1.heap.objs.size:=by simpa using hb
 subst e
 exact I1.fpOk (Ql _) (I1.hok.fresh (Ql _))
def zHT {l:Expr}{tl:TE}(hl:PE X l tl):PI X tg l (zF4 X.K tl):=by
 intro Z s σ H R I h
 refine thn (hl Z s σ H _ I h) fun v s1 ⟨x,H1,I1,r1,q1⟩=>?_
 obtain⟨a,e,⟨xs,hq⟩,q⟩:=q1
 subst e
 cases r1
 obtain⟨j6,rv,p,hz⟩:=I1.tuple hq
 refine Yg (show s1.heap.IsTuple a j6.toArray from p) ?_
 refine⟨s1.heap.objs.size,[s1.heap.objs.size],_,_,H1,rfl,I1.kept (t':=s1.toks) fun b o e=>Qr _ e,zQ0 a _,⟨_,Qz _ rfl,rfl,rfl⟩,fun b hb=>?_,q⟩
 have e:b=s1.heap.objs.size:=by simpa using hb
 subst e
 exact I1.fpOk (Ql _) (I1.hok.fresh (Ql _))
def zSF {Z:ji}{σ:St}{H:Hp}{s:Shared}{R:It->Hp->Prop}{E:jh}{lo hi:Int}{t u v:Tok}{tk:Nat}(I:Inv X Z σ H s)(h1 : -(2^62)<=lo)(h2:lo < 2^62)(h3 : -(2^62)<=hi)(h4:hi < 2^62)
   (q:R (Itr lo (hi - lo).toNat) H):wpAny (model X.prog X.w) X.A (pyIter (.ref s.heap.objs.size)) (PIE X Z σ tg R) E { s with heap:=s.heap.push { cls:=.type "range",data:=.fields #[.int lo t,.int hi u,.int 1 v] },toks:=tk }:=by
 refine wpAny_pyIter_range (IsRange.new ..) (small_one h1 h2 h3 h4) ?_
 have I1:Inv X Z σ H { s with heap:=s.heap.push { cls:=.type "range",data:=.fields #[.int lo t,.int hi u,.int 1 v] },toks:=tk }:=I.kept fun b o e=>Qr _ e
 refine⟨(s.heap.push { cls:=.type "range",data:=.fields #[.int lo t,.int hi u,.int 1 v] }).objs.size,[(s.heap.push { cls:=.type "range",data:=.fields #[.int lo t,.int hi u,.int 1 v] }).objs.size],_,_,H,rfl,
   I1.kept (t':=tk) fun b o e=>Qr _ e,zPW _ lo (hi - lo).toNat,?_,fun b hb=>?_,q⟩
 · have e1:lo+((0:Nat):Int)*1=lo:=by simp
   have e2:(((hi - lo).toNat:Nat):Int) - ((0:Nat):Int)=Builtin.Range.rangeSize lo hi 1:=by rw[rangeSize_one];split<;>omega
   show IsRangeIter _ _ (lo+((0:Nat):Int)*1) ((((hi - lo).toNat:Nat):Int) - ((0:Nat):Int)) 1
   rw[e1,e2]
   exact Qz _ rfl
 · have e:b=(s.heap.push { cls:=.type "range",data:=.fields #[.int lo t,.int hi u,.int 1 v] }).objs.size:=by simpa using hb
   subst e
   exact I1.fpOk (Ql _) (I1.hok.fresh (Ql _))
def zFZ (ta:TA):TI:=fun σ H R=>ta σ H fun vs H1=>∃j:Int,vs=[.int j] /\ -(2^62)<=j/\j < 2^62/\R (Itr 0 j.toNat) H1
def zG8 (ta:TA):TI:=fun σ H R=>ta σ H fun vs H1=>∃i j:Int,vs=[.int i,.int j]/\(-(2^62)<=i/\i < 2^62 /\ -(2^62)<=j/\j < 2^62)/\R (Itr i (j - i).toNat) H1
def zOo {a:Expr}{ta:TA}{p pos:Pos}(hg:Gl X "range")(hm:X.mg "range"=none)(ha:PA X [a] ta)(hs:starEach [a] X.env=[(false,eval a X.env)]:=by rfl):PI X tg (.Call (.Name "range" p) [a] [] pos) (zFZ ta):=by
 intro Z s σ H R I h
 refine Call_ (oA I hg hm boot_range (Ei (thn (ha pos Z s σ H _ I h) fun us s1 ⟨vs,H1,I1,r1,q1⟩=>?_) hs rfl))
 obtain⟨j,e,q1,q2,q⟩:=q1
 subst e
 cases r1 with
 | cons r rr =>
   cases rr
   obtain⟨t,rfl⟩:=r
   exact call_range_1 (zSF I1 jc jc q1 q2 (by simpa using q))
def zO4 {a b:Expr}{ta:TA}{p pos:Pos}(hg:Gl X "range")(hm:X.mg "range"=none)(ha:PA X [a,b] ta)(hs:starEach [a,b] X.env=[(false,eval a X.env),(false,eval b X.env)]:=by rfl)(hs2:starEach [b] X.env=[(false,eval b X.env)]:=by rfl) :
   PI X tg (.Call (.Name "range" p) [a,b] [] pos) (zG8 ta):=by
 intro Z s σ H R I h
 refine Call_ (oA I hg hm boot_range (Ei (thn (ha pos Z s σ H _ I h) fun us s1 ⟨vs,H1,I1,r1,q1⟩=>?_) (by rw[hs,hs2]) (by rw[hs2];rfl)))
 obtain⟨i,j,e,⟨q1,q2,q3,q4⟩,q⟩:=q1
 subst e
 cases r1 with
 | cons r rr =>
   cases rr with
   | cons r' rr =>
     cases rr
     obtain⟨t,rfl⟩:=r
     obtain⟨t',rfl⟩:=r'
     exact call_range_2 (zSF I1 q1 q2 q3 q4 q)
def zFp (wi:TI)(g:TG)(tb:TS):TS:=fun D σ H=>wi σ H fun J H1=>∃W:Nat->Nat->St->Hp->Prop,(∃m,W 0 m σ H1)/\∀i m σ H,W i m σ H ->
 (J.stop i H/\D.nx σ H)∨(J.go i H/\∃N:St->Hp->Prop,(∀σ' H',N σ' H'->∃m',m' < m/\W (i+1) m' σ' H')/\∀x H',J.yld i H x H'->g x σ H' fun σ2 H2=>tb { D with nx:=N,ct:=N,bk:=D.nx } σ2 H2)
def zX4 (fp:List Addr)(h:Heap):ji:=fp.filterMap fun b=>(h.get? b).map fun o=>(b,o)
def hJ {fp:List Addr}{h:Heap}{b:Addr}{o:Obj}(hb:b∈fp)(e:h.get? b=some o):(b,o)∈zX4 fp h:=List.mem_filterMap.mpr ⟨b,hb,by rw[e];rfl⟩
def zN5 {fp:List Addr}{h:Heap}{p:Addr×Obj}(hp:p∈zX4 fp h):p.1∈fp/\h.get? p.1=some p.2:=by
 obtain⟨b,hb,e⟩:=List.mem_filterMap.mp hp
 cases q:h.get? b with
 | none=>rw[q] at e;cases e
 | some o =>
   rw[q] at e
   have e':(b,o)=p:=Eg e
   subst e'
   exact⟨hb,q⟩
def Inv.pinned {Z:ji}{σ:St}{H:Hp}{s:Shared}{fp:List Addr}(I:Inv X Z σ H s)(hf:∀b∈fp,lD X Z H b)(ho:∀b∈fp,∃o,s.heap.get? b=some o/\∀v,o.data ≠ .cell v):Inv X (Z++zX4 fp s.heap) σ H s :=
 I.pins_of fun p hp=>(Eu.mp hp).elim (fun z=>I.pin p (Ea _ z)) fun z=>by
   obtain⟨hb,e⟩:=zN5 z
   obtain⟨f0,f1,f2,_⟩:=hf p.1 hb
   obtain⟨o,e',d⟩:=ho p.1 hb
   rw[e] at e';cases e'
   exact⟨e,f0,f1,f2,d⟩
def Inv.unpinned {Z pl:ji}{σ:St}{H:Hp}{s:Shared}(I:Inv X (Z++pl) σ H s):Inv X Z σ H s:=I.pins_of fun p hp=>I.pin p (Ea _ (Ux _ hp))
def zIm {iter:Expr}{body:List Stmt}{wi:TI}{g:TG}{tb:TS}{pos:Pos}(hp:PassesOwn (model X.prog X.w) X.A X.env X.xe)(hc:X.calm=true)(hi:PI X tg iter wi)(hg:PG X tg g)(hb:PSs X body tb)
   (hs:∀x,foldedSetIterable iter X.env x=pure x:=by intro _;rfl):PS X (.For tg iter body [] pos) (zFp wi g tb):=by
 intro Z s σ H D I h
 refine wpAny_For (thn (hi Z s σ H _ I h) fun v s1 h1=>thn h1 fun itv s2 h2=>?_) hs
 obtain⟨it,fp,tn,J,H2,e,I2,T,st2,f2,W,⟨m0,w0⟩,turn⟩:=h2
 subst e
 -- what stays true of the iterator's objects through the loop
 have stat:∀ {H':Hp},(∀b∈fp,H' b=none)->∀b∈fp,lD X Z H' b:=fun hn b hb=>⟨hn b hb,(f2 b hb).2⟩
 refine codeAny_forLoop_any (fun n s'=>∃i σ' H',Inv X Z σ' H' s'/\tn i s'.heap/\(∀b∈fp,H' b=none)/\W i n σ' H') ?_ m0 ⟨0,σ,H2,I2,st2,fun b hb=>(f2 b hb).1,w0⟩
 rintro n s3 ⟨i,σ3,H3,I3,st3,fr3,w3⟩
 rcases turn i n σ3 H3 w3 with⟨stop,qn⟩ | ⟨go,N,hN,step⟩
 · refine Tu hp (thn (T.done X rfl rfl rfl hc i Z s3 σ3 H3 X.xe I3 (stat fr3) st3 stop) fun r s4 ⟨hr,I4⟩=>?_)
   subst hr
   exact Ua ⟨σ3,H3,I4,qn⟩
 · refine Tu hp (thn (T.item X rfl rfl rfl hc i Z s3 σ3 H3 X.xe I3 (stat fr3) st3 go) fun r s4 ⟨u,hr,h4⟩=>?_)
   subst hr
   refine Tu hp (thn h4 fun _ s5 ⟨x,H5,I5,r5,y5,st5,fr5⟩=>?_)
   have I5':=I5.pinned (stat fr5) (T.obj _ _ st5)
   refine Tu hp (thn (hg _ s5 σ3 H5 x u _ I5' r5 (step x H5 y5)) fun _ s6 ⟨σ6,H6,I6,q6⟩=>?_)
   refine Tu hp (thn (hb _ s6 σ6 H6 _ I6 q6) fun f s7 q7=>?_)
   have again:∀ {σ7:St} {H7:Hp},Inv X (Z++zX4 fp s5.heap) σ7 H7 s7->N σ7 H7->∃m,m < n/\∃i σ' H',Inv X Z σ' H' s7/\tn i s7.heap/\(∀b∈fp,H' b=none)/\W i m σ' H':=fun {σ7 H7} I7 n7=>by
     obtain⟨m',hm,w7⟩:=hN σ7 H7 n7
     refine⟨m',hm,i+1,σ7,H7,I7.unpinned,T.keep _ _ _ st5 fun b hb o e=>(I7.pin (b,o) (Ea _ (Ea _ (hJ hb e)))).1,fun b hb=>?_,w7⟩
     obtain⟨o,e,d⟩:=T.obj _ _ st5 b hb
     exact(I7.pin (b,o) (Ea _ (Ea _ (hJ hb e)))).2.1
   cases f with
   | next=>obtain⟨σ7,H7,I7,n7⟩:=q7;exact again I7 n7
   | cont=>obtain⟨σ7,H7,I7,n7⟩:=q7;exact again I7 n7
   | brk=>obtain⟨σ7,H7,I7,q7⟩:=q7;exact⟨σ7,H7,I7.unpinned,q7⟩
   | ret v=>obtain⟨x7,σ7,H7,I7,r7,q7⟩:=q7;exact⟨x7,σ7,H7,I7.unpinned,r7,q7⟩
end
abbrev R2:=V->V->Hp->VK->Prop
def OpR (X:Cx)(f:Value->Value->Sem Value)(r:R2):Prop :=
 ∀(Z:ji) (s:Shared) (σ:St) (H:Hp) (x y:V) (v u:Value) (Q:VK),Inv X Z σ H s->RelV x v->RelV y u->r x y H Q ->
   wpAny (model X.prog X.w) X.A (f v u) (EP X Z σ Q) X.xe s
def UnR (X:Cx)(f:Value->Sem Value)(r:V->Hp->VK->Prop):Prop :=
 ∀(Z:ji) (s:Shared) (σ:St) (H:Hp) (x:V) (v:Value) (Q:VK),Inv X Z σ H s->RelV x v->r x H Q ->
   wpAny (model X.prog X.w) X.A (f v) (EP X Z σ Q) X.xe s
def CallR (X:Cx)(f:Value)(r:List V->Hp->VK->Prop):Prop :=
 ∀(Z:ji) (s:Shared) (σ:St) (H:Hp) (xs:List V) (us:jj) (Q:VK),Inv X Z σ H s->Vals xs us->r xs H Q ->
   wpAny (model X.prog X.w) X.A (call f us) (EP X Z σ Q) X.xe s
def tOp (r:R2)(ta tb:TE):TE:=fun σ H Q=>ta σ H fun x H1=>tb σ H1 fun y H2=>r x y H2 Q
def tUn (r:V->Hp->VK->Prop)(ta:TE):TE:=fun σ H Q=>ta σ H fun x H1=>r x H1 Q
def rI (C:Int->Int->Prop)(g:Int->Int->V):R2:=fun x y H Q=>∃i j,x = .int i/\y = .int j/\C i j/\Q (g i j) H
def rI0 (g:Int->Int->V):R2:=fun x y H Q=>∃i j,x = .int i/\y = .int j/\Q (g i j) H
def rU (g:Int->V):V->Hp->VK->Prop:=fun x H Q=>∃i,x = .int i/\Q (g i) H
section
variable {X:Cx} {a b:Expr} {ta tb:TE} {pos:Pos}
def zH1 (ha:PE X a ta)(hb:PE X b tb){Z:ji}{s:Shared}{σ:St}{H:Hp}{R:V->V->Hp->Prop}(I:Inv X Z σ H s)
   (h:ta σ H fun x H1=>tb σ H1 fun y H2=>R x y H2) {Q:jh} {f:Value->Value->Sem Value}
   (hf:∀v u s2 x y H2,Inv X Z σ H2 s2->RelV x v->RelV y u->R x y H2->wpAny (model X.prog X.w) X.A (f v u) Q X.xe s2) :
   wpAny (model X.prog X.w) X.A (eval a X.env) (fun v s₁=>wpAny (model X.prog X.w) X.A (eval b X.env) (fun u s₂=>wpAny (model X.prog X.w) X.A (f v u) Q X.xe s₂) X.xe s₁) X.xe s:=by
 refine thn (ha Z s σ H _ I h) fun v s1 ⟨x,H1,I1,r1,q1⟩=>?_
 refine thn (hb Z s1 σ H1 _ I1 q1) fun u s2 ⟨y,H2,I2,r2,q2⟩=>?_
 exact hf v u s2 x y H2 I2 r1 r2 q2
def zXd {op:Operator}{r:R2}(ho:OpR X (binaryOp op) r)(ha:PE X a ta)(hb:PE X b tb):PE X (.BinOp a op b pos) (tOp r ta tb):=by
 intro Z s σ H Q I h
 exact wpAny_BinOp (zH1 ha hb I h fun v u s2 x y H2 I2 rx ry q=>ho Z s2 σ H2 x y v u Q I2 rx ry q)
def zGy {op:UnaryOp}{r:V->Hp->VK->Prop}(ho:UnR X (unaryOp op) r)(ha:PE X a ta):PE X (.UnaryOp op a pos) (tUn r ta):=by
 intro Z s σ H Q I h
 exact UnaryOp_ (thn (ha Z s σ H _ I h) fun v s1 ⟨x,H1,I1,r1,q1⟩=>ho Z s1 σ H1 x v Q I1 r1 q1)
def opI {f:Value->Value->Sem Value}{C:Int->Int->Prop}{g:Int->Int->Int}
   (rule:∀(i j:Int) (t u:Tok) (s:Shared) (Q:jh) (E:jh),C i j->Q (.int (g i j) s.toks) { s with toks:=s.toks+1 }->wpAny (model X.prog X.w) X.A (f (.int i t) (.int j u)) Q E s) :
   OpR X f (rI C fun i j=>.int (g i j)):=by
 intro Z s σ H x y v u Q I rx ry h
 obtain⟨i,j,rfl,rfl,hc,q⟩:=h
 obtain⟨t,rfl⟩:=rx
 obtain⟨t',rfl⟩:=ry
 exact rule i j t t' s _ _ hc ⟨.int (g i j),H,I.tok _,⟨_,rfl⟩,q⟩
def zHw {f:Value->Value->Sem Value}{g:Int->Int->Int}
   (rule:∀(i j:Int) (t u:Tok) (s:Shared) (Q:jh) (E:jh),Q (.int (g i j) s.toks) { s with toks:=s.toks+1 }->wpAny (model X.prog X.w) X.A (f (.int i t) (.int j u)) Q E s) :
   OpR X f (rI0 fun i j=>.int (g i j)):=by
 intro Z s σ H x y v u Q I rx ry h
 obtain⟨i,j,rfl,rfl,q⟩:=h
 obtain⟨t,rfl⟩:=rx
 obtain⟨t',rfl⟩:=ry
 exact rule i j t t' s _ _ ⟨.int (g i j),H,I.tok _,⟨_,rfl⟩,q⟩
def zHJ {f:Value->Value->Sem Value}{g:Int->Int->Bool}
   (rule:∀(i j:Int) (t u:Tok) (s:Shared) (Q:jh) (E:jh),Q (.bool (g i j)) s->wpAny (model X.prog X.w) X.A (f (.int i t) (.int j u)) Q E s) :
   OpR X f (rI0 fun i j=>.bl (g i j)):=by
 intro Z s σ H x y v u Q I rx ry h
 obtain⟨i,j,rfl,rfl,q⟩:=h
 obtain⟨t,rfl⟩:=rx
 obtain⟨t',rfl⟩:=ry
 exact rule i j t t' s _ _ ⟨.bl (g i j),H,I,rfl,q⟩
def zF3 (i j:Int):Prop:=0 < j/\j < 1073741824
def zIC (i j:Int):Prop:=0<=j/\j<=1000000/\i.natAbs < 2^64
def CMul (i j:Int):Prop:=(-(2^64) < i/\i < 2^64)∨(-(2^64) < j/\j < 2^64)
def CMul.ok {i j:Int}(h:CMul i j):IntMulOk i j:=by
 rcases h with⟨h1,h2⟩ | ⟨h1,h2⟩
 · exact .of_left (intBits_le_64 h1 h2)
 · exact .of_right (intBits_le_64 h1 h2)
def zLS:OpR X (binaryOp .Add) (rI0 fun i j=>.int (i+j)):=zHw fun _ _ _ _ _ _ _ q=>add_int q
def zIs:OpR X (binaryOp .Sub) (rI0 fun i j=>.int (i - j)):=zHw fun _ _ _ _ _ _ _ q=>sub_int q
def zIw:OpR X (binaryOp .Mult) (rI CMul fun i j=>.int (i*j)):=opI fun _ _ _ _ _ _ _ hc q=>mul_int q hc.ok
def zJw:OpR X (binaryOp .FloorDiv) (rI zF3 fun i j=>.int (i / j)):=opI fun i j _ _ _ _ _ hc q=>by
 have h1:(0:Int) < j:=hc.1
 have h2:j < 1073741824:=hc.2
 exact floordiv_int jc (by rw[Int.fdiv_eq_ediv_of_nonneg i jc];exact q) (.inl (PyProof.noPylong_small jc))
def zIe:OpR X (binaryOp .Mod) (rI (fun _ j=>0 < j) fun i j=>.int (i % j)):=opI fun i j _ _ _ _ _ hc q=>by
 have h1:(0:Int) < j:=hc
 exact mod_int' jc (by rw[Int.fmod_eq_emod_of_nonneg i jc];exact q)
def zHR:OpR X (binaryOp .Pow) (rI zIC fun i j=>.int (i^j.toNat)):=opI fun _ _ _ _ _ _ _ hc q=>pow_int_small hc.1 hc.2.1 hc.2.2 q
def zHX:OpR X (binaryOp .LShift) (rI zIC fun i j=>.int (i*2^j.toNat)):=opI fun _ _ _ _ _ _ _ hc q=>lshift_int_small hc.1 hc.2.1 hc.2.2 q
def zHG:OpR X (binaryOp .BitXor) (rI0 fun i j=>.int (Builtin.bitXor i j)):=zHw fun _ _ _ _ _ _ _ q=>xor_int q
def unI {f:Value->Sem Value}{g:Int->Int}
   (rule:∀(i:Int) (t:Tok) (s:Shared) (Q:jh) (E:jh),Q (.int (g i) s.toks) { s with toks:=s.toks+1 }->wpAny (model X.prog X.w) X.A (f (.int i t)) Q E s) :
   UnR X f (rU fun i=>.int (g i)):=by
 intro Z s σ H x v Q I rx h
 obtain⟨i,rfl,q⟩:=h
 obtain⟨t,rfl⟩:=rx
 exact rule i t s _ _ ⟨.int (g i),H,I.tok _,⟨_,rfl⟩,q⟩
def zIy:UnR X (unaryOp .USub) (rU fun i=>.int (-i)):=unI fun _ _ _ _ _ q=>neg_int q
def zIB:V->V->Bool
 | .non,.non=>true | .non,.int _=>true | .int _,.non=>true | .non,.bl _=>true | .bl _,.non=>true | .non,.str _=>true | .str _,.non=>true
 | .int _,.int _=>true | .bl _,.bl _=>true | .str _,.str _=>true | .byt _,.byt _=>true
 | .int _,.str _=>true | .str _,.int _=>true | .bl _,.str _=>true | .str _,.bl _=>true
 | _,_=>false
def rEq:R2:=fun x y H Q=>zIB x y=true/\Q (.bl (decide (x=y))) H
def rNe:R2:=fun x y H Q=>zIB x y=true/\Q (.bl (!decide (x=y))) H
def zPg {i j:Int}:decide (V.int i=V.int j)=(i==j):=by
 rw[Yo]
 simp
def zTY {i j:Bool}:decide (V.bl i=V.bl j)=(i==j):=by
 rw[Yo]
 simp
def zOD {i j:Str}:decide (V.str i=V.str j)=(i==j):=by
 rw[Yo]
 simp
def zPq {i j:Array UInt8}:decide (V.byt i=V.byt j)=(i.toList==j.toList):=by
 rw[Yo]
 cases i
 cases j
 simp
variable {c:Expr} {tc:TE}
def xT {Z:ji}{σ:St}{H:Hp}{s:Shared}{Q:VK}{k k':Bool}(I:Inv X Z σ H s)(q:Q (.bl k) H)(e:k=k'):EP X Z σ Q (.bool k') s:=by
 subst e
 exact⟨.bl k,H,I,rfl,q⟩
def zG5:OpR X (compareOp .Eq) rEq:=by
 intro Z s σ H x y v u Q I rx ry h
 obtain⟨hs,q⟩:=h
 cases x with
 | non =>
   cases rx
   cases y with
   | non=>cases ry;exact PySem.EqNone.eq_none_none (xT I q jd)
   | bl j=>cases ry;exact PySem.EqNone.eq_none_bool (xT I q jd)
   | int j=>obtain⟨t',rfl⟩:=ry;exact PySem.EqNone.eq_none_int (xT I q jd)
   | str j=>obtain⟨t',rfl⟩:=ry;exact PySem.EqNone.eq_none_str (xT I q jd)
   | _=>exact absurd (show false=true from hs) Qj
 | bl i =>
   cases rx
   cases y with
   | non=>cases ry;exact PySem.EqNone.eq_bool_none (xT I q jd)
   | bl j=>cases ry;exact eq_bool (xT I q zTY)
   | str j=>obtain⟨t',rfl⟩:=ry;exact PySem.EqMixed.eq_bool_str (xT I q jd)
   | _=>exact absurd (show false=true from hs) Qj
 | int i =>
   obtain⟨t,rfl⟩:=rx
   cases y with
   | non=>cases ry;exact PySem.EqNone.eq_int_none (xT I q jd)
   | int j=>obtain⟨t',rfl⟩:=ry;exact eq_int (xT I q zPg)
   | str j=>obtain⟨t',rfl⟩:=ry;exact PySem.EqMixed.eq_int_str (xT I q jd)
   | _=>exact absurd (show false=true from hs) Qj
 | str i =>
   obtain⟨t,rfl⟩:=rx
   cases y with
   | non=>cases ry;exact PySem.EqNone.eq_str_none (xT I q jd)
   | bl j=>cases ry;exact PySem.EqMixed.eq_str_bool (xT I q jd)
   | int j=>obtain⟨t',rfl⟩:=ry;exact PySem.EqMixed.eq_str_int (xT I q jd)
   | str j=>obtain⟨t',rfl⟩:=ry;exact eq_str (xT I q zOD)
   | _=>exact absurd (show false=true from hs) Qj
 | byt i =>
   obtain⟨t,rfl⟩:=rx
   cases y with
   | byt j=>obtain⟨t',rfl⟩:=ry;exact PySem.W.eq_bytes (xT I q zPq)
   | _=>exact absurd (show false=true from hs) Qj
 | _=>cases y<;>exact absurd (show false=true from hs) Qj
def zGa:OpR X (compareOp .NotEq) rNe:=by
 intro Z s σ H x y v u Q I rx ry h
 obtain⟨hs,q⟩:=h
 cases x with
 | non =>
   cases rx
   cases y with
   | non=>cases ry;exact PySem.EqNone.ne_none_none (xT I q jd)
   | bl j=>cases ry;exact PySem.EqNone.ne_none_bool (xT I q jd)
   | int j=>obtain⟨t',rfl⟩:=ry;exact PySem.EqNone.ne_none_int (xT I q jd)
   | str j=>obtain⟨t',rfl⟩:=ry;exact PySem.EqNone.ne_none_str (xT I q jd)
   | _=>exact absurd (show false=true from hs) Qj
 | bl i =>
   cases rx
   cases y with
   | non=>cases ry;exact PySem.EqNone.ne_bool_none (xT I q jd)
   | bl j=>cases ry;exact ne_bool (xT I q (Eo not zTY))
   | str j=>obtain⟨t',rfl⟩:=ry;exact PySem.EqMixed.ne_bool_str (xT I q jd)
   | _=>exact absurd (show false=true from hs) Qj
 | int i =>
   obtain⟨t,rfl⟩:=rx
   cases y with
   | non=>cases ry;exact PySem.EqNone.ne_int_none (xT I q jd)
   | int j=>obtain⟨t',rfl⟩:=ry;exact ne_int (xT I q (Eo not zPg))
   | str j=>obtain⟨t',rfl⟩:=ry;exact PySem.EqMixed.ne_int_str (xT I q jd)
   | _=>exact absurd (show false=true from hs) Qj
 | str i =>
   obtain⟨t,rfl⟩:=rx
   cases y with
   | non=>cases ry;exact PySem.EqNone.ne_str_none (xT I q jd)
   | bl j=>cases ry;exact PySem.EqMixed.ne_str_bool (xT I q jd)
   | int j=>obtain⟨t',rfl⟩:=ry;exact PySem.EqMixed.ne_str_int (xT I q jd)
   | str j=>obtain⟨t',rfl⟩:=ry;exact ne_str (xT I q (Eo not zOD))
   | _=>exact absurd (show false=true from hs) Qj
 | byt i =>
   obtain⟨t,rfl⟩:=rx
   cases y with
   | byt j=>obtain⟨t',rfl⟩:=ry;exact PySem.W.ne_bytes (xT I q (Eo not zPq))
   | _=>exact absurd (show false=true from hs) Qj
 | _=>cases y<;>exact absurd (show false=true from hs) Qj
def zG6:OpR X (compareOp .Lt) (rI0 fun i j=>.bl (decide (i < j))):=zHJ fun _ _ _ _ _ _ _ q=>lt_int q
def zGO:OpR X (compareOp .LtE) (rI0 fun i j=>.bl (decide (i<=j))):=zHJ fun _ _ _ _ _ _ _ q=>le_int q
def zGm:OpR X (compareOp .Gt) (rI0 fun i j=>.bl (decide (j < i))):=zHJ fun _ _ _ _ _ _ _ q=>gt_int q
def zNH:OpR X (compareOp .In) (fun x y H Q=>∃i j,x = .str i/\y = .str j/\Q (.bl (!(Builtin.Str.occurrences j i 0 j.length 1).isEmpty)) H):=by
 intro Z s σ H x y v u Q I rx ry h
 obtain⟨i,j,rfl,rfl,q⟩:=h
 obtain⟨t,rfl⟩:=rx
 obtain⟨t',rfl⟩:=ry
 exact in_str (xT I q rfl)
def zHW:OpR X (compareOp .Is) (fun x y H Q=>y = .non/\Q (.bl (decide (x = .non))) H):=by
 intro Z s σ H x y v u Q I rx ry h
 obtain⟨rfl,q⟩:=h
 cases ry
 refine is_none_gen (xT I q ?_)
 cases x<;>first
   | (cases rx;rfl)
   | (obtain⟨t,rfl⟩:=rx;rfl)
def zJg:OpR X (compareOp .IsNot) (fun x y H Q=>y = .non/\Q (.bl (!decide (x = .non))) H):=by
 intro Z s σ H x y v u Q I rx ry h
 obtain⟨rfl,q⟩:=h
 cases ry
 refine isnot_none_gen (xT I q ?_)
 cases x<;>first
   | (cases rx;rfl)
   | (obtain⟨t,rfl⟩:=rx;rfl)
def OpR.or {f:Value->Value->Sem Value}{r r':R2}(h:OpR X f r)(h':OpR X f r'):OpR X f (fun x y H Q=>r x y H Q∨r' x y H Q):=by
 intro Z s σ H x y v u Q I rx ry q
 rcases q with q | q
 · exact h Z s σ H x y v u Q I rx ry q
 · exact h' Z s σ H x y v u Q I rx ry q
def zYC (b:Expr){op:CmpOp}(h:op ≠ .In:=by decide)(h2:op ≠ .NotIn:=by decide):behindInMarks op b=false:=by
 have e1:(op==CmpOp.In)=false:=by cases op<;>first | rfl | exact absurd rfl h
 have e2:(op==CmpOp.NotIn)=false:=by cases op<;>first | rfl | exact absurd rfl h2
 cases b<;>simp[behindInMarks,e1,e2]
def zJz {op:CmpOp}{r:R2}(ho:OpR X (compareOp op) r)(ha:PE X a ta)(hb:PE X b tb)(hm:behindInMarks op b=false):PE X (.Compare a [op] [b] pos) (tOp r ta tb):=by
 intro Z s σ H Q I h
 exact wpAny_Compare1 (zH1 ha hb I h fun v u s2 x y H2 I2 rx ry q=>ho Z s2 σ H2 x y v u Q I2 rx ry q) hm
def zII (t:TE):TT:=fun σ H Q=>t σ H fun x H'=>∃k,x = .bl k/\Q k H'
def zZT {op:CmpOp}{r:R2}(ho:OpR X (compareOp op) r)(ha:PE X a ta)(hb:PE X b tb)(hm:behindInMarks op b=false):PT X (.Compare a [op] [b] pos) (zII (tOp r ta tb)):=by
 intro Z s σ H Q I h
 refine wpAny_isTrue_Compare1 (thn (ha Z s σ H _ I h) fun v s1 ⟨x,H1,I1,r1,q1⟩=>thn (hb Z s1 σ H1 _ I1 q1) fun u s2 ⟨y,H2,I2,r2,q2⟩ =>
   thn (ho Z s2 σ H2 x y v u _ I2 r1 r2 q2) fun c s3 ⟨z,H3,I3,r3,k,e,q3⟩=>?_) hm
 subst e
 cases r3
 exact Ti ⟨H3,I3,q3⟩
def zIc (r r':R2)(ta tb tc:TE):TE:=fun σ H Q=>ta σ H fun x H1=>tb σ H1 fun y H2=>r x y H2 fun z H3=>∃k,z = .bl k /\
 (if k=true then tc σ H3 fun w' H4=>r' y w' H4 Q else Q (.bl false) H3)
def zLp {op op':CmpOp}{r r':R2}(ho:OpR X (compareOp op) r)(ho':OpR X (compareOp op') r')(ha:PE X a ta)(hb:PE X b tb)(hc:PE X c tc)
   (hm:lastMarks [op,op'] [b,c]=false:=by with_unfolding_all rfl):PE X (.Compare a [op,op'] [b,c] pos) (zIc r r' ta tb tc):=by
 intro Z s σ H Q I h
 refine Compare_chain (thn (ha Z s σ H _ I h) fun v s1 ⟨x,H1,I1,r1,q1⟩=>chain_link (thn (hb Z s1 σ H1 _ I1 q1) fun u s2 ⟨y,H2,I2,r2,q2⟩ =>
   thn (ho Z s2 σ H2 x y v u _ I2 r1 r2 q2) fun d s3 ⟨z,H3,I3,r3,k,e,q3⟩=>?_)) hm
 subst e
 cases r3
 refine Ti ?_
 cases k with
 | false=>exact ite_ff ⟨.bl false,H3,I3,rfl,q3⟩
 | true=>exact ite_tt (chain_last (thn (hc Z s3 σ H3 _ I3 q3) fun w' s4 ⟨z',H4,I4,r4,q4⟩=>ho' Z s4 σ H4 y z' u w' Q I4 r2 r4 q4))
def zYI:(sizeLine:Nat) < 2^63:=by rw[Yv];decide
def zQ8:OpR X (binaryOp .Add) (fun x y H Q=>∃i j,x = .str i/\y = .str j/\i.length+j.length<=sizeLine/\Q (.str (i++j)) H):=by
 intro Z s σ H x y v u Q I rx ry h
 obtain⟨i,j,rfl,rfl,hz,q⟩:=h
 obtain⟨t,rfl⟩:=rx
 obtain⟨t',rfl⟩:=ry
 exact add_str (fun t' tk=>⟨.str (i++j),H,I.tok _,⟨_,rfl⟩,q⟩) hz
def oG {x:V}{us:jj}(r:Vals [x] us):∃u,us=[u]/\RelV x u:=by
 cases r with
 | cons r1 r2=>cases r2;exact⟨_,rfl,r1⟩
def zRn {x y:V}{us:jj}(r:Vals [x,y] us):∃u w',us=[u,w']/\RelV x u/\RelV y w':=by
 cases r with
 | cons r1 r2 =>
   cases r2 with
   | cons r3 r4=>cases r4;exact⟨_,_,rfl,r1,r3⟩
def zO3 (hc:X.calm=true):CallR X (.builtin "max") (fun xs H Q=>∃i j,xs=[.int i,.int j]/\Q (.int (if j > i then j else i)) H):=by
 intro Z s σ H xs us Q I r h
 obtain⟨i,j,rfl,q⟩:=h
 obtain⟨u,w',rfl,⟨t,rfl⟩,⟨t',rfl⟩⟩:=zRn r
 refine max_two_ints (I.ok.hd hc) fun h' tk k=>⟨_,H,I.kept k,?_,q⟩
 by_cases hj:j > i
 · rw[Qv hj,Qv hj];exact⟨_,rfl⟩
 · rw[Wh hj,Wh hj];exact⟨_,rfl⟩
def zO2 (hc:X.calm=true):CallR X (.builtin "min") (fun xs H Q=>∃i j,xs=[.int i,.int j]/\Q (.int (if j < i then j else i)) H):=by
 intro Z s σ H xs us Q I r h
 obtain⟨i,j,rfl,q⟩:=h
 obtain⟨u,w',rfl,⟨t,rfl⟩,⟨t',rfl⟩⟩:=zRn r
 refine min_two_ints (I.ok.hd hc) fun h' tk k=>⟨_,H,I.kept k,?_,q⟩
 by_cases hj:j < i
 · rw[Qv hj,Qv hj];exact⟨_,rfl⟩
 · rw[Wh hj,Wh hj];exact⟨_,rfl⟩
def zNu:CallR X (.type "int") (fun xs H Q=>(∃i,xs=[.int i]/\Q (.int i) H)∨∃k,xs=[.bl k]/\Q (.int (if k then 1 else 0)) H):=by
 intro Z s σ H xs us Q I r h
 rcases h with⟨i,rfl,q⟩ | ⟨k,rfl,q⟩
 · obtain⟨u,rfl,t,rfl⟩:=oG r
   exact call_int_int ⟨.int i,H,I,⟨_,rfl⟩,q⟩
 · obtain⟨u,rfl,r1⟩:=oG r
   cases r1
   exact call_int_bool ⟨.int (if k then 1 else 0),H,I.tok _,⟨_,rfl⟩,q⟩
def zZr:CallR X (.type "str") (fun xs H Q=>∃i,xs=[.int i]/\i.natAbs.log2 < 1920/\Q (.str (toString i)) H):=by
 intro Z s σ H xs us Q I r h
 obtain⟨i,rfl,hz,q⟩:=h
 obtain⟨u,rfl,t,rfl⟩:=oG r
 exact PySem.P.str_of_int hz ⟨.str _,H,I.tok _,⟨_,rfl⟩,q⟩
end
structure ObjM (h:Heap)(x dx C:Addr)(mA:Str->Option Value):Prop where
 obj:h.get? x=some (PySem.W.instObj C dx)
 ns:h.Ns1 dx mA
 ne:dx≠x
def zNF {h:Heap}{dx:Addr}{mA:Str->Option Value}(n:h.Ns1 dx mA):∃od,h.get? dx=some od/\∀name,PySem.W.lookIn name od=some (mA name):=by
 obtain⟨o,es,ep,ho,hd,hk,_,hm⟩:=n
 refine⟨o,ho,fun name=>?_⟩
 have e:=hm name
 unfold nsFind findBy at e
 rw[←Array.find?_toList] at e
 unfold PySem.W.lookIn
 rw[hd]
 dsimp only
 split
 · rename_i y q
   rw[q] at e
   exact Eo some e
 · rename_i q
   rw[q] at e
   have a:es.toList.any (·.refKey)=false:=by
     rw[List.any_eq_false]
     intro y hy
     obtain⟨z,t,hkey⟩:=hk y (Array.mem_toList_iff.mp hy)
     simp[DictEntry.refKey,hkey]
   have a':¬es.toList.any (·.refKey)=true:=by rw[a];exact Qj
   rw[Wh a']
   exact Eo some e
def ObjM.look {h:Heap}{x dx C:Addr}{mA:Str->Option Value}(I:ObjM h x dx C mA):∃od,PySem.W.InstAt h x (PySem.W.instObj C dx) C (some od)/\∀name,PySem.W.lookIn name od=some (mA name) :=
 let ⟨od,ho,hl⟩:=zNF I.ns
 ⟨od,⟨I.obj,rfl,rfl,ho⟩,hl⟩
section
variable {prog:Program} {w:World} {A:Around} {E:jh} {s:Shared} {K:jg} {x dx C f:Addr} {mA:Str->Option Value} {name:Str} {v:Value}
def zJJ {expr:Bool}{Q:jh}(X:K.In s.heap)(I:ObjM s.heap x dx C mA)(hg:PySem.W.plainGet K C name=true)(hh:PySem.W.hasDictIn K C=true)
   (ha:PySem.W.findIn K (.ref C) name=some none) (hv:mA name=some v) (hv':PySem.W.handedIn v=true) (h:Q v { s with toks:=s.toks+1 }) :
   wpAny (model prog w) A (getAttr (.ref x) name expr) Q E s:=by
 obtain⟨od,J,hl⟩:=I.look
 exact PySem.W.get_value X J (PySem.W.plainGet_of hg).1 (PySem.W.findObj_own hh ha rfl (by rw[hl,hv])) hv' h
def zJc {ns:List Str}{Q:Unit->Shared->Prop}(X:K.In s.heap)(I:ObjM s.heap x dx C mA)
   (hs:PySem.W.findIn K (.ref C) "__setattr__"=some (some (.builtin "object.__setattr__"))) (hp:PySem.W.plainOver K C=true) (ht:PySem.W.takerIn K C name=some none) (hh:PySem.W.hasDictIn K C=true)
   (hw:PySem.Within mA ns) (hsz:ns.length<=sizeLine)
   (h:∀h',ObjM h' x dx C (fun y=>if y=name then some v else mA y)->Heap.SameBut dx s.heap h'->Q () { s with heap:=h',toks:=s.toks+2 }) :
   wpAny (model prog w) A (setAttr (.ref x) name v) Q E s:=by
 obtain⟨od,J,hl⟩:=I.look
 refine PySem.W.set_plain X J hs (PySem.W.osa_open (s:={ s with toks:=s.toks+1 }) (r:=none) X J hp ht fun b=>?_)
 obtain⟨cd,hc,hd'⟩:=PySem.W.any_some hh
 have hx:s.heap.get? x=some ⟨.ref C,some dx,.plain,#[]⟩:=I.obj
 refine Qe (Qd (Qe (Qe (wpAny_loadPart hx (Qe (PySem.W.Looks.here (s:={ s with toks:=s.toks+1 }) (PySem.W.looks_clsIn X hc) ?_))))))
 rw[hd']
 refine Qd (a:=some dx) (Qe (Qd (Qe ?_)))
 refine wpAny_nsSet1 (s:={ s with toks:=s.toks+1 }) I.ns fun h' hn2 hs2=>?_
 obtain⟨oD,esD,epD,hoD,hdD,hcD⟩:=hn2.count (PySem.Within.cons name v hw)
 refine Qe (wpAny_lookBehind hoD (by rw[hdD];exact pastItsLine_dict (Ep hcD (by rw[Qo];omega))) ?_)
 exact Qd (h _ ⟨(hs2.2 _ (Ne.symm I.ne)).trans I.obj,hn2,I.ne⟩ hs2)
def zM6 {R:Result->Shared->Prop}{vs:jj}{kw:List (Str×Value)}(X:K.In s.heap)(hm:PySem.W.makesIn K C=true)
   (hi:PySem.W.findIn K (.ref C) "__init__"=some (some (.ref f))) (hf:PySem.W.typeIn K (.ref f)=some (.type "function"))
   (h:codeAny (model prog w) (A.under (.builtin "type.__call__" ⟨.ref C::vs,kw⟩)) (.call (.ref f) ⟨.ref (s.heap.objs.size+1)::vs,kw⟩) (PySem.W.InitBack (s.heap.objs.size+1) R)
     { s with heap:=(s.heap.push PySem.W.emptyDict).push (PySem.W.instObj C s.heap.objs.size) }) :
   codeAny (model prog w) A (.call (.ref C) ⟨vs,kw⟩) R s:=by
 obtain⟨hh,g,d,t,os⟩:=s
 exact PySem.W.make_core (PySem.W.makes_of X hm) (PySem.W.looks_findIn X hi) (fun self=>PySem.W.bind_fn X self hf) (.inl rfl) h
end
def iH (f:Str)(v:V):List (Str×V)->List (Str×V)
 | []=>[(f,v)]
 | (g,x)::r=>if g=f then(g,v)::r else(g,x)::iH f v r
def zYe (f g:Str)(v:V):∀fs:List (Str×V),(iH f v fs).lookup g=if g=f then some v else fs.lookup g
 | []=>by
   show List.lookup g [(f,v)]=_
   by_cases h:g=f
   · have hb:(g==f)=true:=Uk.mpr h
     simp only[List.lookup,hb,Qv h]
   · have hb:(g==f)=false:=Ej.mpr h
     simp only[List.lookup,hb,Wh h]
 | (k,x)::r=>by
   have ih:=zYe f g v r
   rw[show iH f v ((k,x)::r)=(if k=f then(k,v)::r else(k,x)::iH f v r) from rfl]
   by_cases hk:k=f
   · rw[Qv hk]
     by_cases h:g=k
     · have hb:(g==k)=true:=Uk.mpr h
       simp only[List.lookup,hb,Qv (h.trans hk)]
     · have hb:(g==k)=false:=Ej.mpr h
       simp only[List.lookup,hb,Wh (fun e:g=f=>h (e.trans hk.symm))]
   · rw[Wh hk]
     by_cases h:g=k
     · have hb:(g==k)=true:=Uk.mpr h
       simp only[List.lookup,hb,Wh (fun e:g=f=>hk (h.symm.trans e))]
     · have hb:(g==k)=false:=Ej.mpr h
       simp only[List.lookup,hb]
       exact ih
def zYQ (f:Str)(v:V):∀fs:List (Str×V),f∈(iH f v fs).map (·.1)/\∀g,g∈fs.map (·.1)->g∈(iH f v fs).map (·.1)
 | []=>⟨by simp[iH],fun g h=>by simp at h⟩
 | (k,x)::r=>by
   obtain⟨i1,i2⟩:=zYQ f v r
   rw[show iH f v ((k,x)::r)=(if k=f then(k,v)::r else(k,x)::iH f v r) from rfl]
   by_cases hk:k=f
   · rw[Qv hk]
     subst hk
     exact⟨jd,fun g h=>by simpa using h⟩
   · rw[Wh hk]
     refine⟨?_,fun g h=>?_⟩
     · rw[Qu]
       exact Qa _ i1
     · rw[Qu] at h ⊢
       rcases Qh.mp h with e | e
       · exact Qh.mpr (.inl e)
       · exact Qa _ (i2 g e)
def zYd (f:Str)(v:V):∀fs:List (Str×V),(iH f v fs).length<=fs.length+1
 | []=>by simp[iH]
 | (k,x)::r=>by
   have ih:=zYd f v r
   rw[show iH f v ((k,x)::r)=(if k=f then(k,v)::r else(k,x)::iH f v r) from rfl]
   by_cases hk:k=f
   · rw[Qv hk,Qo,Qo];omega
   · rw[Wh hk,Qo,Qo];omega
def RelO.some_of {v:V}{o:Option Value}(r:RelO (some v) o):∃u,o=some u/\RelV v u:=by
 cases o with
 | none=>exact(show False from r).elim
 | some u=>exact⟨u,rfl,r⟩
def zOf {v:V}{u:Value}(r:RelV v u):PySem.W.handedIn u=true:=by
 cases v with
 | non=>cases (show u=Value.none from r);rfl
 | bl b=>cases (show u=Value.bool b from r);rfl
 | int i=>obtain⟨t,e⟩:=(show ∃t,u=Value.int i t from r);cases e;rfl
 | str x=>obtain⟨t,e⟩:=(show ∃t,u=Value.str x t from r);cases e;rfl
 | byt b=>obtain⟨t,e⟩:=(show ∃t,u=Value.bytes b t from r);cases e;rfl
 | flt b=>obtain⟨t,e⟩:=(show ∃t,u=Value.float b t from r);cases e;rfl
 | ref a=>cases (show u=Value.ref a from r);rfl
 | ty n=>cases (show u=Value.type n from r);rfl
section
variable {P:Program} {w:World} {H:Hp} {h:Heap} {a C dx:Addr} {fs:List (Str×V)}
def zPh (hok:HOk P w H h)(e:H a=some (.ins C dx fs)):∃mA,ObjM h a dx C mA/\(∀f,RelO (fs.lookup f) (mA f))/\PySem.Within mA (fs.map (·.1))/\fs.length<=1000/\H dx=some (.own a):=by
 obtain⟨d,z,ne,ob,mA,n,r,q⟩:=(show ObjOk P w H h a (.ins C dx fs) from hok a _ e)
 exact⟨mA,⟨ob,n,ne⟩,r,q,z,d⟩
end
structure Cls (K:jg)(C:Addr):Prop where
 pg:PySem.W.plainGet K C Str.empty=true
 hd:PySem.W.hasDictIn K C=true
 po:PySem.W.plainOver K C=true
 sa:PySem.W.findIn K (.ref C) "__setattr__"=some (some (.builtin "object.__setattr__"))
def Cls.get {K:jg}{C:Addr}(c:Cls K C)(f:Str):PySem.W.plainGet K C f=true:=c.pg
def NoAttr (K:jg)(C:Addr)(f:Str):Prop:=PySem.W.findIn K (.ref C) f=some none
def NoAttr.taker {K:jg}{C:Addr}{f:Str}(n:NoAttr K C f):PySem.W.takerIn K C f=some none:=by
 unfold PySem.W.takerIn
 rw[show PySem.W.findIn K (.ref C) f=some none from n]
 rfl
structure Con (K:jg)(C:Addr)(f:Str)(v:V)(u:Value):Prop where
 at_:PySem.W.findIn K (.ref C) f=some (some u)
 rel:RelV v u
 get:PySem.W.specialIn K u "__get__"=some none
 cp:PySem.W.copiedNames.contains f=false
structure Meth (K:jg)(C:Addr)(m:Str)(f:Addr):Prop where
 at_:PySem.W.findIn K (.ref C) m=some (some (.ref f))
 fn:PySem.W.isFn K (.ref f)=true
 kp:PySem.W.keepIn K (.ref f)=true
section
variable {X:Cx} {Z:ji} {σ:St} {H:Hp} {s:Shared} {a C dx:Addr} {fs:List (Str×V)} {f:Str} {v:V} {A:Around} {E:jh}
def zQW {b:Bool}{Q:jh}(I:Inv X Z σ H s)(e:H a=some (.ins C dx fs))(c:Cls X.K C)(n:NoAttr X.K C f)(l:fs.lookup f=some v)
   (h:∀u s',Inv X Z σ H s'->RelV v u->Q u s'):wpAny (model X.prog X.w) A (getAttr (.ref a) f b) Q E s:=by
 obtain⟨mA,O,r,_,_,_⟩:=zPh I.hok e
 obtain⟨u,hu,ru⟩:=RelO.some_of (v:=v) (o:=mA f) (by rw[←l];exact r f)
 exact zJJ I.kIn O (c.get f) c.hd n hu (zOf ru) (h u _ (I.tok _) ru)
def zQU {y:V}{u:Value}{Q:Unit->Shared->Prop}(I:Inv X Z σ H s)(e:H a=some (.ins C dx fs))(c:Cls X.K C)(n:NoAttr X.K C f)(hl:fs.length < 1000)(ry:RelV y u)
   (h:∀s',Inv X Z σ (upd H a (.ins C dx (iH f y fs))) s'->Q () s'):wpAny (model X.prog X.w) A (setAttr (.ref a) f u) Q E s:=by
 obtain⟨mA,O,r,wi,_,ho⟩:=zPh I.hok e
 have hz:(fs.map (·.1)).length<=sizeLine:=by rw[Qt,Yv];omega
 refine zJc I.kIn O c.sa c.po n.taker c.hd wi hz fun h' O' sb=>h _ ?_
 have hd:∃o,h'.get? dx=some o:=let ⟨o,_,_,e',_⟩:=O'.ns;⟨o,e'⟩
 refine I.write (x:=a) (e:=dx) (by rw[e];exact True.intro) (.inr ho) (fun b q hb z=>(sb.2 b hb).trans z) hd ?_
 refine⟨by rw[yL O.ne];exact ho,?_,O.ne,O'.obj,_,O'.ns,fun g=>?_,fun g hg=>?_⟩
 · have:=zYd f y fs;omega
 · show RelO ((iH f y fs).lookup g) (if g=f then some u else mA g)
   rw[zYe]
   by_cases q:g=f
   · rw[Qv q,Qv q];exact ry
   · rw[Wh q,Wh q];exact r g
 · by_cases q:g=f
   · rw[q];exact(zYQ f y fs).1
   · refine(zYQ f y fs).2 g (wi g fun z=>hg ?_)
     show(if g=f then some u else mA g)=none
     rw[Wh q];exact z
def Inv.made (I:Inv X Z σ H s):Inv X Z σ (upd (upd H s.heap.objs.size (.own (s.heap.objs.size+1))) (s.heap.objs.size+1) (.ins C s.heap.objs.size []))
   { s with heap:=(s.heap.push PySem.W.emptyDict).push (PySem.W.instObj C s.heap.objs.size) }:=by
 have e1:(s.heap.push PySem.W.emptyDict).get? s.heap.objs.size=some PySem.W.emptyDict:=Qz s.heap rfl
 have e2:((s.heap.push PySem.W.emptyDict).push (PySem.W.instObj C s.heap.objs.size)).get? (s.heap.objs.size+1)=some (PySem.W.instObj C s.heap.objs.size):=by
   have:=Qz (s.heap.push PySem.W.emptyDict) (o:=PySem.W.instObj C s.heap.objs.size) rfl
   rwa[Tt] at this
 have e3:(s.heap.push PySem.W.emptyDict).Ns s.heap.objs.size (fun _=>none):=⟨PySem.W.emptyDict,#[],_,e1,rfl,(fun e he=>absurd he jd),fun _=>rfl⟩
 have I1:=I.laid (a:=s.heap.objs.size) (o:=.own (s.heap.objs.size+1)) (h':=s.heap.push PySem.W.emptyDict) (t':=s.toks) (fun b u q=>Qr _ q) (Ql _) ⟨_,e1⟩
 refine I1.laid (a:=s.heap.objs.size+1) (o:=.ins C s.heap.objs.size []) (t':=s.toks) (fun b u q=>Qr _ q) (Ik (Tt _ _)) ?_
 have ne:s.heap.objs.size≠s.heap.objs.size+1:=Er (Ib _)
 refine⟨by rw[yL ne,yW],Th _,ne,e2,fun _=>none,(Heap.Ns1.of_empty e3).at fun o q=>Qr _ q,fun _=>True.intro,fun y hy=>absurd rfl hy⟩
def zJP {prog:Program}{w:World}{env:Env}{e:Expr}{f:Str}{pos:Pos}{s:Shared}{Q:jh}(hb:attributeBase e f env (eval e env)=eval e env)
   (h:wpAny (model prog w) A (eval e env) (fun o s₁=>wpAny (model prog w) A (getAttr o f true) Q E s₁) E s):wpAny (model prog w) A (eval (.Attribute e f pos) env) Q E s :=
 Attribute_any_ h (by rw[arm_eval_Attribute,hb])
end
def zFI (K:jg)(ta:TE)(f:Str):TE:=fun σ H Q=>ta σ H fun x H1=>∃a C dx fs v,x = .ref a/\H1 a=some (.ins C dx fs)/\Cls K C/\NoAttr K C f/\fs.lookup f=some v/\Q v H1
def zFz (K:jg)(ta tv:TE)(f:Str):TS:=fun D σ H=>tv σ H fun y H1=>ta σ H1 fun x H2=>∃a C dx fs,x = .ref a/\H2 a=some (.ins C dx fs)/\Cls K C/\NoAttr K C f/\fs.length < 1000 /\
 D.nx σ (upd H2 a (.ins C dx (iH f y fs)))
section
variable {X:Cx} {o e value:Expr} {f:Str} {pos pos':Pos} {ta tv:TE}
def zIA (he:PE X e ta)(hb:attributeBase e f X.env (eval e X.env)=eval e X.env):PE X (.Attribute e f pos) (zFI X.K ta f):=by
 intro Z s σ H Q I h
 refine zJP hb (thn (he Z s σ H _ I h) fun u s1 ⟨x,H1,I1,rx,a,C,dx,fs,v,ex,ea,c,n,l,q⟩=>?_)
 subst ex
 obtain rfl:u=Value.ref a:=rx
 exact zQW I1 ea c n l fun u' s2 I2 ru=>⟨v,H1,I2,ru,q⟩
def zPG (ha:PE X o ta)(hv:PE X value tv)(hs:swapsWith value (some (.Attribute o f pos')) pos.line X.env=pure false):PS X (.Assign [.Attribute o f pos'] value pos) (zFz X.K ta tv f):=by
 intro Z s σ H D I h
 refine plainObj_wpAny_Assign_Attribute (thn (hv Z s σ H _ I h) fun u s1 ⟨y,H1,I1,ry,q⟩=>thn (ha Z s1 σ H1 _ I1 q) fun ov s2 ⟨x,H2,I2,rx,a,C,dx,fs,ex,ea,c,n,l,q2⟩=>?_) hs
 subst ex
 obtain rfl:ov=Value.ref a:=rx
 exact zQU I2 ea c n l ry fun s3 I3=>⟨σ,_,I3,q2⟩
variable {H:Hp}
inductive TyOf (K:jg)(H:Hp):V->Value->Prop where
 | non:TyOf K H .non (.type "NoneType")
 | bl (x:Bool):TyOf K H (.bl x) (.type "bool")
 | int (i:Int):TyOf K H (.int i) (.type "int")
 | str (x:Str):TyOf K H (.str x) (.type "str")
 | flt (x:UInt64):TyOf K H (.flt x) (.type "float")
 | lst {a:Addr} {xs:List V} (e:H a=some (.lst xs)):TyOf K H (.ref a) (.type "list")
 | frz {a:Addr} {o:Obj} {xs:List V} (e:H a=some (.frz o (.lst xs))):TyOf K H (.ref a) (.type "list")
 | tup {a:Addr} {xs:List V} (e:H a=some (.tup xs)):TyOf K H (.ref a) (.type "tuple")
 | dK {a:Addr} {j8:List (Key×V)} (e:H a=some (.dK j8)):TyOf K H (.ref a) (.type "dict")
 | dT {a:Addr} {j8:List (List Key×V)} (e:H a=some (.dT j8)):TyOf K H (.ref a) (.type "dict")
 | ins {a C dx:Addr} {fs:List (Str×V)} (e:H a=some (.ins C dx fs)) (cl:Cls K C) (ha:PySem.W.findIn K (.ref C) "__class__"=some (some (.builtin "object.__class__")))
     (hn:PySem.W.specialIn K (.builtin "object.__class__") "__get__"=some (some (.builtin "getset_descriptor.__get__"))) (htk:PySem.W.takesIn K (.builtin "object.__class__")=some true)
     (hm:PySem.W.mroIn K C (.type "object")=some true):TyOf K H (.ref a) (.ref C)
end
structure Room (k:Nat)(A:Around):Prop where
 hd:A.handled=none
 dp:A.depth+3*k+5 < recursionLimit
 un:A.units+16*k+200 < cLine
def Room.mono {j k:Nat}{A:Around}(r:Room k A)(h:j<=k):Room j A:=⟨r.hd,by have:=r.dp;omega,by have:=r.un;omega⟩
def Room.deeper {k:Nat}{A:Around}(r:Room (k+1) A)(env:Env):Room k (A.deeper env) :=
 ⟨r.hd,by have:=r.dp;show A.depth+1+3*k+5 < _;omega,by have:=r.un;show A.units+3+16*k+200 < _;omega⟩
def zQr {A:Around}{C:Addr}{us:jj}{kw:List (Str×Value)}:(A.under (.builtin "type.__call__" ⟨.ref C::us,kw⟩)).depth=A.depth+1:=by
 first | rfl | simp[Around.under,Code.weight,Code.isCreation,Code.isGuard,Code.isCaller,Code.frames,Code.isFrame,guardIds]
def zPU {A:Around}{C:Addr}{us:jj}{kw:List (Str×Value)}:(A.under (.builtin "type.__call__" ⟨.ref C::us,kw⟩)).units=A.units+1:=by
 first | rfl | simp[Around.under,Code.cUnits,Code.frames,Code.isFrame]
def Room.make {k:Nat}{A:Around}(r:Room (k+1) A)(C:Addr)(us:jj)(kw:List (Str×Value)):Room k (A.under (.builtin "type.__call__" ⟨.ref C::us,kw⟩)) :=
 ⟨r.hd,by have:=r.dp;rw[zQr];omega,by have:=r.un;rw[zPU];omega⟩
def Room.depth {k:Nat}{A:Around}(r:Room k A):A.depth < recursionLimit:=by have:=r.dp;omega
def Room.units {k:Nat}{A:Around}(r:Room k A):A.units+64 < cLine:=by have:=r.un;omega
def Room.units0 {k:Nat}{A:Around}(r:Room k A):A.units < cLine:=by have:=r.un;omega
def zQR:TA:=fun _ H Q=>Q [] H
def zWw (ta:TE)(tr:TA):TA:=fun σ H Q=>ta σ H fun x H1=>tr σ H1 fun xs H2=>Q (x::xs) H2
section
variable {X:Cx} {e:Expr} {es:List Expr} {te:TE} {t:TA} {pos:Pos}
def yO:PA X [] zQR:=fun _ _ _ _ H Q I h=>Ig ⟨[],H,I,.nil,h⟩
def zE (ha:PE X e te)(hr:PA X es t)(hs:starEach (e::es) X.env=(false,eval e X.env)::starEach es X.env:=by rfl):PA X (e::es) (zWw te t):=by
 intro pos Z s σ H Q I h
 rw[hs]
 show wpAny _ _ (spliced ((false,eval e X.env)::backTo pos (starEach es X.env))) _ _ s
 refine Ie (thn (ha Z s σ H _ I h) fun u s1 ⟨x,H1,I1,r1,q1⟩=>?_)
 exact thn (hr pos Z s1 σ H1 _ I1 q1) fun us s2 ⟨xs,H2,I2,r2,q2⟩=>⟨x::xs,H2,I2,.cons r1 r2,q2⟩
def zFF (t:TA):TE:=fun σ H Q=>t σ H fun xs H1=>xs.length<=sizeLine/\∀p,H1 p=none->Q (.ref p) (upd H1 p (.tup xs))
def zFo (t:TA):TE:=fun σ H Q=>t σ H fun xs H1=>xs.length<=sizeLine/\∀p,H1 p=none->Q (.ref p) (upd H1 p (.lst xs))
def zHY {x1}(h:PA X es t):PE X (.Tuple es x1 pos) (zFF t):=by
 intro Z s σ H Q I hq
 refine wpAny_Tuple_spliced (thn (h pos Z s σ H _ I hq) fun us s1 ⟨xs,H1,I1,r,z,q⟩=>⟨by rw[←r.length];exact z,?_⟩)
 have hf:H1 s1.heap.objs.size=none:=I1.hok.fresh (Ql _)
 refine⟨.ref s1.heap.objs.size,upd H1 s1.heap.objs.size (.tup xs),I1.laid (t':=s1.toks) (fun b u e=>Qr _ e) (Ql _) ?_,rfl,q _ hf⟩
 exact⟨z,us,r,⟨_,Qz _ rfl,rfl,_,rfl⟩⟩
def zLk (h:PA X es t):PE X (.List es pos) (zFo t):=by
 intro Z s σ H Q I hq
 refine wpAny_List_spliced (thn (h pos Z s σ H _ I hq) fun us s1 ⟨xs,H1,I1,r,z,q⟩=>⟨by rw[←r.length];exact z,?_⟩)
 have hf:H1 s1.heap.objs.size=none:=I1.hok.fresh (Ql _)
 refine⟨.ref s1.heap.objs.size,upd H1 s1.heap.objs.size (.lst xs),I1.laid (t':=s1.toks) (fun b u e=>Qr _ e) (Ql _) ?_,rfl,q _ hf⟩
 exact⟨z,us,0,r,Qz _ rfl⟩
end
abbrev Sp:=List V->Hp->VK->XK->Prop
abbrev CXT:=List Env->Hp->Shared->XK->Value->Shared->Prop
structure Env0 (P:Program)(w:World)(K:jg)(mg:Str->Option Value)(base:Heap)(A:Around)(outer:List Env)(s:Shared)(H:Hp):Prop where
 frames:A.frames=some outer
 mod:Mod K mg base
 bs:∀b o,base.get? b=some o->s.heap.get? b=some o/\H b=none
 bsz:base.objs.size<=s.heap.objs.size
 funs:s.heap.FunFrames base outer
 frf:∀b∈frs outer,H b=none
 hok:HOk P w H s.heap
 bare:AllBare s.gens
def CE (outer:List Env)(P:Program)(w:World)(H:Hp)(s:Shared)(Q:VK)(u:Value)(s':Shared):Prop :=
 ∃v H',s'.os=s.os/\AllBare s'.gens/\Un (frs outer) [] H H' s.heap s'.heap/\HOk P w H' s'.heap/\RelV v u/\Q v H'
def CR (CX:CXT)(outer:List Env)(P:Program)(w:World)(H:Hp)(s:Shared)(Q:VK)(E:XK)(r:Result)(s':Shared):Prop :=
 match r with
 | .ok (.ret u)=>CE outer P w H s Q u s'
 | .ok _=>False
 | .error e=>CX outer H s E e s'
structure FnOk (P:Program)(w:World)(K:jg)(mg:Str->Option Value)(base:Heap)(CX:CXT)(k:Nat)(f:Addr)(fd:FuncData)(ps:List Str)(sp:Sp):Prop where
 len:∀vs H Q E,sp vs H Q E->vs.length=ps.length
 run:∀(A:Around) (outer:List Env) (s:Shared) (H:Hp) (args:Args) (us:jj) (vs:List V) (Q:VK) (E:XK),Room k A->Env0 P w K mg base A outer s H->BindsTo s fd args (ps.zip us)->Vals vs us->sp vs H Q E ->
   codeAny (model P w) A (.call (.ref f) args) (CR CX outer P w H s Q E) s
def Env0.make {P:Program}{w:World}{K:jg}{mg:Str->Option Value}{base:Heap}{A:Around}{outer:List Env}{s:Shared}{H:Hp}(e:Env0 P w K mg base A outer s H)(C:Addr)(us:jj)(kw:List (Str×Value)) :
   Env0 P w K mg base (A.under (.builtin "type.__call__" ⟨.ref C::us,kw⟩)) outer s H:=⟨by first | exact e.frames | (simpa [Around.under,Code.envs,Code.isFrame,pushEnvs] using e.frames),e.mod,e.bs,e.bsz,e.funs,e.frf,e.hok,e.bare⟩
section
variable {X:Cx} {Z:ji} {σ:St} {H:Hp} {s s':Shared}
def Inv.env0 (I:Inv X Z σ H s):Env0 X.prog X.w X.K X.mg X.base X.A X.stack s H :=
 ⟨I.ok.frames,I.ok.mod,I.bs,Ep I.ok.bsz I.sz,I.stack,I.stkFree,I.hok,I.bare⟩
def Inv.after {Q:VK}{u:Value}(I:Inv X Z σ H s)(h:CE X.stack X.prog X.w H s Q u s'):EP X Z σ Q u s':=by
 obtain⟨v,H',os,bare,un,hok,r,q⟩:=h
 obtain⟨hh,g,d,t,os'⟩:=s'
 obtain rfl:os'=s.os:=os
 exact⟨v,H',I.call (h':=hh) (g':=g) (d':=d) (t':=t) (ch:=[]) un hok bare (fun b z=>absurd z jd),r,q⟩
end
def zGo (sp:Sp)(dvs:List V)(E:XK)(t:TA):TE:=fun σ H Q=>t σ H fun vs H1=>sp (vs++dvs) H1 Q E
def zGW (C:Addr)(sp:Sp)(dvs:List V)(E:XK)(t:TA):TE:=fun σ H Q=>t σ H fun vs H1=>∀x dx,H1 x=none->H1 dx=none->dx≠x ->
 sp (.ref x::(vs++dvs)) (upd (upd H1 dx (.own x)) x (.ins C dx [])) (fun v H2=>v = .non/\Q (.ref x) H2) E
def Binds (K:jg)(fd:FuncData)(ps:List Str)(ds:jj):Prop :=
 ∀(s:Shared) (us:jj),K.In s.heap->(us++ds).length=ps.length->BindsTo s fd ⟨us,[]⟩ (ps.zip (us++ds))
def Binds.all {K:jg}{fd:FuncData}{ps:List Str}(h:∀us:List Value,us.length=ps.length->bindArgs fd ⟨us,[]⟩=pure (ps.zip us)):Binds K fd ps []:=fun s us _ hl=>by
 rw[Wx] at hl ⊢
 exact .of_eq (h us hl)
def zWX (CX:CXT)(X:Cx)(E:XK):Prop:=∀(Z:ji) (σ:St) (H:Hp) (s:Shared) (e:Value) (s':Shared),Inv X Z σ H s->CX X.stack H s E e s'->X.xe e s'
section
variable {X:Cx} {CX:CXT} {k:Nat} {f C:Addr} {fd:FuncData} {ps:List Str} {sp:Sp} {dvs:List V} {ds:jj} {E:XK} {x:Str} {p pos:Pos} {e:Expr} {es:List Expr} {t:TA}
def zIt {Z:ji}{σ:St}{H:Hp}{s:Shared}{Q:VK}{us:jj}{vs:List V}(F:FnOk X.prog X.w X.K X.mg X.base CX k f fd ps sp)(hr:Room k X.A)(hb:Binds X.K fd ps ds)(hd:Vals dvs ds)(hx:zWX CX X E)
   (I:Inv X Z σ H s) (r:Vals vs us) (h:sp (vs++dvs) H Q E):wpAny (model X.prog X.w) X.A (call (.ref f) us) (EP X Z σ Q) X.xe s:=by
 have r2:Vals (vs++dvs) (us++ds):=r.append hd
 have hl:(us++ds).length=ps.length:=by rw[←r2.length];exact F.len _ _ _ _ h
 refine wpAny_call (Il (F.run X.A X.stack s H ⟨us,[]⟩ (us++ds) (vs++dvs) Q E hr I.env0 (hb s us I.kIn hl) r2 h) fun r s' hq=>?_)
 cases r with
 | error e=>exact hx Z σ H s e s' I hq
 | ok fl =>
   cases fl with
   | ret u=>exact I.after hq
   | next=>exact False.elim hq
   | brk=>exact False.elim hq
   | cont=>exact False.elim hq
def zT8 (F:FnOk X.prog X.w X.K X.mg X.base CX k f fd ps sp)(hr:Room k X.A)(hg:Gl X x)(hm:X.mg x=some (.ref f))(hk:PySem.W.keepIn X.K (.ref f)=true)(hb:Binds X.K fd ps ds)(hd:Vals dvs ds)(hx:zWX CX X E)
   (ha:PA X (e::es) t) (hdb:(x==("__debug__":Str))=false:=by decide) (he:starEach (e::es) X.env=(false,eval e X.env)::starEach es X.env:=by rfl) (hpl:(backTo pos (starEach es X.env)).any (·.1)=false:=by rfl) :
   PE X (.Call (.Name x p) (e::es) [] pos) (zGo sp dvs E t):=by
 intro Z s σ H Q I h
 refine Tj (zUa I hg hm ?_ hdb)
 refine PySem.W.callWith_K (h₀:=X.base) I.ok.mod.kin hk (thn (ha pos Z s σ H _ I h) fun us s1 ⟨vs,H1,I1,r,q⟩=>⟨I1.kIn,?_⟩) he hpl
 exact zIt F hr hb hd hx I1 r q
structure Mk (K:jg)(C f:Addr):Prop where
 makes:PySem.W.makesIn K C=true
 init:PySem.W.findIn K (.ref C) "__init__"=some (some (.ref f))
 fn:PySem.W.isFn K (.ref f)=true
 kp:PySem.W.keepIn K (.ref C)=true
def zLg {Z:ji}{σ:St}{H:Hp}{s:Shared}{Q:VK}{us:jj}{vs:List V}(M:Mk X.K C f)(F:FnOk X.prog X.w X.K X.mg X.base CX k f fd ps sp)(hr:Room (k+1) X.A)(hb:Binds X.K fd ps ds)(hd:Vals dvs ds)
   (hx:zWX CX X E) (I:Inv X Z σ H s) (r:Vals vs us)
   (h:∀x dx,H x=none->H dx=none->dx≠x->sp (.ref x::(vs++dvs)) (upd (upd H dx (.own x)) x (.ins C dx [])) (fun v H2=>v = .non/\Q (.ref x) H2) E) :
   wpAny (model X.prog X.w) X.A (call (.ref C) us) (EP X Z σ Q) X.xe s:=by
 have hq:=h (s.heap.objs.size+1) s.heap.objs.size (I.hok.fresh (Yb _)) (I.hok.fresh (Ql _)) (Er (Ib _))
 have I2:=Inv.made (C:=C) I
 have r2:Vals (V.ref (s.heap.objs.size+1)::(vs++dvs)) (Value.ref (s.heap.objs.size+1)::(us++ds)):=.cons rfl (r.append hd)
 have hl:(Value.ref (s.heap.objs.size+1)::us++ds).length=ps.length:=by
   have e:=r2.length
   rw[F.len _ _ _ _ hq] at e
   exact e.symm
 refine wpAny_call (zM6 (f:=f) I.kIn M.makes M.init (Uk.mp M.fn) (Il (F.run _ X.stack _ _ ⟨Value.ref (s.heap.objs.size+1)::us,[]⟩ (Value.ref (s.heap.objs.size+1)::(us++ds)) _ _ E (hr.make C us [])
   (I2.env0.make C us []) (hb _ (Value.ref (s.heap.objs.size+1)::us) I2.kIn hl) r2 hq) fun r s' hq'=>?_))
 cases r with
 | error e=>exact hx Z σ _ _ e s' I2 hq'
 | ok fl =>
   cases fl with
   | ret u =>
     obtain⟨v,H',I3,rv,ev,q3⟩:=I2.after hq'
     subst ev
     exact⟨rv,⟨V.ref (s.heap.objs.size+1),H',I3,rfl,q3⟩⟩
   | next=>exact False.elim hq'
   | brk=>exact False.elim hq'
   | cont=>exact False.elim hq'
def zOA (M:Mk X.K C f)(F:FnOk X.prog X.w X.K X.mg X.base CX k f fd ps sp)(hr:Room (k+1) X.A)(hg:Gl X x)(hm:X.mg x=some (.ref C))(hb:Binds X.K fd ps ds)(hd:Vals dvs ds)(hx:zWX CX X E)
   (ha:PA X (e::es) t) (hdb:(x==("__debug__":Str))=false:=by decide) (he:starEach (e::es) X.env=(false,eval e X.env)::starEach es X.env:=by rfl) (hpl:(backTo pos (starEach es X.env)).any (·.1)=false:=by rfl) :
   PE X (.Call (.Name x p) (e::es) [] pos) (zGW C sp dvs E t):=by
 intro Z s σ H Q I h
 refine Tj (zUa I hg hm ?_ hdb)
 refine PySem.W.callWith_K (h₀:=X.base) I.ok.mod.kin M.kp (thn (ha pos Z s σ H _ I h) fun us s1 ⟨vs,H1,I1,r,q⟩=>⟨I1.kIn,?_⟩) he hpl
 exact zLg M F hr hb hd hx I1 r q
variable {ks:List Str}
structure KBinds (K:jg)(fd:FuncData)(ps ks:List Str)(g:List Value->List Value->List Value)(gV:List V->List V->List V):Prop where
 to:∀(s:Shared) (us ws:jj),K.In s.heap->(g us ws).length=ps.length->BindsTo s fd ⟨us,ks.zip ws⟩ (ps.zip (g us ws))
 rel:∀ {vs:List V} {us:jj} {zs:List V} {ws:jj},Vals vs us->Vals zs ws->Vals (gV vs zs) (g us ws)
variable {g:List Value->List Value->List Value} {gV:List V->List V->List V}
end
structure FnScope (N P:List Str)(sc:Scope):Prop where
 kind:sc.kind = .function
 co:sc.isCoroutine=false
 gen:sc.isGenerator=false
 nd:N.Nodup
 pre:N.take P.length=P
 par:∀x∈P,sc.names.lookup x=some .local∨sc.names.lookup x=some .cell
 nofree:∀y∈sc.names,y.2 ≠ .free
def zUJ {kindOf:Str->Option NameKind}{x:Str}:∀ {binds:List (Str×Value)} {m:Str->Option Value},(∀v,(x,v)∉binds)->bindL kindOf binds m x=m x
 | [],_,_=>rfl
 | (n,v)::r,m,h=>by
   unfold bindL
   rw[zUJ fun w hw=>h w (Qa _ hw)]
   split
   · have:x≠n:=by rintro rfl;exact h v Qf
     simp[this]
   · rfl
def zVc {kindOf:Str->Option NameKind}{x:Str}:∀ {binds:List (Str×Value)} {m:Str->Option Value},(∀v,(x,v)∉binds)->bindC kindOf binds m x=m x
 | [],_,_=>rfl
 | (n,v)::r,m,h=>by
   unfold bindC
   rw[zVc fun w hw=>h w (Qa _ hw)]
   split
   · rfl
   · have:x≠n:=by rintro rfl;exact h v Qf
     simp[this]
def zVi {kindOf:Str->Option NameKind}{x:Str}{v:Value}:∀ {P:List Str} {vs:jj} {i:Nat} {m:Str->Option Value},P.Nodup->P[i]?=some x->vs[i]?=some v->kindOf x=some .local ->
   bindL kindOf (P.zip vs) m x=some v
 | [],_,_,_,_,h,_,_=>by simp at h
 | _::_,[],_,_,_,_,h,_=>by simp at h
 | p::P,w::vs,0,m,nd,h1,h2,hk=>by
   simp at h1 h2;subst h1;subst h2
   show bindL kindOf ((p,w)::P.zip vs) m p=_
   unfold bindL
   rw[zUJ fun v hv=>(Yp.mp nd).1 (Oo hv).1,Qv hk]
   simp
 | p::P,w::vs,i+1,m,nd,h1,h2,hk=>by
   show bindL kindOf ((p,w)::P.zip vs) m x=_
   unfold bindL
   exact zVi (i:=i) (Yp.mp nd).2 (by simpa using h1) (by simpa using h2) hk
def zUU {kindOf:Str->Option NameKind}{x:Str}{v:Value}:∀ {P:List Str} {vs:jj} {i:Nat} {m:Str->Option Value},P.Nodup->P[i]?=some x->vs[i]?=some v->kindOf x≠some .local ->
   bindC kindOf (P.zip vs) m x=some v
 | [],_,_,_,_,h,_,_=>by simp at h
 | _::_,[],_,_,_,_,h,_=>by simp at h
 | p::P,w::vs,0,m,nd,h1,h2,hk=>by
   simp at h1 h2;subst h1;subst h2
   show bindC kindOf ((p,w)::P.zip vs) m p=_
   unfold bindC
   rw[zVc fun v hv=>(Yp.mp nd).1 (Oo hv).1,Wh hk]
   simp
 | p::P,w::vs,i+1,m,nd,h1,h2,hk=>by
   show bindC kindOf ((p,w)::P.zip vs) m x=_
   unfold bindC
   exact zUU (i:=i) (Yp.mp nd).2 (by simpa using h1) (by simpa using h2) hk
def nQ (N:List Str)(vs:List V):St:=vs.map some++List.replicate (N.length - vs.length) none
def zXn (CX:CXT)(P:Program)(w:World)(K:jg)(mg:Str->Option Value)(base:Heap)(N:List Str)(qual:Str)(scope:Scope)(f:Addr)(cd:Value)(A:Around)(outer:List Env)(s:Shared)(H:Hp)(E:XK):Cx where
 prog:=P
 w:=w
 K:=K
 mg:=mg
 base:=base
 A:=A.deeper (envOfC qual scope s.heap.objs.size f cd)
 N:=N
 s₀:=s
 H₀:=H
 env:=envOfC qual scope s.heap.objs.size f cd
 outer:=outer
 stack:=envOfC qual scope s.heap.objs.size f cd::outer
 ex:=[]
 calm:=true
 fn:=fun _=>true
 pn:=[]
 xe:=fun e s'=>wpAny (model P w) (A.deeper (envOfC qual scope s.heap.objs.size f cd)) (leaving (envOfC qual scope s.heap.objs.size f cd) e) (fun _ s''=>CX outer H s E e s'') (fun e' s''=>CX outer H s E e' s'') s'
def zRA {sc:Scope}{n:Nat}{x:Str}(h:sc.names.lookup x=some .cell):∃c,(cellsFrom n sc.names []).lookup x=some c:=by
 have q:=PySem.W.cellsFrom_some sc.names n [] (.inl h)
 exact Eb.mp q
def zNM {CX:CXT}{P:Program}{w:World}{K:jg}{mg:Str->Option Value}{base:Heap}{N ps:List Str}{qual:Str}{scope:Scope}{f:Addr}{cd:Value}{A:Around}{outer:List Env}{s s1:Shared}{H:Hp}{E:XK}{us:jj}{vs:List V}
   (S:FnScope N ps scope) (hd:A.handled=none) (e0:Env0 P w K mg base A outer s H) (hl:vs.length=ps.length) (r:Vals vs us)
   (x:InCallC s s.heap.objs.size (bindL (envOfC qual scope s.heap.objs.size f cd).kindOf (ps.zip us) fun _=>none) (cellsFrom (s.heap.objs.size+1) scope.names []) (bindC (envOfC qual scope s.heap.objs.size f cd).kindOf (ps.zip us) fun _=>none) s1) :
   Inv (zXn CX P w K mg base N qual scope f cd A outer s H E) [] (nQ N vs) H s1:=by
 have hpl:ps.length<=N.length:=by have:=Eo List.length S.pre;rw[Yt] at this;omega
 obtain⟨h1,tk,rfl,hk⟩:=x.done
 have noA:∀b:Addr,b∉(zXn CX P w K mg base N qual scope f cd A outer s H E).ex:=fun b z=>absurd (show b∈([]:List Addr) from z) jd
 refine⟨⟨e0.mod,S.kind,rfl,rfl,Ql _,fun y z c h1 h2=>?_,fun y hy=>?_,fun y c _ h=>?_,fun _=>hd,Around.frames_deeper e0.frames,.inr ⟨rfl,rfl⟩,fun b z=>absurd z (noA b),e0.bs,e0.bsz,fun b _ _=>noA b,fun b z=>absurd z (noA b),e0.funs,e0.frf⟩,
   rfl,e0.bare,Un.kept hk,⟨_,x.toInCall.ns,fun i y v h1 h2 h3=>?_⟩,fun y c h=>⟨_,x.cell y c h⟩,e0.hok.fresh (Ql _),fun y c h=>?_,fun p hp=>absurd (show p∈([]:ji) from hp) jd,e0.hok.kept hk,?_⟩
 · exact name_of_addr x.apart (Rr h1) (Rr h2)
 · have hy:scope.names.lookup y=some .cell∨scope.names.lookup y=some .free:=hy
   rcases hy with hy | hy
   · exact zRA hy
   · exact absurd rfl (S.nofree _ (Rr hy))
 · exact Et (x.above y c (Rr h))
 · have hi:i < vs.length:=by
     unfold nQ at h2
     by_cases hi:i < vs.length
     · exact hi
     · rw[Ew (by simpa using hi)] at h2
       rw[Ro] at h2
       split at h2<;>cases h2
   have ha:vs[i]?=some v:=by
     unfold nQ at h2
     rw[Es (by simpa using hi),Wa] at h2
     cases e:vs[i]? with
     | none=>rw[e] at h2;cases h2
     | some a=>rw[e] at h2;cases h2;rfl
   obtain⟨u,hu,rv⟩:=r.get ha
   have hp:ps[i]?=some y:=by
     rw[←S.pre,List.getElem?_take_of_lt jc];exact h1
   have ndP:ps.Nodup:=by rw[←S.pre];exact S.nd.sublist (List.take_sublist _ _)
   refine⟨u,rv,?_⟩
   rcases S.par y (Ta hp) with k | k
   · exact .inl ⟨k,zVi ndP hp hu k⟩
   · obtain⟨c,e⟩:=zRA (n:=s.heap.objs.size+1) k
     refine .inr ⟨.inl k,c,e,?_⟩
     have q:=x.cell y c e
     rw[zUU ndP hp hu (by show scope.names.lookup y≠_;rw[k];decide)] at q
     exact q
 · exact e0.hok.fresh (Et (x.above y c (Rr h)))
 · unfold nQ
   show _=N.length
   rw[Qk,Qt,En]
   omega
def zIT {CX:CXT}{P:Program}{w:World}{K:jg}{mg:Str->Option Value}{base:Heap}{k:Nat}{f:Addr}{name qual:Str}{params:Arguments}{body:List Stmt}{scope:Scope}{dV kV doc pm j9 ct oc:Value}{an od:Option Addr}
   {osl:Array (Option Value)} {N ps:List Str} {sp:Sp} (lk:K.lookup f=some ⟨oc,od,.func (PySem.W.fnOf name qual params body scope dV kV doc pm an j9 ct),osl⟩) (hcd:PySem.W.codeIn K j9 qual=true) (S:FnScope N ps scope)
   (len:∀vs H Q E,sp vs H Q E->vs.length=ps.length)
   (hbody:∀(A:Around) (outer:List Env) (s:Shared) (H:Hp) (vs:List V) (Q:VK) (E:XK),Room k (A.deeper (envOfC qual scope s.heap.objs.size f j9))->sp vs H Q E ->
     ∃t,PSs (zXn CX P w K mg base N qual scope f j9 A outer s H E) body t/\t { nx:=fun _ H'=>Q .non H',rt:=Q } (nQ N vs) H) :
   FnOk P w K mg base CX (k+1) f (PySem.W.fnOf name qual params body scope dV kV doc pm an j9 ct) ps sp:=by
 refine⟨len,fun A outer s H args us vs Q E hr e0 hb r hsp=>?_⟩
 have hl:=len _ _ _ _ hsp
 have KX:K.In s.heap:=e0.mod.kin.keeps fun b o e=>(e0.bs b o e).1
 have lim:s.heap.NoLimit:=e0.mod.nolimit.keeps fun b o e=>(e0.bs b o e).1
 have hkind:∀y∈ps.zip us,scope.names.lookup y.1=some .local∨(scope.names.lookup y.1=some .cell/\((cellsFrom (s.heap.objs.size+1) scope.names []).lookup y.1).isSome=true):=fun⟨n,v⟩ hy=>by
   rcases S.par n (Oo hy).1 with q | q
   · exact .inl q
   · exact .inr ⟨q,PySem.W.cellsFrom_some _ _ _ (.inl q)⟩
 refine codeAny_call_function hr.depth (KX _ _ lk) rfl S.co S.gen rfl (PySem.W.codeRec_of KX hcd) (hb _ _ _ _ ?_)
 refine wpAny_newFunctionEnv_cells S.kind hkind fun env he s1 x=>?_
 subst he
 refine⟨lim.keeps x.toInCall.keep,codeAny_func ?_⟩
 obtain⟨t,ht,hq⟩:=hbody A outer s H vs Q E (hr.deeper _) hsp
 have I:Inv (zXn CX P w K mg base N qual scope f j9 A outer s H E) [] (nQ N vs) H s1:=zNM S hr.hd e0 hl r x
 refine Ia (ht [] s1 (nQ N vs) H _ I hq) (fun fl s' hs=>?_) fun e s' hs=>hs
 have fin:∀ {σ':St} {H':Hp} {v:V} {u:Value},Inv (zXn CX P w K mg base N qual scope f j9 A outer s H E) [] σ' H' s'->RelV v u->Q v H'->CE outer P w H s Q u s' :=
   fun {σ' H' v u} J rv q=>⟨v,H',J.os,J.bare,J.base,J.hok,rv,q⟩
 cases fl with
 | ret u =>
   obtain⟨v,σ',H',J,rv,q⟩:=hs
   exact fin J rv q
 | next =>
   obtain⟨σ',H',J,q⟩:=hs
   exact fin (v:=V.non) (u:=Value.none) J rfl q
 | brk =>
   obtain⟨_,_,_,q⟩:=hs
   exact False.elim q
 | cont =>
   obtain⟨_,_,_,q⟩:=hs
   exact False.elim q
section
variable {X:Cx} {x:Str} {p pos:Pos} {e:Expr} {es:List Expr} {t:TA} {id T:String} {r:List V->Hp->VK->Prop}
def tCB (r:List V->Hp->VK->Prop)(t:TA):TE:=fun σ H Q=>t σ H fun vs H1=>r vs H1 Q
def pP (hc:CallR X (.builtin id) r)(hg:Gl X x)(hm:X.mg x=none)(hv:bootBuiltins x=some (.builtin id))(ha:PA X (e::es) t)(hn:x≠"__name__":=by decide)(hdb:(x==("__debug__":Str))=false:=by decide)
   (he:starEach (e::es) X.env=(false,eval e X.env)::starEach es X.env:=by rfl) (hpl:(backTo pos (starEach es X.env)).any (·.1)=false:=by rfl):PE X (.Call (.Name x p) (e::es) [] pos) (tCB r t):=by
 intro Z s σ H Q I h
 refine Tj (oA I hg hm hv ?_ hn hdb)
 exact PyProof.Rows.callWith_builtin1 (thn (ha pos Z s σ H _ I h) fun us s1 ⟨vs,H1,I1,r1,q1⟩=>hc Z s1 σ H1 vs us Q I1 r1 q1) he hpl
def pF (hc:CallR X (.type T) r)(hg:Gl X x)(hm:X.mg x=none)(hv:bootBuiltins x=some (.type T))(ha:PA X (e::es) t)(hn:x≠"__name__":=by decide)(hdb:(x==("__debug__":Str))=false:=by decide)
   (he:starEach (e::es) X.env=(false,eval e X.env)::starEach es X.env:=by rfl) (hpl:(backTo pos (starEach es X.env)).any (·.1)=false:=by rfl):PE X (.Call (.Name x p) (e::es) [] pos) (tCB r t):=by
 intro Z s σ H Q I h
 refine Tj (oA I hg hm hv ?_ hn hdb)
 exact Ei (thn (ha pos Z s σ H _ I h) fun us s1 ⟨vs,H1,I1,r1,q1⟩=>hc Z s1 σ H1 vs us Q I1 r1 q1) he hpl
end
end L2
namespace HT
open PySem PyProof.Rows
section
variable {prog:Program} {w:World} {A:Around} {E:jh} {s:Shared}
def cat_tup {t b:Addr}{vs ws:jj}{Q:jh}(ht:IsTup s.heap t vs.toArray)(hb:IsTup s.heap b ws.toArray)(hv:vs≠[])
   (h1:ws=[]->Q (.ref t) s) (h2:ws≠[]->Q (.ref s.heap.objs.size) { s with heap:=s.heap.push { cls:=.type "tuple",data:=.seq (vs++ws).toArray } })
   (hsz:vs.length+ws.length<=sizeLine):wpAny (model prog w) A (binaryOp .Add (.ref t) (.ref b)) Q E s:=by
 obtain⟨⟨cls,dd,data,sl⟩,ho,hc,n,hd⟩:=id ht
 obtain⟨⟨cls2,dd2,data2,sl2⟩,ho2,hc2,n2,hd2⟩:=id hb
 simp only at hc hd hc2 hd2
 subst hc hd hc2 hd2
 have e:vs.toArray++ws.toArray=(vs++ws).toArray:=jd
 by_cases hw:ws=[]
 · exact Ix ⟨_,ho,rfl⟩ ⟨_,ho2,rfl⟩ Im seq_tuple_add Ut Yn (Yx _ _)
     (tuple_addW1 t b vs.toArray ws.toArray n n2 dd dd2 sl sl2 (by simpa using hv) (by simp[hw])) ⟨ho,ho2,h1 hw⟩
 · refine Ix ⟨_,ho,rfl⟩ ⟨_,ho2,rfl⟩ Im seq_tuple_add Ut Yn (Yx _ _)
     (tuple_addW2 t b vs.toArray ws.toArray n n2 dd dd2 sl sl2 (by simpa using hv) (by simpa using hw) (by rw[Qg,Qg];exact hsz)) ⟨ho,ho2,?_⟩
   rw[e]
   exact h2 hw
def sIx (n d:Nat):Option Int->Nat
 | none=>d
 | some v=>if v < 0 then(v+(n:Int)).toNat else min v.toNat n
def sIx_nat (n d k:Nat):sIx n d (some (k:Int))=min k n:=by
 show(if (k:Int) < 0 then((k:Int)+(n:Int)).toNat else min (k:Int).toNat n)=min k n
 rw[Wh jc,Rs]
def zHZ (n d:Nat)(hd:d<=n)(o:Option Int):sIx n d o<=n:=by
 cases o with
 | none=>exact hd
 | some v =>
   show(if v < 0 then(v+(n:Int)).toNat else min v.toNat n)<=n
   by_cases hv:v < 0
   · rw[Qv hv];omega
   · rw[Wh hv];exact Nat.min_le_right _ _
def zPt (v:Int)(n d:Nat):(if v < 0 then max (v+(n:Int)) 0 else min v (n:Int))=((sIx n d (some v):Nat):Int):=by
 show(if v < 0 then max (v+(n:Int)) 0 else min v (n:Int))=(((if v < 0 then(v+(n:Int)).toNat else min v.toNat n):Nat):Int)
 by_cases hv:v < 0
 · simp only[Qv hv];omega
 · simp only[Wh hv];omega
def zQa (lo hi:Option Int)(n:Nat):Builtin.Slice.sliceAdjust lo hi 1 (n:Int)=(((sIx n 0 lo:Nat):Int),((sIx n n hi:Nat):Int)):=by
 have h1:¬((1:Int) < 0):=jc
 unfold Builtin.Slice.sliceAdjust
 simp only[h1,Rp]
 refine Prod.ext ?_ ?_
 · cases lo with
   | none=>rfl
   | some v=>exact zPt v n 0
 · cases hi with
   | none=>rfl
   | some v=>exact zPt v n n
def zQf (i j:Nat):Builtin.Slice.slicePlaces (i:Int) (j:Int) 1=j - i:=by
 unfold Builtin.Slice.slicePlaces
 have h1:(1:Int) > 0:=jc
 simp only[h1,Rt,Int.ediv_one]
 split<;>omega
def zWl {v:Value}{o:Option Int}{Q:Option Int->Shared->Prop}(p:IsPart v o)(h:Q o s):wpAny (model prog w) A (Builtin.Slice.slicePartIndex v) Q E s:=by
 cases p with
 | none=>exact slicePart_none h
 | int i t=>exact slicePart_int h
def jF {sl:Addr}{vl vu:Value}{lo hi:Option Int}{n:Nat}{Q:Int×Int×Nat->Shared->Prop}(hs:s.heap.IsSliceOf sl vl vu .none)(pl:IsPart vl lo)(pu:IsPart vu hi)
   (h:Q (((sIx n 0 lo:Nat):Int),1,sIx n n hi - sIx n 0 lo) s):wpAny (model prog w) A (Builtin.Slice.sliceApplied (.ref sl) (pure (n:Int))) Q E s:=by
 obtain⟨os,hos,hcs,hds⟩:=id hs
 unfold Builtin.Slice.sliceApplied Builtin.Slice.sliceFields
 refine Qe (Qe (Ek hos hds (x:=vl) rfl (Qe (Ek hos hds (x:=vu) rfl (Qe (Ek hos hds (x:=.none) rfl (Qd ?_)))))))
 refine Qe (slicePart_none ?_)
 show wpAny _ _ (if ((1:Int)==0)=true then _ else _) _ _ s
 rw[Wh jb]
 refine Qe (zWl pl (Qe (zWl pu (Qe (Qd ?_)))))
 show wpAny _ _ (match Builtin.Slice.sliceAdjust lo hi 1 (n:Int) with | (lo,hi)=>pure (lo,(1:Int),Builtin.Slice.slicePlaces lo hi 1)) _ _ s
 rw[zQa lo hi n]
 show wpAny _ _ (pure (((sIx n 0 lo:Nat):Int),(1:Int),Builtin.Slice.slicePlaces ((sIx n 0 lo:Nat):Int) ((sIx n n hi:Nat):Int) 1)) _ _ s
 rw[zQf]
 exact Qd h
def zKY (xs:jk)(i k:Nat):((List.range k).filterMap fun(m:Nat)=>xs[((i:Int)+(m:Int)*1).toNat]?).toArray=((xs.toList.drop i).take k).toArray:=by
 have e:(fun(m:Nat)=>xs[((i:Int)+(m:Int)*1).toNat]?)=fun m=>xs[i+m]?:=by
   funext m
   have:((i:Int)+(m:Int)*1).toNat=i+m:=jc
   rw[this]
 rw[e]
 have:=pick_run xs i k
 rw[List.filterMap_map] at this
 have e2:((fun x=>xs[x]?) ∘ fun x=>i+x)=fun m=>xs[i+m]?:=rfl
 rw[e2] at this
 rw[this]
def getItem_tuple_cut {t sl:Addr}{j3:jk}{vl vu:Value}{lo hi:Option Int}{Q:jh}(ht:IsTup s.heap t j3)(hs:s.heap.IsSliceOf sl vl vu .none)(pl:IsPart vl lo)(pu:IsPart vu hi)
   (hw:¬(sIx j3.size 0 lo=0/\sIx j3.size j3.size hi=j3.size))
   (h:Q (.ref s.heap.objs.size) { s with heap:=s.heap.push { cls:=.type "tuple",data:=.seq ((j3.toList.drop (sIx j3.size 0 lo)).take (sIx j3.size j3.size hi - sIx j3.size 0 lo)).toArray } })
   (hsz:j3.size<=sizeLine):wpAny (model prog w) A (getItem (.ref t) (.ref sl)) Q E s:=by
 have htake:sizeOk (.seq ((j3.toList.drop (sIx j3.size 0 lo)).take (sIx j3.size j3.size hi - sIx j3.size 0 lo)).toArray):=by
   show((j3.toList.drop (sIx j3.size 0 lo)).take (sIx j3.size j3.size hi - sIx j3.size 0 lo)).toArray.size<=sizeLine
   rw[Qg,Yt,Oq,Ev]
   omega
 have hj:sIx j3.size j3.size hi<=j3.size:=zHZ _ _ (Ql _) hi
 obtain⟨os,hos,hcs,hds⟩:=id hs
 have hTs:s.TypeIs (.ref sl) "slice":=⟨os,hos,hcs⟩
 unfold getItem
 try with_reducible refine Ri ?_
 first | refine Qe (Qd ?_) | skip
 refine Qe (wpAny_sequenceKey ht.typeIs jb ?_)
 refine Qe (Ez (name:=Str.ofString "__getitem__") ht.typeIs Rv
   (Rg Rv ht.typeIs entry_tuple_getitem ?_ (args_tuple_getitem _ _)))
 show wpAny _ _ (Builtin.Tuple.tupleItemsOf (.ref t) >>= _) _ _ s
 refine Qe (tupleItemsOf_ ht ?_)
 refine Qe (Yh hTs ?_)
 rw[Qv jb]
 refine Qe (jF hs pl pu ?_)
 have hno:¬((((sIx j3.size 0 lo:Nat):Int)==0&&(1:Int)==1&&(sIx j3.size j3.size hi - sIx j3.size 0 lo)==j3.size)=true):=by
   intro q
   rw[Qc,Qc] at q
   have q1:((sIx j3.size 0 lo:Nat):Int)=0:=eq_of_beq q.1.1
   have q2:sIx j3.size j3.size hi - sIx j3.size 0 lo=j3.size:=eq_of_beq q.2
   exact hw ⟨jc,jc⟩
 show wpAny _ _ (if (((sIx j3.size 0 lo:Nat):Int)==0&&(1:Int)==1&&(sIx j3.size j3.size hi - sIx j3.size 0 lo)==j3.size)=true then _ else _) _ _ s
 rw[Wh hno,zKY]
 first
   | exact Qe (m:=Builtin.Tuple.tupleExact _) (Em (Qd ⟨_,rfl,Qd h⟩) htake)
   | exact Qe (m:=Builtin.Tuple.tupleExact _) (Em (Qe (Qd (Qd ⟨_,rfl,Qd h⟩))) htake)
   | exact Qe (Qe (m:=Builtin.Tuple.tupleExact _) (Em (Qd (Qd ⟨_,rfl,Qd h⟩)) htake))
   | exact Qe (Qe (m:=Builtin.Tuple.tupleExact _) (Em (Qd ⟨_,rfl,Qd h⟩) htake))
end
end HT
namespace L2
open PySem PySem.Spec PyProof.Rows
abbrev TO:=St->Hp->(Option Int->Hp->Prop)->Prop
def PO (X:Cx)(e:Option Expr)(t:TO):Prop :=
 ∀(Z:ji) (s:Shared) (σ:St) (H:Hp) (Q:Option Int->Hp->Prop),Inv X Z σ H s->t σ H Q ->
   wpAny (model X.prog X.w) X.A (evalPart e X.env) (fun u s'=>∃o H',Inv X Z σ H' s'/\IsPart u o/\Q o H') X.xe s
def zJ3:TO:=fun _ H Q=>Q none H
def zGt (t:TE):TO:=fun σ H Q=>t σ H fun x H1=>∃i,x = .int i/\Q (some i) H1
def zQo {ns:List Int}:∀ {us:jj},Vals (ns.map V.int) us->IntsAre us ns:=by
 induction ns with
 | nil=>intro us r;rw[Wz] at r;cases r;exact .nil
 | cons n ns ih =>
   intro us r
   rw[Qu] at r
   cases r with
   | cons r1 r2 =>
     obtain⟨t,e⟩:=r1
     subst e
     exact .cons n t (ih r2)
section
variable {X:Cx} {e:Expr} {te:TE} {lo hi:Option Expr} {tl th:TO} {pos p2:Pos}
def zKb:PO X none zJ3:=by
 intro Z s σ H Q I h
 rw[evalPart_none]
 exact Qd ⟨none,H,I,.none,h⟩
def zJG (h:PE X e te):PO X (some e) (zGt te):=by
 intro Z s σ H Q I hw
 rw[evalPart_some]
 refine thn (h Z s σ H _ I hw) fun u s1 ⟨x,H1,I1,r1,q1⟩=>?_
 obtain⟨i,rfl,q⟩:=q1
 obtain⟨t,rfl⟩:=r1
 exact⟨some i,H1,I1,.int i t,q⟩
def SlR (X:Cx)(r:V->Option Int->Option Int->Hp->VK->Prop):Prop :=
 ∀(Z:ji) (s:Shared) (σ:St) (H:Hp) (x:V) (v vl vu:Value) (lo hi:Option Int) (sl:Addr) (Q:VK),Inv X Z σ H s->RelV x v->s.heap.IsSliceOf sl vl vu .none->IsPart vl lo->IsPart vu hi->r x lo hi H Q ->
   ∃T id,typeLookup (.type T) "__getitem__"=pure (some (.builtin id))/\s.TypeIs v T/\wpAny (model X.prog X.w) X.A (getItem v (.ref sl)) (EP X Z σ Q) X.xe s
def SlR.or {r r':V->Option Int->Option Int->Hp->VK->Prop}(h:SlR X r)(h':SlR X r'):SlR X (fun x lo hi H Q=>r x lo hi H Q∨r' x lo hi H Q):=by
 intro Z s σ H x v vl vu lo hi sl Q I rx hs pl pu q
 rcases q with q | q
 · exact h Z s σ H x v vl vu lo hi sl Q I rx hs pl pu q
 · exact h' Z s σ H x v vl vu lo hi sl Q I rx hs pl pu q
def tSl (r:V->Option Int->Option Int->Hp->VK->Prop)(te:TE)(tl th:TO):TE:=fun σ H Q=>te σ H fun x H1=>tl σ H1 fun l H2=>th σ H2 fun u H3=>r x l u H3 Q
def zRE {r:V->Option Int->Option Int->Hp->VK->Prop}(hr:SlR X r)(he:PE X e te)(hl:PO X lo tl)(hu:PO X hi th):PE X (.Subscript e (.Slice lo hi none p2) pos) (tSl r te tl th):=by
 intro Z s σ H Q I h
 refine Subscript_ (thn (he Z s σ H _ I h) fun v s1 ⟨x,H1,I1,r1,q1⟩=>?_)
 refine wpAny_Slice (thn (hl Z s1 σ H1 _ I1 q1) fun vl s2 ⟨l,H2,I2,pl,q2⟩=>thn (hu Z s2 σ H2 _ I2 q2) fun vu s3 ⟨u,H3,I3,pu,q3⟩=>?_)
 rw[evalPart_none]
 refine Qd ?_
 have I4:Inv X Z σ H3 { s3 with heap:=s3.heap.push { cls:=.type "slice",data:=.fields #[vl,vu,.none] } }:=I3.kept (t':=s3.toks) fun b ob q=>Qr _ q
 obtain⟨T,id,hT,ht,hg⟩:=hr Z { s3 with heap:=s3.heap.push { cls:=.type "slice",data:=.fields #[vl,vu,.none] } } σ H3 x v vl vu l u s3.heap.objs.size Q I4 r1 (Heap.IsSliceOf.new ..) pl pu q3
 show wpAny (model X.prog X.w) X.A (subscriptTail e (.Slice lo hi none p2) v (.ref s3.heap.objs.size)) (EP X Z σ Q) X.xe { s3 with heap:=s3.heap.push { cls:=.type "slice",data:=.fields #[vl,vu,.none] } }
 exact Oi (ops:=[.ref s3.heap.objs.size,v]) ht hT hg (by with_unfolding_all rfl)
def zXx (xs:List V)(lo hi:Option Int):List V:=(xs.drop (HT.sIx xs.length 0 lo)).take (HT.sIx xs.length xs.length hi - HT.sIx xs.length 0 lo)
def zYb (xs:List V)(lo hi:Option Int):(zXx xs lo hi).length<=xs.length:=by
 unfold zXx
 rw[Yt,Oq]
 omega
def zF1 (K:jg):V->Option Int->Option Int->Hp->VK->Prop:=fun x lo hi H Q=>∃a xs,x = .ref a/\SqT K H a xs /\
 ¬(HT.sIx xs.length 0 lo=0/\HT.sIx xs.length xs.length hi=xs.length)/\∀p,H p=none->Q (.ref p) (upd H p (.tup (zXx xs lo hi)))
def zHi:SlR X (zF1 X.K):=by
 intro Z s σ H x v vl vu lo hi sl Q I rx hs pl pu h
 obtain⟨a,xs,rfl,hx,hw,q⟩:=h
 cases rx
 obtain⟨j6,r,ht,hz⟩:=I.tuple hx
 have j5:j6.toArray.size=xs.length:=by rw[Qg];exact r.length.symm
 refine⟨"tuple",_,Rv.lookup,ht.typeIs,?_⟩
 refine HT.getItem_tuple_cut ht hs pl pu (by rw[j5];exact hw) ?_ (by rw[j5];exact hz)
 rw[j5]
 refine⟨.ref s.heap.objs.size,_,I.laid (t':=s.toks) (o:=.tup (zXx xs lo hi)) (fun b ob q=>Qr _ q) (Ql _) ?_,rfl,q _ (I.hok.fresh (Ql _))⟩
 exact⟨Ep (zYb xs lo hi) hz,_,(r.drop (HT.sIx xs.length 0 lo)).take (HT.sIx xs.length xs.length hi - HT.sIx xs.length 0 lo),IsTup.new _ _⟩
def zG7 (K:jg):R2:=fun x y H Q=>∃a b xs ys,x = .ref a/\y = .ref b/\SqT K H a xs/\SqT K H b ys/\xs≠[]/\xs.length+ys.length<=sizeLine /\
 (ys=[]->Q (.ref a) H)/\(ys≠[]->∀p,H p=none->Q (.ref p) (upd H p (.tup (xs++ys))))
def Vals.nil_iff {xs:List V}{us:jj}(r:Vals xs us):us=[]↔xs=[]:=by
 cases r with
 | nil=>simp
 | cons _ _=>simp
def zJp:OpR X (binaryOp .Add) (zG7 X.K):=by
 intro Z s σ H x y v u Q I rx ry h
 obtain⟨a,b,xs,ys,rfl,rfl,ha,hb,hx,hz,q1,q2⟩:=h
 cases rx
 cases ry
 obtain⟨j6,r1,p1,_⟩:=I.tuple ha
 obtain⟨its2,r2,p2,_⟩:=I.tuple hb
 refine HT.cat_tup p1 p2 (fun z=>hx (r1.nil_iff.mp z)) (fun z=>⟨.ref a,H,I,rfl,q1 (r2.nil_iff.mp z)⟩) (fun z=>?_) (by rw[←r1.length,←r2.length];exact hz)
 refine⟨.ref s.heap.objs.size,_,I.laid (t':=s.toks) (o:=.tup (xs++ys)) (fun b ob q=>Qr _ q) (Ql _) ?_,rfl,q2 (fun w=>z (r2.nil_iff.mpr w)) _ (I.hok.fresh (Ql _))⟩
 exact⟨by rw[Qk];exact hz,_,r1.append r2,IsTup.new _ _⟩
end
def ixN (n:Nat)(i:Int):Option Nat:=if 0<=i then(if i < n then some i.toNat else none) else if -(n:Int)<=i then some (i+n).toNat else none
def atI {α:Type}(xs:List α)(i:Int):Option α:=(ixN xs.length i).bind fun j=>xs[j]?
def zT0 {n:Nat}{i:Int}{j:Nat}(h:ixN n i=some j):seqIndex? i n=some j/\j < n /\ -(n:Int)<=i/\i < n:=by
 unfold ixN at h
 by_cases h0:0<=i
 · rw[Qv h0] at h
   by_cases h1:i < n
   · rw[Qv h1] at h
     have e:i.toNat=j:=Eg h
     exact⟨by rw[seqIndex_of h0 h1,e],jc,jc,h1⟩
   · rw[Wh h1] at h;cases h
 · rw[Wh h0] at h
   by_cases h1 : -(n:Int)<=i
   · rw[Qv h1] at h
     have e:(i+n).toNat=j:=Eg h
     exact⟨by rw[seqIndex_neg jc h1,e],jc,h1,jc⟩
   · rw[Wh h1] at h;cases h
def zTx {α:Type}{xs:List α}{i:Int}{v:α}(h:atI xs i=some v):∃j,seqIndex? i xs.length=some j/\xs[j]?=some v/\j < xs.length /\ -(xs.length:Int)<=i/\i < xs.length:=by
 unfold atI at h
 cases e:ixN xs.length i with
 | none=>rw[e] at h;cases h
 | some j =>
   rw[e] at h
   obtain⟨h1,h2,h3,h4⟩:=zT0 e
   exact⟨j,h1,h,h2,h3,h4⟩
def zZm {α:Type}{xs:List α}{j:Nat}{v:α}(h:xs[j]?=some v):atI xs (j:Int)=some v:=by
 have hj:j < xs.length:=(Ww.mp h).1
 have e:ixN xs.length (j:Int)=some j:=by
   unfold ixN
   rw[Qv jc,Qv jc];simp
 unfold atI;rw[e];exact h
def cH (b:Expr):Prop:=∀o i,subscripted b false o i=operate [o,i] (getItem o i)
def IxR (X:Cx)(r:R2):Prop :=
 ∀(value slice:Expr) (Z:ji) (s:Shared) (σ:St) (H:Hp) (x y:V) (v u:Value) (Q:VK),Inv X Z σ H s->RelV x v->RelV y u->r x y H Q ->
   subscripted slice false v u=operate [v,u] (getItem v u)->wpAny (model X.prog X.w) X.A (subscriptTail value slice v u) (EP X Z σ Q) X.xe s
def MtR (X:Cx)(id:String)(r:V->List V->Hp->VK->Prop):Prop :=
 ∀(Z:ji) (s:Shared) (σ:St) (H:Hp) (x:V) (xs:List V) (v:Value) (us:jj) (Q:VK),Inv X Z σ H s->RelV x v->Vals xs us->r x xs H Q ->
   wpAny (model X.prog X.w) X.A (call (.builtin id) (v::us)) (EP X Z σ Q) X.xe s
section
variable {X:Cx} {a b:Expr} {ta tb:TE} {pos:Pos}
def IxR.or {r r':R2}(h:IxR X r)(h':IxR X r'):IxR X (fun x y H Q=>r x y H Q∨r' x y H Q):=by
 intro value slice Z s σ H x y v u Q I rx ry q hs
 rcases q with q | q
 · exact h value slice Z s σ H x y v u Q I rx ry q hs
 · exact h' value slice Z s σ H x y v u Q I rx ry q hs
def zRv {r:R2}(hr:IxR X r)(ha:PE X a ta)(hb:PE X b tb)(hs:cH b):PE X (.Subscript a b pos) (tOp r ta tb):=by
 intro Z s σ H Q I h
 exact Subscript_ (zH1 ha hb I h fun v u s2 x y H2 I2 rx ry q=>hr a b Z s2 σ H2 x y v u Q I2 rx ry q (hs _ _))
def zFX (K:jg):R2:=fun x y H Q=>∃p xs i v,x = .ref p/\y = .int i/\SqL K H p xs/\atI xs i=some v/\Q v H
def zHb (K:jg):R2:=fun x y H Q=>∃p xs i v,x = .ref p/\y = .int i/\SqT K H p xs/\atI xs i=some v/\Q v H
def zGL:R2:=fun x y H Q=>∃z i c,x = .str z/\y = .int i/\z.length<=sizeLine/\atI z.cps.toList i=some c/\Q (.str ⟨#[c]⟩) H
def zP4:IxR X (zFX X.K):=by
 intro value slice Z s σ H x y v u Q I rx ry h hs
 obtain⟨p,xs,i,z,rfl,rfl,hq,he,q⟩:=h
 cases rx
 obtain⟨t,rfl⟩:=ry
 obtain⟨j6,r,pl,hz⟩:=I.list hq
 obtain⟨j,h1,h2,h3,h4,h5⟩:=zTx he
 obtain⟨w,ew,rw'⟩:=r.get h2
 have hl:=r.length
 have hn:=zYI
 have fin:EP X Z σ Q w s:=⟨z,H,I,rw',q⟩
 by_cases h0:0<=i
 · have hj:i.toNat=j:=by
     rw[seqIndex_of h0 h5] at h1
     exact Eg h1
   exact item_listR pl.isList h0 jc (by rw[hj];simpa using ew) fin hs
 · have hj:(i+(j6.toArray.size:Int)).toNat=j:=by
     rw[seqIndex_neg jc h4] at h1
     rw[Qg,←hl]
     exact Eg h1
   exact subscriptTail_builtinR (x:=w) pl.isList.typeIs slot_list_getitem.lookup
     (wpAny_getItem_list_neg (Q:=fun r s'=>r=w/\EP X Z σ Q r s') pl.isList jc (by rw[Qg]<;>omega) jc (by rw[hj];simpa using ew) ⟨rfl,fin⟩) hs
def zIr:IxR X (zHb X.K):=by
 intro value slice Z s σ H x y v u Q I rx ry h hs
 obtain⟨p,xs,i,z,rfl,rfl,hq,he,q⟩:=h
 cases rx
 obtain⟨t,rfl⟩:=ry
 obtain⟨j6,r,pl,hz⟩:=I.tuple hq
 obtain⟨j,h1,h2,h3,h4,h5⟩:=zTx he
 obtain⟨w,ew,rw'⟩:=r.get h2
 have hl:=r.length
 have hn:=zYI
 have fin:EP X Z σ Q w s:=⟨z,H,I,rw',q⟩
 exact subscriptTail_builtinR (x:=w) pl.typeIs slot_tuple_getitem.lookup
   (getItem_tuple (j:=j) (Q:=fun r s'=>r=w/\EP X Z σ Q r s') pl jc jc (by rw[Qg,←hl];exact h1) (by simpa using ew) ⟨rfl,fin⟩) hs
def zH9:IxR X zGL:=by
 intro value slice Z s σ H x y v u Q I rx ry h hs
 obtain⟨z,i,c,rfl,rfl,hz,he,q⟩:=h
 obtain⟨t,rfl⟩:=rx
 obtain⟨t',rfl⟩:=ry
 obtain⟨j,h1,h2,h3,h4,h5⟩:=zTx he
 have hl:z.cps.toList.length=z.length:=by simp[Str.length]
 rw[hl] at h1 h4 h5
 have hn:=zYI
 exact Oi (Ul s z t) slot_str_getitem.lookup (getItem_str (c:=c) (by
   have e1:decide (i < -(2^63:Int))=false:=Qb jc
   have e2:decide (i≥2^63)=false:=Qb jc
   rw[e1,e2,Bool.or_false]) (by rw[h1];simpa using h2) ⟨.str ⟨#[c]⟩,H,I.tok _,⟨_,rfl⟩,q⟩) hs
def rIx (K:jg):R2:=fun x y H Q=>zFX K x y H Q∨zHb K x y H Q∨zGL x y H Q
def zI6:IxR X (rIx X.K):=zP4.or (zIr.or zH9)
def zPE (j6:jj)(n j:Nat)(u:Value):Obj.mapSeq (·.setIfInBounds j u) { cls:=.type "list",data:=.seq j6.toArray n }={ cls:=.type "list",data:=.seq (j6.set j u).toArray n }:=by
 simp[Obj.mapSeq]
def Inv.lst {Z:ji}{σ:St}{H:Hp}{s:Shared}{p:Addr}{xs:List V}(I:Inv X Z σ H s)(h:H p=some (.lst xs)) :
   ∃(j6:jj) (n:Nat),Vals xs j6/\s.heap.get? p=some { cls:=.type "list",data:=.seq j6.toArray n }/\xs.length<=sizeLine:=by
 obtain⟨z,j6,n,r,e⟩:=I.hok p _ h
 exact⟨j6,n,r,e,z⟩
def Inv.lstUpd {Z:ji}{σ:St}{H:Hp}{s:Shared}{p:Addr}{xs ys:List V}{j6 its':jj}{n n':Nat}{f:Obj->Obj}(I:Inv X Z σ H s)(h:H p=some (.lst xs))
   (ho:s.heap.get? p=some { cls:=.type "list",data:=.seq j6.toArray n }) (hf:f { cls:=.type "list",data:=.seq j6.toArray n }={ cls:=.type "list",data:=.seq its'.toArray n' }) (r:Vals ys its') (hz:ys.length<=sizeLine) (t:Nat) :
   Inv X Z σ (upd H p (.lst ys)) { s with heap:=s.heap.update p f,toks:=t }:=by
 have e:(s.heap.update p f).get? p=some { cls:=.type "list",data:=.seq its'.toArray n' }:=by
   rw[Ry f ho (by rw[hf]<;>rfl),hf]
 refine I.write (x:=p) (e:=p) (by rw[h];trivial) (.inl rfl) (fun b u hb q=>(Rf _ _ (Ne.symm hb)).trans q) ⟨_,e⟩ ?_
 exact⟨hz,its',n',r,e⟩
def zFW:V->V->V->Hp->(Hp->Prop)->Prop:=fun o i v H Q=>∃p xs k j,o = .ref p/\i = .int k/\H p=some (.lst xs)/\ixN xs.length k=some j/\Q (upd H p (.lst (xs.set j v)))
def zLH:zHB X zFW:=by
 intro Z s σ H o i v ov iv u Q I ro ri rv h
 obtain⟨p,xs,k,j,rfl,rfl,hp,hj,q⟩:=h
 cases ro
 obtain⟨t,rfl⟩:=ri
 obtain⟨j6,n,r,ho,hz⟩:=I.lst hp
 obtain⟨h1,h2,h3,h4⟩:=zT0 hj
 have hl:=r.length
 have hn:=zYI
 have I':Inv X Z σ (upd H p (.lst (xs.set j v))) { s with heap:=s.heap.update p (Obj.mapSeq (·.setIfInBounds j u)) } :=
   I.lstUpd hp ho (zPE j6 n j u) (r.set rv j) (by rw[Tk];exact hz) s.toks
 by_cases h0:0<=k
 · have hk:k.toNat=j:=by
     rw[seqIndex_of h0 h4] at h1
     exact Eg h1
   exact PySem.W.ki_setAt ho h0 jc (by rw[Qg,←hl];exact h4) (by rw[hk];exact⟨_,I',q⟩)
 · have hk:(k+(j6.toArray.size:Int)).toNat=j:=by
     rw[seqIndex_neg jc h3] at h1
     rw[Qg,←hl]
     exact Eg h1
   exact PySem.W.ki_setBack ho jc (by rw[Qg,←hl];exact h3) jc (by rw[hk];exact⟨_,I',q⟩)
def zTR (lo hi:Option Int)(n:Nat):(sliceBounds lo hi none n).1=((HT.sIx n 0 lo:Nat):Int)/\(sliceBounds lo hi none n).2.1=((HT.sIx n n hi:Nat):Int)/\(sliceBounds lo hi none n).2.2=1:=by
 refine⟨?_,?_,rfl⟩
 · cases lo with
   | none=>simp[sliceBounds,HT.sIx]
   | some i =>
     simp only[sliceBounds,HT.sIx,Option.getD_none,show(1:Int) > 0 by decide,Rt]
     by_cases h:i < 0
     · simp only[h,Rt]<;>omega
     · simp only[h,Rp]<;>omega
 · cases hi with
   | none=>simp[sliceBounds,HT.sIx]
   | some i =>
     simp only[sliceBounds,HT.sIx,Option.getD_none,show(1:Int) > 0 by decide,Rt]
     by_cases h:i < 0
     · simp only[h,Rt]<;>omega
     · simp only[h,Rp]<;>omega
def zVD (j6:jj)(lo hi:Option Int):slicePick j6.toArray lo hi none=((j6.drop (HT.sIx j6.length 0 lo)).take (HT.sIx j6.length j6.length hi - HT.sIx j6.length 0 lo)).toArray:=by
 obtain⟨h1,h2,h3⟩:=zTR lo hi j6.toArray.size
 unfold slicePick
 rw[h1,h2,h3]
 simp only[sliceRange_one,pick_run,Qg]<;>rfl
def zFs (K:jg):V->Option Int->Option Int->Hp->VK->Prop:=fun x lo hi H Q=>∃a xs,x = .ref a/\SqL K H a xs/\∀p,H p=none->Q (.ref p) (upd H p (.lst (zXx xs lo hi)))
def zJj:SlR X (zFs X.K):=by
 intro Z s σ H x v vl vu lo hi sl Q I rx hs pl pu h
 obtain⟨a,xs,rfl,hx,q⟩:=h
 cases rx
 obtain⟨j6,r,ht,hz⟩:=I.list hx
 have j5:=r.length
 refine⟨"list",_,slot_list_getitem.lookup,ht.isList.typeIs,?_⟩
 refine wpAny_getItem_list_slice ht.isList hs pl pu .none jd ?_ (by rw[Qg]<;>omega)
 rw[zVD,←j5]
 refine⟨.ref s.heap.objs.size,_,I.laid (t':=s.toks) (o:=.lst (zXx xs lo hi)) (fun b ob q=>Qr _ q) (Ql _) ?_,rfl,q _ (I.hok.fresh (Ql _))⟩
 exact⟨Ep (zYb xs lo hi) hz,_,0,(r.drop (HT.sIx xs.length 0 lo)).take (HT.sIx xs.length xs.length hi - HT.sIx xs.length 0 lo),Qz _ rfl⟩
def fE:V->Bool
 | .non=>true
 | .bl _=>true
 | .int _=>true
 | .str _=>true
 | _=>false
def eqV:V->V->Bool
 | .non,.non=>true
 | .bl a,.bl b=>a==b
 | .bl a,.int b=>(if a then 1 else 0)==b
 | .int a,.bl b=>a==(if b then 1 else 0)
 | .int a,.int b=>a==b
 | .str a,.str b=>a==b
 | _,_=>false
def zId {A:Around}{s:Shared}{y x:V}{u v:Value}(ry:RelV y u)(rx:RelV x v)(fy:fE y=true)(fx:fE x=true):SeqAt.EqAt A s u v (eqV y x):=by
 cases y with
 | non =>
   cases ry
   cases x with
   | non=>cases rx;exact Ya _
   | bl b=>cases rx;exact SeqAt.EqAt.none_bool b
   | int b=>obtain⟨t,rfl⟩:=rx;exact SeqAt.EqAt.none_int b t
   | str b=>obtain⟨t,rfl⟩:=rx;exact SeqAt.EqAt.none_str b t
   | _=>exact absurd (show false=true from fx) Qj
 | bl a =>
   cases ry
   cases x with
   | non=>cases rx;exact SeqAt.EqAt.bool_none a
   | bl b=>cases rx;exact Uc a b
   | int b=>obtain⟨t,rfl⟩:=rx;exact SeqAt.EqAt.bool_int a b t
   | str b=>obtain⟨t,rfl⟩:=rx;exact SeqAt.EqAt.bool_str a b t
   | _=>exact absurd (show false=true from fx) Qj
 | int a =>
   obtain⟨t',rfl⟩:=ry
   cases x with
   | non=>cases rx;exact SeqAt.EqAt.int_none a t'
   | bl b=>cases rx;exact SeqAt.EqAt.int_bool a t' b
   | int b=>obtain⟨t,rfl⟩:=rx;exact Ir a t' b t
   | str b=>obtain⟨t,rfl⟩:=rx;exact SeqAt.EqAt.int_str a t' b t
   | _=>exact absurd (show false=true from fx) Qj
 | str a =>
   obtain⟨t',rfl⟩:=ry
   cases x with
   | non=>cases rx;exact SeqAt.EqAt.str_none a t'
   | bl b=>cases rx;exact SeqAt.EqAt.str_bool a t' b
   | int b=>obtain⟨t,rfl⟩:=rx;exact SeqAt.EqAt.str_int a t' b t
   | str b=>obtain⟨t,rfl⟩:=rx;exact SeqAt.EqAt.str_str a t' b t
   | _=>exact absurd (show false=true from fx) Qj
 | _=>exact absurd (show false=true from fy) Qj
def eqU (x:V)(u:Value):Bool:=match u with
 | .none=>eqV .non x
 | .bool b=>eqV (.bl b) x
 | .int i _=>eqV (.int i) x
 | .str z _=>eqV (.str z) x
 | _=>false
def zLq {x y:V}{u:Value}(r:RelV y u)(f:fE y=true):eqU x u=eqV y x:=by
 cases y with
 | non=>cases r;rfl
 | bl b=>cases r;rfl
 | int i=>obtain⟨t,rfl⟩:=r;rfl
 | str z=>obtain⟨t,rfl⟩:=r;rfl
 | _=>exact absurd (show false=true from f) Qj
def zTi {x:V}:∀ {xs:List V} {us:jj},Vals xs us->xs.all fE=true->us.any (eqU x)=xs.any fun y=>eqV y x
 | _,_,.nil,_=>rfl
 | y::xs,u::us,.cons r t,f=>by
   rw[Yy,Qc] at f
   rw[List.any_cons,List.any_cons,zLq r f.1,zTi t f.2]
def zWe {A:Around}{s:Shared}{x:V}{v:Value}(rx:RelV x v)(fx:fE x=true):∀ {xs:List V} {us:jj},Vals xs us->xs.all fE=true->∀u∈us,SeqAt.EqAt A s u v (eqU x u)
 | _,_,.nil,_=>fun u hu=>by cases hu
 | y::xs,u::us,.cons r t,f=>fun u' hu=>by
   rw[Yy,Qc] at f
   rcases Qh.mp hu with rfl | hu
   · rw[zLq r f.1];exact zId r rx f.1 fx
   · exact zWe rx fx t f.2 u' hu
def inV (x:V)(xs:List V):Bool:=xs.any fun y=>eqV y x
def rIn (K:jg)(neg:Bool):R2:=fun x y H Q=>∃p xs,y = .ref p/\(SqL K H p xs∨SqT K H p xs)/\fE x=true/\xs.all fE=true/\Q (.bl (if neg then !inV x xs else inV x xs)) H
def zNQ:OpR X (compareOp .In) (rIn X.K false):=by
 intro Z s σ H x y v u Q I rx ry h
 obtain⟨p,xs,rfl,hq,fx,fs,q⟩:=h
 cases ry
 rcases hq with hq | hq
 · obtain⟨j6,r,pl,hz⟩:=I.list hq
   refine SeqAt.in_listAt (eqU x) pl.isList (fun w hw=>zWe rx fx r fs w (by simpa using hw)) ⟨.bl _,H,I,rfl,?_⟩
   rw[show j6.toArray.any (eqU x)=j6.any (eqU x) by simp,zTi r fs]
   exact q
 · obtain⟨j6,r,pl,hz⟩:=I.tuple hq
   refine SeqAt.in_tupleAt (eqU x) pl (fun w hw=>zWe rx fx r fs w (by simpa using hw)) ⟨.bl _,H,I,rfl,?_⟩
   rw[show j6.toArray.any (eqU x)=j6.any (eqU x) by simp,zTi r fs]
   exact q
def zZR:CallR X (.builtin "len") (fun xs H Q=>∃p ys,xs=[.ref p]/\(SqL X.K H p ys∨SqT X.K H p ys)/\Q (.int ys.length) H):=by
 intro Z s σ H xs us Q I r h
 obtain⟨p,ys,rfl,hq,q⟩:=h
 obtain⟨u,rfl,rx⟩:=oG r
 cases rx
 have hn:=zYI
 rcases hq with hq | hq
 · obtain⟨j6,r',pl,hz⟩:=I.list hq
   have j5:=r'.length
   exact Calls.call_len_list pl.isList (by simp only[Qg]<;>omega) ⟨.int ys.length,H,I.tok _,⟨s.toks+1,by rw[Qg,j5]⟩,q⟩
 · obtain⟨j6,r',pl,hz⟩:=I.tuple hq
   have j5:=r'.length
   exact len_tuple pl (by simp only[Qg]<;>omega) ⟨.int ys.length,H,I.tok _,⟨s.toks+1,by rw[Qg,j5]⟩,q⟩
def zUo:CallR X (.builtin "len") (fun xs H Q=>∃z,xs=[.str z]/\z.length<=sizeLine/\Q (.int z.length) H):=by
 intro Z s σ H xs us Q I r h
 obtain⟨z,rfl,hz,q⟩:=h
 obtain⟨u,rfl,t,rfl⟩:=oG r
 have hn:=zYI
 exact len_str jc ⟨.int z.length,H,I.tok _,⟨_,rfl⟩,q⟩
def CallR.or {f:Value}{r r':List V->Hp->VK->Prop}(h:CallR X f r)(h':CallR X f r'):CallR X f (fun xs H Q=>r xs H Q∨r' xs H Q):=by
 intro Z s σ H xs us Q I rs q
 rcases q with q | q
 · exact h Z s σ H xs us Q I rs q
 · exact h' Z s σ H xs us Q I rs q
def zTu:CallR X (.type "list") (fun xs H Q=>∃p ys,xs=[.ref p]/\(SqL X.K H p ys∨SqT X.K H p ys)/\∀l,H l=none->Q (.ref l) (upd H l (.lst ys))):=by
 intro Z s σ H xs us Q I r h
 obtain⟨p,ys,rfl,hq,q⟩:=h
 obtain⟨u,rfl,rx⟩:=oG r
 cases rx
 have fin:∀(j6:jj),Vals ys j6->ys.length<=sizeLine->∀(h':Heap) (c':Nat),(∀b o',s.heap.get? b=some o'->h'.get? b=some o') ->
     h'.get? s.heap.objs.size=some { cls:=.type "list",dict:=none,data:=.seq j6.toArray c',slots:=#[] }->EP X Z σ Q (.ref s.heap.objs.size) { s with heap:=h' }:=fun j6 r' hz h' c' kp e =>
   ⟨.ref s.heap.objs.size,_,I.laid (t':=s.toks) kp (Ql _) (show ObjOk X.prog X.w _ h' _ (.lst ys) from⟨hz,j6,c',r',e⟩),rfl,q _ (I.hok.fresh (Ql _))⟩
 rcases hq with hq | hq
 · obtain⟨j6,r',pl,hz⟩:=I.list hq
   have j5:=r'.length
   obtain⟨o,ho,hc,n,hd⟩:=pl.isList
   exact call_list_seq p (.inl rfl) ho hc hd (fun h' c' kp e=>fin j6 r' hz h' c' kp e) (by simp only[Qg]<;>omega)
 · obtain⟨j6,r',pl,hz⟩:=I.tuple hq
   have j5:=r'.length
   obtain⟨o,ho,hc,n,hd⟩:=pl
   exact call_list_seq p (.inr rfl) ho hc hd (fun h' c' kp e=>fin j6 r' hz h' c' kp e) (by simp only[Qg]<;>omega)
def zV9:CallR X (.type "tuple") (fun xs H Q=>∃p ys,xs=[.ref p]/\((SqL X.K H p ys/\∀l,H l=none->Q (.ref l) (upd H l (.tup ys)))∨(SqT X.K H p ys/\Q (.ref p) H))):=by
 intro Z s σ H xs us Q I r h
 obtain⟨p,ys,rfl,h⟩:=h
 obtain⟨u,rfl,rx⟩:=oG r
 cases rx
 rcases h with⟨hq,q⟩ | ⟨hq,q⟩
 · obtain⟨j6,r',pl,hz⟩:=I.list hq
   have j5:=r'.length
   refine call_tuple_list pl.isList (fun h' kp=>?_) (by simp only[Qg]<;>omega)
   have I1:Inv X Z σ H { s with heap:=h' }:=I.kept (t':=s.toks) kp
   have I2:Inv X Z σ (upd H h'.objs.size (.tup ys)) { s with heap:=h'.push { cls:=.type "tuple",data:=.seq j6.toArray } } :=
     I1.laid (t':=s.toks) (fun b o e=>Qr _ e) (Ql _) (show ObjOk X.prog X.w _ _ _ (.tup ys) from⟨hz,j6,r',IsTup.new _ _⟩)
   exact⟨.ref h'.objs.size,_,I2,rfl,q _ (I1.hok.fresh (Ql _))⟩
 · obtain⟨j6,r',pl,hz⟩:=I.tuple hq
   exact call_tuple_same pl ⟨.ref p,H,I,rfl,q⟩
def tyV (K:jg)(T:String)(x:V)(H:Hp):Prop:=match x with
 | .str _=>T="str"
 | .int _=>T="int"
 | .ref p=>(T="list"/\∃xs,SqL K H p xs)∨(T="tuple"/\∃o,K.lookup p=some o/\o.cls = .type "tuple"/\o.dict=none) ∨
     (T="dict"/\((∃j8,H p=some (.dK j8))∨∃j8,H p=some (.dT j8)))∨(T="set"/\∃S n,H p=some (.set S n))
 | _=>False
def zHq {Z:ji}{σ:St}{H:Hp}{s:Shared}{T:String}{x:V}{v:Value}(I:Inv X Z σ H s)(r:RelV x v)(ty:tyV X.K T x H) :
   s.TypeIs v T/\∀a,v = .ref a->∃ob,s.heap.get? a=some ob/\ob.dict=none:=by
 cases x with
 | str z =>
   obtain⟨t,rfl⟩:=r
   cases (show T="str" from ty)
   exact⟨Ul s z t,fun _ e=>nomatch e⟩
 | int i =>
   obtain⟨t,rfl⟩:=r
   cases (show T="int" from ty)
   exact⟨typeIs_int s i t,fun _ e=>nomatch e⟩
 | ref p =>
   cases r
   rcases ty with⟨rfl,xs,hq⟩ | ⟨rfl,o,hk,hc,hd⟩ | ⟨rfl,hk⟩ | ⟨rfl,S,n,hk⟩
   · obtain⟨j6,_,pl,_⟩:=I.list hq
     refine⟨pl.isList.typeIs,fun a e=>?_⟩
     cases e
     obtain⟨o,n,e,c,hd,_⟩:=pl
     exact⟨o,e,hd⟩
   · refine⟨⟨o,I.kIn p o hk,hc⟩,fun a e=>?_⟩
     cases e
     exact⟨o,I.kIn _ o hk,hd⟩
   · have z:∃o,s.heap.get? p=some o/\o.ExactDict:=by
       rcases hk with⟨j8,hk⟩ | ⟨j8,hk⟩
       · obtain⟨_,_,_,_,o,_,_,e,ex,_⟩:=I.hok p _ hk
         exact⟨o,e,ex⟩
       · obtain⟨_,_,_,_,o,_,_,e,ex,_⟩:=I.hok p _ hk
         exact⟨o,e,ex⟩
     obtain⟨o,e,ex⟩:=z
     refine⟨⟨o,e,ex.1⟩,fun a e2=>?_⟩
     cases e2
     exact⟨o,e,ex.2.1⟩
   · obtain⟨o,_,_,_,e,ex,_⟩:=I.hok p _ hk
     refine⟨⟨o,e,ex.1⟩,fun a e2=>?_⟩
     cases e2
     exact⟨o,e,ex.2.1⟩
 | _=>exact False.elim ty
def tBM (K:jg)(T:String)(r:V->List V->Hp->VK->Prop)(to:TE)(t:TA):TE:=fun σ H Q=>to σ H fun x H1=>tyV K T x H1/\t σ H1 fun xs H2=>r x xs H2 Q
variable {o e:Expr} {es:List Expr} {to:TE} {t:TA} {name:Str} {apos cpos:Pos} {T id:String} {r:V->List V->Hp->VK->Prop}
def vZ (pa:PlainAttrs T)(slot:Slot T name id)(hty:typeOf (.builtin id)=pure (.type "method_descriptor"))(hm:MtR X id r)(ho:PE X o to)(ha:PA X (e::es) t)
   (hbase:attributeBase o name X.env (eval o X.env)=eval o X.env:=by rfl)
   (hfew:((backTo cpos (starEach (e::es) X.env)).all (fun x => !x.1)&&(backToKw cpos (keywordEach [] X.env)).all (fun x=>x.1.isSome)
     && decide ((e::es).length+([]:List Keyword).length+(if ([]:List Keyword).isEmpty then 0 else 1) < 30))=true:=by rfl)
   (hline:(apos.endLine==cpos.line)=true:=by rfl) (hs:starEach (e::es) X.env=(false,eval e X.env)::starEach es X.env:=by rfl) (hplain:(backTo cpos (starEach es X.env)).any (·.1)=false:=by rfl) :
   PE X (.Call (.Attribute o name apos) (e::es) [] cpos) (tBM X.K T r to t):=by
 intro Z s σ H Q I h
 refine wpAny_Call_method_late hbase hfew hline rfl (thn (ho Z s σ H _ I h) fun v s1 ⟨x,H1,I1,r1,ty,q1⟩=>?_)
 obtain⟨h1,h2⟩:=zHq I1 r1 ty
 refine⟨T,id,pa,slot,hty,h1,h2,?_⟩
 have hA:=ha cpos Z s1 σ H1 _ I1 q1
 rw[hs] at hA ⊢
 refine Calls.callWith_builtin (by show(false||(backTo cpos (starEach es X.env)).any (·.1))=false;rw[hplain]<;>rfl) (Calls.evalArgs_plain ?_)
 exact thn hA fun us s2 ⟨vs,H2,I2,r2,q2⟩=>hm Z s2 σ H2 x vs v us Q I2 r1 r2 q2
end
def MtM (X:Cx)(id:String)(r:V->List V->Hp->VK->Prop):Prop :=
 ∀(Z:ji) (s:Shared) (σ:St) (H:Hp) (x:V) (xs:List V) (v:Value) (us:jj) (Q:VK),Inv X Z σ H s->RelV x v->Vals xs us->r x xs H Q ->
   wpAny (model X.prog X.w) X.A (call (.builtin id) (v::us)) (EP X Z σ Q) X.xe s
def Vals.one:∀ {x:V} {us:jj},Vals [x] us->∃u,us=[u]/\RelV x u
 | _,_,.cons r .nil=>⟨_,rfl,r⟩
def Vals.eraseIdx:∀ {xs:List V} {us:jj} (i:Nat),Vals xs us->Vals (xs.eraseIdx i) (us.eraseIdx i)
 | _,_,_,.nil=>.nil
 | _,_,0,.cons _ t=>t
 | _,_,i+1,.cons r t=>.cons r (Vals.eraseIdx i t)
def Vals.reverse {xs:List V}{us:jj}(h:Vals xs us):Vals xs.reverse us.reverse:=by
 induction h with
 | nil=>exact .nil
 | cons r t ih=>rw[Yc,Yc];exact Vals.append ih (.cons r .nil)
def Vals.rep {xs:List V}{us:jj}(h:Vals xs us):∀k:Nat,Vals (List.replicate k xs).flatten (List.replicate k us).flatten
 | 0=>.nil
 | k+1=>by
   rw[Wl,Wl,To,To]
   exact Vals.append h (Vals.rep h k)
def zUT {α:Type}:∀(l:List α) (i:Nat),(l.eraseIdx i).length<=l.length
 | [],_=>Ql _
 | _::_,0=>Yb _
 | _::r,i+1=>Nat.succ_le_succ (zUT r i)
def zUH (j6:jj):∀(k:Nat) (j7:jj),
   List.foldl (fun x1 x2=>x1++x2) j7.toArray (List.replicate k j6.toArray)=(j7++(List.replicate k j6).flatten).toArray
 | 0,j7=>jd
 | k+1,j7=>by
   have e:j7.toArray++j6.toArray=(j7++j6).toArray:=jd
   have e2:(j7++j6)++(List.replicate k j6).flatten=j7++(List.replicate (k+1) j6).flatten:=by
     rw[Wl,To,Ex]
   rw[←e2,←zUH j6 k (j7++j6),←e,Wl,List.foldl_cons]
section
variable {X:Cx} {Z:ji} {σ:St} {H:Hp} {s:Shared} {l:Addr} {xs ys:List V}
def Inv.lset {j6 its':jj}{n:Nat}{f:Array Value->Array Value}{t':Nat}(I:Inv X Z σ H s)(hH:H l=some (.lst xs))
   (e:s.heap.get? l=some { cls:=.type "list",data:=.seq j6.toArray n }) (hf:f j6.toArray=its'.toArray) (hv:Vals ys its') (hz:ys.length<=sizeLine) :
   Inv X Z σ (upd H l (.lst ys)) { s with heap:=s.heap.update l (Obj.mapSeq f),toks:=t' }:=by
 have q:=PySem.IsL.update e f
 rw[hf] at q
 refine I.write (x:=l) (e:=l) (by rw[hH];exact trivial) (.inl rfl) (fun b' u hb hu=>(Rf s.heap (Obj.mapSeq f) (Ne.symm hb)).trans hu) ⟨_,q⟩ ?_
 exact⟨hz,its',_,hv,q⟩
def Inv.lnew {j6:jj}{t':Nat}(I:Inv X Z σ H s)(hv:Vals ys j6)(hz:ys.length<=sizeLine) :
   Inv X Z σ (upd H s.heap.objs.size (.lst ys)) { s with heap:=s.heap.push { cls:=.type "list",data:=.seq j6.toArray },toks:=t' } :=
 I.laid (fun _ _ q=>Qr _ q) (Ql _) ⟨hz,j6,0,hv,Qz _ rfl⟩
def Inv.fresh (I:Inv X Z σ H s):H s.heap.objs.size=none:=I.hok.fresh (Ql _)
def Inv.lstM (I:Inv X Z σ H s)(hH:H l=some (.lst xs)):xs.length<=sizeLine/\∃(j6:jj) (n:Nat),Vals xs j6/\xs.length=j6.length/\s.heap.get? l=some { cls:=.type "list",data:=.seq j6.toArray n }:=by
 obtain⟨z,j6,n,r,e⟩:=I.hok l _ hH
 exact⟨z,j6,n,r,r.length,e⟩
def zLi {n:Nat}(h:n<=sizeLine):Builtin.List.listTooLong n=false:=by
 unfold Builtin.List.listTooLong
 exact Qb jc
def zOO:V->List V->Hp->VK->Prop:=fun x vs H Q=>∃l xs y,x = .ref l/\vs=[y]/\H l=some (.lst xs)/\xs.length < sizeLine/\Q .non (upd H l (.lst (xs++[y])))
def wE:MtM X "list.append" zOO:=by
 intro Z s σ H x vs v us Q I rx rv h
 obtain⟨l,xs,y,rfl,rfl,hH,hz,q⟩:=h
 cases rx
 obtain⟨u,rfl,ru⟩:=rv.one
 obtain⟨z,j6,n,r,hl,e⟩:=I.lstM hH
 refine Yi F.slot_list_append ⟨_,e,rfl⟩ F.entry_list_append (F.args_list_append_2 _ _) (PySem.list_append l j6.toArray n u (by rw[Qg];omega)) ⟨e,?_⟩
 refine⟨.non,_,I.lset (its':=j6++[u]) hH e jd (r.append (.cons ru .nil)) ?_,rfl,q⟩
 rw[Qk,Ey]
 omega
def zLJ:V->List V->Hp->VK->Prop:=fun x vs H Q=>∃l xs i k y,x = .ref l/\vs=[.int i]/\H l=some (.lst xs) /\ -(2^63)<=i/\i < 2^63/\seqIndex? i xs.length=some k/\xs[k]?=some y/\Q y (upd H l (.lst (xs.eraseIdx k)))
def zMr:MtM X "list.pop" zLJ:=by
 intro Z s σ H x vs v us Q I rx rv h
 obtain⟨l,xs,i,k,y,rfl,rfl,hH,h1,h2,hk,hy,q⟩:=h
 cases rx
 obtain⟨u,rfl,ru⟩:=rv.one
 obtain⟨t,rfl⟩:=ru
 obtain⟨z,j6,n,r,hl,e⟩:=I.lstM hH
 obtain⟨w,hw,rw'⟩:=r.get hy
 refine Yi F.slot_list_pop ⟨_,e,rfl⟩ F.entry_list_pop (F.args_list_pop_2 _ _)
   (MeetsSeq.list_pop_at l j6.toArray n i t k w (fitsIndex_both h1 h2) (by rw[Qg,←hl];exact hk) (by rw[←Array.getElem?_toList];exact hw) (by rw[Qg];omega)) ⟨e,?_⟩
 refine⟨y,_,I.lset (its':=j6.eraseIdx k) hH e ?_ (r.eraseIdx k) ?_,rw',q⟩
 · show j6.toArray.eraseIdxIfInBounds k=(j6.eraseIdx k).toArray
   rw[List.eraseIdxIfInBounds_toArray]
 · have:=zUT xs k
   omega
def zFB:R2:=fun x y H Q=>∃l b xs zs,x = .ref l/\y = .ref b/\H l=some (.lst xs)/\H b=some (.lst zs)/\xs.length+zs.length<=sizeLine/\∀p,H p=none->Q (.ref p) (upd H p (.lst (xs++zs)))
def zHS:OpR X (binaryOp .Add) zFB:=by
 intro Z s σ H x y v u Q I rx ry h
 obtain⟨l,b,xs,zs,rfl,rfl,hH,hB,hz,q⟩:=h
 cases rx
 cases ry
 obtain⟨z,j6,n,r,hl,e⟩:=I.lstM hH
 obtain⟨z2,its2,n2,r2,hl2,e2⟩:=I.lstM hB
 refine PySem.P.add_list e e2 ?_ (by rw[Qg,Qg];omega)
 have ea:j6.toArray++its2.toArray=(j6++its2).toArray:=jd
 rw[ea]
 exact⟨.ref _,_,I.lnew (t':=s.toks) (r.append r2) (by rw[Qk];omega),rfl,q _ I.fresh⟩
def zFx:R2:=fun x y H Q=>∃l k xs,x = .ref l/\y = .int k/\H l=some (.lst xs) /\ -(2^63)<=k/\k < 2^63/\xs.length*k.toNat<=sizeLine /\
 ∀p,H p=none->Q (.ref p) (upd H p (.lst (List.replicate k.toNat xs).flatten))
def zJ8 {α:Type}(xs:List α)(k:Nat):(List.replicate k xs).flatten.length=k*xs.length:=by
 induction k with
 | zero=>simp
 | succ k ih=>rw[Wl,To,Qk,ih,Nat.succ_mul,Nat.add_comm]
def zHL:OpR X (binaryOp .Mult) zFx:=by
 intro Z s σ H x y v u Q I rx ry h
 obtain⟨l,k,xs,rfl,rfl,hH,h1,h2,hz,q⟩:=h
 cases rx
 obtain⟨t,rfl⟩:=ry
 obtain⟨z,j6,n,r,hl,e⟩:=I.lstM hH
 have j5:j6.toArray.size*k.toNat<=sizeLine:=by rw[Qg,←hl];exact hz
 have hcap:¬j6.toArray.size*k.toNat > (2^63 - 1) / 8:=by
   have:(sizeLine:Nat)<=(2^63 - 1) / 8:=jb
   omega
 have hfit:¬(!Builtin.List.listFitsIndex k)=true:=by
   rw[fitsIndex_both h1 h2]
   exact Qj
 have hlong:¬Builtin.List.listTooLong (j6.toArray.size*k.toNat)=true:=by
   rw[zLi j5]
   exact Qj
 have hnew:List.foldl (fun x1 x2=>x1++x2) #[] (List.replicate (if j6.toArray.isEmpty=true then 0 else k.toNat) j6.toArray)=(List.replicate k.toNat j6).flatten.toArray:=by
   have f0:∀m:Nat,List.foldl (fun x1 x2=>x1++x2) #[] (List.replicate m j6.toArray)=(List.replicate m j6).flatten.toArray:=fun m=>by
     have:=zUH j6 m []
     rw[Ws] at this
     exact this
   rw[f0]
   cases j6 with
   | nil=>simp
   | cons a r'=>rw[Wh jd]
 refine wpAny_binaryOp_repeat_ref (T:="list") (U:="int") jb ⟨_,e,rfl⟩ (fun s'=>typeIs_int s' k t) noFill_list_mul F.fills_int_mul F.slot_int_rmul repeat_list F.slot_int_index.lookup
   (Yi F.slot_int_rmul (typeIs_int s k t) F.entry_int_rmul (F.args_int_rmul_2 _ _) (int___rmul___int_list k t l j6.toArray n)
     ⟨e,rfl,⟨_,e,rfl⟩,Yi F.slot_list_mul ⟨_,e,rfl⟩ F.entry_list_mul (F.args_list_mul_2 _ _) (AutoListH.list___mul___list_int_3 l j6.toArray n k t hfit hcap hlong) ⟨e,?_⟩⟩)
 rw[hnew]
 exact⟨.ref _,_,I.lnew (t':=s.toks) (r.rep k.toNat) (by rw[zJ8,Nat.mul_comm];exact hz),rfl,q _ I.fresh⟩
end
end L2
namespace Att
open PySem PySem.W PySem.Calls PyProof.Rows
def zXX {P:Params}{h:Heap}:∀(ns:List Int) (vs:jj),WellAll P h vs (ns.map WData.int)->IntsAre vs ns:=by
 intro ns
 induction ns with
 | nil =>
   intro vs w
   rw[Wz] at w
   cases w
   exact .nil
 | cons n ns ih =>
   intro vs w
   rw[Qu] at w
   cases w with
   | cons a b =>
     cases a
     exact .cons _ _ (ih _ b)
def zN6 {l:OpenLaw}{n:Nat}(hn:l.most=some n){P:Params}{h:Heap}{args:List WData}{vals:jj}
   (hpre:l.row.toRowW.claim.pre args=true) (hwl:WellAll P h vals args) :
   ∃a vs ns,vals=[Value.ref a]/\args=[WData.list (ns.map WData.int)]/\h.get? a=some { cls:=.type "list",data:=.seq vs.toArray }/\IntsAre vs ns/\ns.length<=n:=by
 have hsh:WShape.hasAll [] args [.list .int]=true:=(pre_splitW hpre).1
 have hc:l.pre.holds [] { args:=args }=true:=(pre_splitW hpre).2
 obtain⟨d,r,rfl,h1,h2⟩:=hasAllW_cons hsh
 obtain rfl:=hasAllW_nil h2
 obtain⟨xs,rfl,h3⟩:=hasW_list h1
 obtain⟨ns,rfl⟩:=items_int h3
 have j5:ns.length<=n:=by
   unfold OpenLaw.pre at hc
   have h4:(WTm.not (.lt (.lit (.int (n:Int))) (.len (.arg 0)))).holds [] { args:=[.list (ns.map .int)] }=true:=by
     have h4:=(holds_andW hc).1
     rw[hn] at h4
     exact h4
   have h5:=condW_of h4 (w_not (w_lt w_lit (w_len_list (w_arg rfl))))
   rw[Qt] at h5
   refine Nat.le_of_not_lt fun q=>?_
   have q':(n:Int) < ((ns.length:Nat):Int):=jc
   first
     | (rw[Qp q'] at h5;exact absurd h5 jb)
     | (simp at h5;omega)
 cases hwl with
 | cons w1 w2 =>
   cases w2
   cases w1 with
   | list ho hall=>exact⟨_,_,ns,rfl,rfl,ho,zXX ns _ hall,j5⟩
def zNy (l:OpenLaw)(args:List WData):l.row.toRowW.claim.post args (.bool true) args=true :=
 postW_of (r:=l.row.toRowW) (X:=(true==true))
   (show WShape.has [] (.bool true) .bool=true by first | rfl | decide | simp[WShape.has,WShape.arms,WShape.armsAll])
   (show(WTm.eq .res (.lit (.bool true))).value [] { args:=args,res:=some (.bool true),after:=args }=some (.bool (true==true)) from w_eq_bool (w_res rfl) w_lit) rfl
end Att
namespace L2
open PySem PySem.Spec PyProof.Rows
def zYG:∀ {vs:jj} {ns:List Int},IntsAre vs ns->Vals (ns.map V.int) vs
 | _,_,.nil=>.nil
 | _,_,.cons n t h=>.cons ⟨t,rfl⟩ (zYG h)
def zHy (H:Hp):Prop:=∀b,H b=none∨∃o xs,H b=some (.frz o (.lst xs))
def zLF {P:Program}{w:World}{K:jg}{mg mb:Str->Option Value}{CX:CXT}{k:Nat}{fa a:Addr}{fd:FuncData}{x:Str}{sp:Sp}{s₁:Shared}{vs:jj}{ns:List Int}
   (KX:K.In s₁.heap) (hns:s₁.heap.Ns mainGlobals mg) (hb:s₁.heap.Ns builtinsNs mb) (hbb:∀x:Str,x≠"__name__"->mb x=bootBuiltins x) (hlim:s₁.heap.NoLimit) (hg:s₁.gens=#[])
   (ha:s₁.heap.get? a=some { cls:=.type "list",data:=.seq vs.toArray }) (hi:IntsAre vs ns) (hl:ns.length<=sizeLine) (hr:Room k callerA)
   (F:∀base:Heap,K.In base->base.Ns mainGlobals mg->FnOk P w K mg base CX k fa fd [x] sp) (hbind:∀(s:Shared) (u:Value),BindsTo s fd ⟨[u],[]⟩ [(x,u)])
   (hsp:∀H:Hp,zHy H->SqL K H a (ns.map V.int)->sp [.ref a] H (fun v _=>v = .bl true) fun _ _ _=>False)
   (hCX:∀H e s',CX [] H s₁ (fun _ _ _=>False) e s'->False) :
   codeAny (model P w) callerA (.call (.ref fa) ⟨[.ref a],[]⟩) (fun r s'=>r = .ok (.ret (.bool true))/\OldK s₁.heap s'.heap/\s'.os=s₁.os/\AllBare s'.gens) s₁:=by
 have rv:=zYG hi
 have lenV:=hi.length
 -- from an abstract heap in which nothing but the script may be tracked
 have core:∀H:Hp,zHy H->SqL K H a (ns.map V.int)->HOk P w H s₁.heap->(∀b,H b≠none->b=a)->(H a≠none->K.lookup a=none) ->
     codeAny (model P w) callerA (.call (.ref fa) ⟨[.ref a],[]⟩) (fun r s'=>r = .ok (.ret (.bool true))/\OldK s₁.heap s'.heap/\s'.os=s₁.os/\AllBare s'.gens) s₁:=by
   intro H hO hS hok hA hK
   have base_of:∀ {b:Addr} {o:Obj},s₁.heap.get? b=some o->H b=none->(zUx s₁.heap H).get? b=some o:=fun e n=>zMO e n
   have noA:∀ {b:Addr} {o:Obj} {es:Array DictEntry} {ep:Nat},s₁.heap.get? b=some o->o.data = .dict es ep->H b=none:=fun {b o es ep} e d=>by
     cases q:H b with
     | none=>rfl
     | some u =>
       have e':b=a:=hA b (by rw[q];simp)
       subst e'
       rw[ha] at e;cases e
       have d':Data.seq vs.toArray _=Data.dict es ep:=d
       cases d'
   have nsK:∀ {b:Addr} {m:Str->Option Value},s₁.heap.Ns b m->(zUx s₁.heap H).Ns b m:=fun {b m} ⟨o,es,ep,e,d,r⟩=>⟨o,es,ep,base_of e (noA e d),d,r⟩
   have hKb:K.In (zUx s₁.heap H):=fun b o e=>base_of (KX b o e) (by
     cases q:H b with
     | none=>rfl
     | some u =>
       have e':b=a:=hA b (by rw[q];simp)
       subst e'
       rw[hK (by rw[q];simp)] at e;cases e)
   have hM:Mod K mg (zUx s₁.heap H):=⟨hKb,nsK hns,⟨mb,nsK hb,hbb⟩,let ⟨mc,h1,h2⟩:=hlim;⟨mc,nsK h1,h2⟩⟩
   have e0:Env0 P w K mg (zUx s₁.heap H) callerA [] s₁ H:=⟨rfl,hM,fun b o e=>zK9 e,Ik (zMY _ _),trivial,fun b hb=>absurd (show b∈([]:List Addr) from hb) jd,hok,.of_eq hg⟩
   refine Il ((F _ hKb (nsK hns)).run callerA [] s₁ H ⟨[.ref a],[]⟩ [.ref a] [.ref a] _ _ hr e0 (hbind s₁ (.ref a)) (.cons rfl .nil) (hsp H hO hS)) fun r s' h=>?_
   cases r with
   | error e=>exact(hCX H e s' h).elim
   | ok fl =>
     cases fl with
     | next=>exact False.elim h
     | brk=>exact False.elim h
     | cont=>exact False.elim h
     | ret u =>
       obtain⟨v,H',os,bare,un,hok',r',q⟩:=h
       have q':v = .bl true:=q
       subst q'
       obtain rfl:u=Value.bool true:=r'
       refine⟨rfl,OldK.of_keep fun b o e=>?_,os,bare⟩
       cases q:H b with
       | none=>exact un.keep b o e q (by intro z;exact absurd (show b∈([]:List Addr) from z) jd) jd
       | some u =>
         rcases hO b with z | ⟨ob,xs,z⟩
         · rw[q] at z;cases z
         · have z2:=un.frzs b ob _ z
           obtain⟨e1,_⟩:=hok b _ z
           obtain⟨e2,_⟩:=hok' b _ z2
           rw[e] at e1;cases e1
           exact e2
 cases hk:K.lookup a with
 | some o =>
   -- the script is one of the module's own objects
   have e:=KX a o hk
   rw[ha] at e
   cases e
   refine core (fun _=>none) (fun _=>.inl rfl) (.inr ⟨_,vs.toArray,_,hk,rfl,rfl,rfl,by rw[Qg,lenV];exact hl,by simpa using rv⟩) (fun b u z=>by have z':(none:Option HO)=some u:=z;cases z') (fun b z=>absurd rfl z) fun z=>absurd rfl z
 | none =>
   refine core (fun b=>if b=a then some (.frz { cls:=.type "list",data:=.seq vs.toArray } (.lst (ns.map V.int))) else none) (fun b=>?_) (.inl (.inr ⟨{ cls:=.type "list",data:=.seq vs.toArray },Qv rfl⟩)) (fun b u z=>?_) (fun b z=>?_) fun _=>hk
   · by_cases hb:b=a
     · exact .inr ⟨_,_,Qv hb⟩
     · exact .inl (Wh hb)
   · by_cases hb:b=a
     · have z':=(Qv hb).symm.trans z
       cases z'
       subst hb
       exact⟨ha,by rw[Qt];exact hl,vs,_,rv,ha⟩
     · have z':=(Wh hb).symm.trans z
       cases z'
   · by_cases hb:b=a
     · exact hb
     · exact absurd (Wh hb) z
abbrev CX0:CXT:=fun _ _ _ _ _ _=>False
abbrev E0:XK:=fun _ _ _=>False
def zRd {X:Cx}:zWX CX0 X E0:=fun _ _ _ _ _ _ _ h=>h.elim
structure Fun (K:jg)(x qual:Str)(st:Stmt)(f:Addr)(fd:FuncData):Prop where
 ex:∃(oc:Value) (od:Option Addr) (kV doc pm:Value) (an:Option Addr) (j9 ct:Value) (osl:Array (Option Value)),
   fd=PySem.W.fnOf x qual (uT st) (wH st) (zS st) .none kV doc pm an j9 ct/\K.lookup f=some ⟨oc,od,.func fd,osl⟩/\PySem.W.codeIn K j9 qual=true
 kp:PySem.W.keepIn K (.ref f)=true
section
variable {P:Program} {w:World} {K:jg} {mg:Str->Option Value} {base:Heap}
def Fun.ok {x qual:Str}{st:Stmt}{f:Addr}{fd:FuncData}{N ps:List Str}{k:Nat}{sp:Sp}(F:Fun K x qual st f fd)(S:FnScope N ps (zS st))(len:∀vs H Q E,sp vs H Q E->vs.length=ps.length)
   (hbody:∀(j9:Value) (A:Around) (outer:List Env) (s:Shared) (H:Hp) (vs:List V) (Q:VK) (E:XK),Room k (A.deeper (envOfC qual (zS st) s.heap.objs.size f j9))->sp vs H Q E ->
     ∃t,PSs (zXn CX0 P w K mg base N qual (zS st) f j9 A outer s H E).nox (wH st) t/\t { nx:=fun _ H'=>Q .non H',rt:=Q } (nQ N vs) H):FnOk P w K mg base CX0 (k+1) f fd ps sp:=by
 obtain⟨oc,od,kV,doc,pm,an,j9,ct,osl,rfl,lk,hcd⟩:=F.ex
 refine zIT lk hcd S len fun A outer s H vs Q E hr hsp=>?_
 obtain⟨t,h,q⟩:=hbody j9 A outer s H vs Q E hr hsp
 exact⟨t,h.nox,q⟩
def Fun.binds {x qual:Str}{st:Stmt}{f:Addr}{fd:FuncData}{ps:List Str}(F:Fun K x qual st f fd)
   (h:∀(kV doc pm:Value) (an:Option Addr) (j9 ct:Value) (us:jj),us.length=ps.length->bindArgs (PySem.W.fnOf x qual (uT st) (wH st) (zS st) .none kV doc pm an j9 ct) ⟨us,[]⟩=pure (ps.zip us)):Binds K fd ps []:=by
 obtain⟨oc,od,kV,doc,pm,an,j9,ct,osl,rfl,lk,hcd⟩:=F.ex
 exact .all (h kV doc pm an j9 ct)
def zXa {x qual:Str}{st:Stmt}{f:Addr}{oc:Value}{od an:Option Addr}{osl:Array (Option Value)}{kV doc pm j9 ct:Value}(l:K.lookup f=some ⟨oc,od,.func (PySem.W.fnOf x qual (uT st) (wH st) (zS st) .none kV doc pm an j9 ct),osl⟩)
   (c:PySem.W.codeIn K j9 qual=true) (k:PySem.W.keepIn K (.ref f)=true):Fun K x qual st f (PySem.W.fnOf x qual (uT st) (wH st) (zS st) .none kV doc pm an j9 ct):=⟨⟨oc,od,kV,doc,pm,an,j9,ct,osl,rfl,l,c⟩,k⟩
variable {X:Cx}
def pv (i:Nat){x:Str}{pos:Pos}(hN:X.N[i]?=some x:=by rfl)(hv:Vis X.env.scope x:=by first | exact Or.inl rfl | exact Or.inr (Or.inl rfl) | exact Or.inr (Or.inr rfl))(hd:(x==("__debug__":Str))=false:=by decide)
   (hcd:(x==("__classdict__":Str))=false:=by decide):PE X (.Name x pos) (zJd i):=pX hN hv hd hcd
end
def Same (H H':Hp):Prop:=∀b o,H b=some o->H' b=some o
def Same.refl (H:Hp):Same H H:=fun _ _ h=>h
def Same.trans {H H1 H2:Hp}(a:Same H H1)(b:Same H1 H2):Same H H2:=fun c o h=>b c o (a c o h)
def Same.free {H H':Hp}(e:Same H H'){l:Addr}(h:H' l=Option.none):H l=Option.none:=by
 cases q:H l with
 | none=>rfl
 | some o =>
   rw[e l o q] at h
   cases h
def Same.seq {K:jg}{H H':Hp}{a:Addr}{xs:List V}(e:Same H H')(h:SqL K H a xs):SqL K H' a xs:=by
 rcases h with(h | ⟨o,h⟩) | h
 · exact .inl (.inl (e _ _ h))
 · exact .inl (.inr ⟨o,e _ _ h⟩)
 · exact .inr h
section
variable {prog:Program} {w:World} {A:Around} {R:Result->Shared->Prop} {s:Shared}
abbrev F0:Value->Shared->Prop:=fun _ _=>False
def zUC {α:Type}{t:Sem α}{Q Q':α->Shared->Prop}{M:Model}{A:Around}{E:jh}{s:Shared}(h:wpAny M A t Q F0 s)(hq:∀a s,Q a s->Q' a s):wpAny M A t Q' E s:=Ia h hq fun _ _ z=>z.elim
def zX6 {elt target iter:Expr}{ifs:List Expr}{scope:Scope}{pos:Pos}{it j7:Value}{env:Env}(I:Nat->Shared->Prop)
   (turn:∀n s,I n s->wpAny (model prog w) A (pyNext it) (fun r s₁=>match r with
     | none=>R (.ok .next) s₁
     | some v=>wpAny (model prog w) A (letOwnedTupleGo target it v) (fun _ s₁=>wpAny (model prog w) A (assign target env v) (fun _ s₂ =>
         wpAny (model prog w) A (forIn ifs true fun c r=>if r=true then do let ok ←isTrue c env (eval c env);pure (ForInStep.yield ok) else pure (ForInStep.yield r)) (fun ok s₃ =>
           if ok=true then wpAny (model prog w) A (eval elt env) (fun x s₄ =>
             wpAny (model prog w) A (call (.builtin "list.append") [j7,x]) (fun _ s₅ => ∃m,m < n/\I m s₅) F0 s₄) F0 s₃
           else ∃m,m < n/\I m s₃) F0 s₂) F0 s₁) F0 s₁) F0 s)
   (n:Nat) (h:I n s) :
   codeAny (model prog w) A (.compLoop (.ListComp elt [⟨target,iter,ifs,0⟩] scope pos) 0 it j7 env) R s:=by
 refine codeAny_loop rfl I (fun n s hI=>?_) n h
 show wpAny _ A ((compTurn (.ListComp elt [⟨target,iter,ifs,0⟩] scope pos) 0 it j7 env).onRaise (fun x=>do noteFrame x env;theTreesLotGoes x)) _ _ s
 refine wpAny_noted ?_
 rw[compTurn_list]
 refine Qe (wpAny_standAt (Qe (zUC (turn n s hI) (fun r s₁ h₁=>?_))))
 cases r with
 | none=>exact Qd h₁
 | some v =>
   refine Qe (zUC h₁ fun _ s₁' h₁'=>?_)
   refine Qe (zUC h₁' fun _ s₂ h₂=>Qe (zUC h₂ fun ok s₃ h₃ => ?_))
   cases ok with
   | false=>exact Qd ⟨rfl,h₃⟩
   | true =>
     exact Qe (Qe (zUC h₃ fun x s₄ h₄ => Qe (zUC h₄ fun _ s₅ h₅ => Qd (Qd ⟨rfl,h₅⟩))))
end
def eF {env:Env}(x:Str):∀(names:List (Str×NameKind)),
   (names.map fun(n,k)=>if (k==NameKind.free&&env.scope.kind == .function&&env.kindOf n==some .cell) then(n,NameKind.cell) else(n,k)).lookup x
     = (names.lookup x).map fun k=>if (k==NameKind.free&&env.scope.kind == .function&&env.kindOf x==some .cell)=true then NameKind.cell else k
 | []=>rfl
 | (n,k)::r=>by
   have ih:=eF (env:=env) x r
   rw[Qu]
   cases hx:x==n with
   | true =>
     have e:x=n:=eq_of_beq hx
     subst e
     by_cases hc:(k==NameKind.free&&env.scope.kind == .function&&env.kindOf x==some .cell)=true
     · simp only[hc,Rt,Ed,Rh,Wq]
     · simp only[hc,Rp,Ed,Rh,Wq,Wg]
   | false =>
     by_cases hc:(k==NameKind.free&&env.scope.kind == .function&&env.kindOf n==some .cell)=true
     · simp only[hc,Rt,Ed,hx];exact ih
     · simp only[hc,Rp,Ed,hx,Wg];exact ih
def bV (env:Env):List (Str×NameKind)->List (Str×Addr)->List (Str×Addr)
 | [],j7=>j7
 | (n,k)::r,j7=>bV env r (if k = .free then(match env.cells.lookup n with | some c=>(n,c)::j7 | none=>j7) else j7)
def zPY {env:Env}{scope:Scope}(h:∀p∈scope.names,p.2 = .free->∃c,env.cells.lookup p.1=some c):closureFor scope env=pure (bV env scope.names []):=by
 have gen:∀(l:List (Str×NameKind)) (j7:List (Str×Addr)),(∀p∈l,p.2 = .free->∃c,env.cells.lookup p.1=some c) ->
     (forIn l j7 fun x r=>if (x.2==NameKind.free)=true then(do let a ←cellOf env x.1;pure (ForInStep.yield ((x.1,a)::r))) else pure (ForInStep.yield r):Sem (List (Str×Addr)))=pure (bV env l j7):=by
   intro l
   induction l with
   | nil=>intro j7 _;rfl
   | cons p r ih =>
     intro j7 hp
     obtain⟨n,k⟩:=p
     rw[Ys]
     have hr:∀p∈r,p.2 = .free->∃c,env.cells.lookup p.1=some c:=fun p hm=>hp p (Qa _ hm)
     by_cases hk:k = .free
     · subst hk
       obtain⟨c,hc⟩:=hp (n,.free) Qf rfl
       have e:cellOf env n=pure c:=by unfold cellOf;rw[hc]
       simp only[Rh,Rt,e]
       show(forIn r ((n,c)::j7) _:Sem _)=_
       rw[ih _ hr]
       show _=(pure (bV env r (if NameKind.free=NameKind.free then(match env.cells.lookup n with | some c=>(n,c)::j7 | none=>j7) else j7)):Sem _)
       rw[Qv rfl,hc]
     · have hb:(k==NameKind.free)=false:=by simpa using hk
       simp only[hb,Wg,Rp]
       show(forIn r j7 _:Sem _)=_
       rw[ih _ hr]
       show _=(pure (bV env r (if k=NameKind.free then(match env.cells.lookup n with | some c=>(n,c)::j7 | none=>j7) else j7)):Sem _)
       rw[Wh hk]
 have q:=gen scope.names [] h
 simp only[closureFor]
 rw[q]
 rfl
def zWP {env:Env}:∀(l:List (Str×NameKind)) (j7:List (Str×Addr)),(∀x c,j7.lookup x=some c->env.cells.lookup x=some c)->∀x c,(bV env l j7).lookup x=some c->env.cells.lookup x=some c
 | [],_,h=>h
 | (n,k)::r,j7,h=>by
   refine zWP r _ ?_
   by_cases hk:k = .free
   · rw[Qv hk]
     cases e:env.cells.lookup n with
     | none=>exact h
     | some c =>
       intro x c' hx
       rw[Ed] at hx
       cases q:x==n with
       | true=>rw[q] at hx;cases hx;rw[eq_of_beq q];exact e
       | false=>rw[q] at hx;exact h x c' hx
   · rw[Wh hk];exact h
def zSh {env:Env}:∀(l:List (Str×NameKind)) (j7:List (Str×Addr)) (x:Str),(j7.lookup x).isSome=true->((bV env l j7).lookup x).isSome=true
 | [],_,_,h=>h
 | (n,k)::r,j7,x,h=>by
   refine zSh r _ x ?_
   by_cases hk:k = .free
   · rw[Qv hk]
     cases e:env.cells.lookup n with
     | none=>exact h
     | some c =>
       show(List.lookup x ((n,c)::j7)).isSome=true
       rw[Ed]
       cases q:x==n with
       | true=>rfl
       | false=>exact h
   · rw[Wh hk];exact h
def zWY {env:Env}:∀(l:List (Str×NameKind)) (j7:List (Str×Addr)),(∀p∈l,p.2 = .free->∃c,env.cells.lookup p.1=some c)->∀x,(x,NameKind.free)∈l->((bV env l j7).lookup x).isSome=true
 | [],_,_,_,h=>nomatch h
 | (n,k)::r,j7,hp,x,h=>by
   rcases Qh.mp h with e | h
   · cases e
     obtain⟨c,hc⟩:=hp (n,.free) Qf rfl
     show((bV env r (if NameKind.free=NameKind.free then(match env.cells.lookup n with | some c=>(n,c)::j7 | none=>j7) else j7)).lookup n).isSome=true
     rw[Qv rfl,hc]
     exact zSh r _ n (by simp[Ed])
   · exact zWY r _ (fun p hm=>hp p (Qa _ hm)) x h
def fW (sc scope:Scope)(N tgs j4:List Str)(js:List Nat):Bool :=
 scope.kind == .function&&scope.names.all (fun p=>p.2 != .cell&&(p.2 != .free||sc.names.lookup p.1==some .cell||sc.names.lookup p.1==some .free)&&(p.2 != .local||scope.names.lookup p.1==some .local))
   && tgs.all (fun x=>scope.names.lookup x==some .local)&&j4.all (fun x=>scope.names.lookup x==some .free)&&(js.map fun j=>N[j]?)==j4.map some
def upC (m:Nat)(js:List Nat)(σ:St):St:=List.replicate m none++js.map fun j=>(σ[j]?).join
def tK (X:Cx)(Nc:List Str)(scope:Scope)(C:Addr)(s₀:Shared)(H₀:Hp)(fp:List Addr):Cx where
 prog:=X.prog
 w:=X.w
 K:=X.K
 mg:=X.mg
 base:=X.base
 A:=X.A
 N:=Nc
 s₀:=s₀
 H₀:=H₀
 env:=compEnvC scope (bV X.env scope.names []) C X.env
 outer:=X.stack
 stack:=X.stack
 ex:=fp
 fn:=fun _=>false
 calm:=X.calm
 pn:=[]
 xe:=F0
def zQs (X:Cx)(ifs:List Expr)(t:TT):Prop :=
 ∀(Z:ji) (s:Shared) (σ:St) (H:Hp) (Q:Bool->Hp->Prop),Inv X Z σ H s->t σ H Q ->
   wpAny (model X.prog X.w) X.A (forIn ifs true fun c r=>if r=true then do let ok ←isTrue c X.env (eval c X.env);pure (ForInStep.yield ok) else pure (ForInStep.yield r)) (TP X Z σ Q) X.xe s
def zF2:TT:=fun _ H Q=>Q true H
def zMw {X:Cx}:zQs X [] zF2:=fun _ _ _ H _ I h=>wpAny_tests_nil ⟨H,I,h⟩
def zLN {X:Cx}{c:Expr}{t:TT}(h:PT X c t):zQs X [c] t:=fun Z s σ H Q I hq=>wpAny_tests_one (h Z s σ H Q I hq)
def zGN (J:It)(m:Nat)(js:List Nat)(g:TG)(tc:TT)(te:TE)(σ:St)(H1:Hp)(Q:VK):Prop:=∀D,H1 D=none ->
 ∃W:Nat->Nat->St->Hp->Prop,(∃k,W 0 k (upC m js σ) (upd H1 D (.lst [])))/\∀i k σ' H',W i k σ' H' ->
   (J.stop i H'/\Q (.ref D) H')∨(J.go i H'/\∀x H2,J.yld i H' x H2->g x σ' H2 fun σ2 H3=>tc σ2 H3 fun b H4=>if b=true then te σ2 H4 fun y H5=>∃ys k',H5 D=some (.lst ys)/\ys.length < sizeLine/\k' < k/\W (i+1) k' σ2 (upd H5 D (.lst (ys++[y])))
     else ∃k',k' < k/\W (i+1) k' σ2 H4)
section
variable {X:Cx} {Z:ji} {σ:St} {H2:Hp} {s2:Shared} {tg elt iter:Expr} {ifs:List Expr} {scope sc:Scope} {pos:Pos} {tgs j4:List Str} {js:List Nat} {g:TG} {te:TE} {tc:TT}
def qS {N:List Str}(h:fW sc scope N tgs j4 js=true):scope.kind = .function/\(∀p∈scope.names,p.2 ≠ .cell)/\(∀p∈scope.names,p.2 = .free->sc.names.lookup p.1=some .cell∨sc.names.lookup p.1=some .free) /\
   (∀p∈scope.names,p.2 = .local->scope.names.lookup p.1=some .local)/\(∀x∈tgs,scope.names.lookup x=some .local)/\(∀x∈j4,scope.names.lookup x=some .free)/\(js.map fun j=>N[j]?)=j4.map some:=by
 unfold fW at h
 simp only[Qc,Qn,bne_iff_ne,ne_eq,Tl,Uk] at h
 obtain⟨⟨⟨⟨h1,h2⟩,h3⟩,h4⟩,h5⟩:=h
 refine⟨h1,fun p hp=>(h2 p hp).1.1,fun p hp e=>?_,fun p hp e=>?_,h3,h4,h5⟩
 · rcases(h2 p hp).1.2 with(q | q) | q
   · exact absurd e q
   · exact .inl q
   · exact .inr q
 · rcases(h2 p hp).2 with q | q
   · exact absurd e q
   · exact q
def zQ2 {C:Addr}{s3:Shared}{H3:Hp}{h4:Heap}{tk:Nat}{fp:List Addr}{m0:Str->Option Value}(I:Inv X Z σ H3 s3)(f3:∀b∈fp,lD X Z H3 b)(ofp:∀b∈fp,b < s3.heap.objs.size)
   (hsc:X.env.scope=sc) (hok:fW sc scope X.N tgs j4 js=true) (hC:C=s3.heap.objs.size) (hk:∀b o,s3.heap.get? b=some o->h4.get? b=some o) (hn:h4.Ns C m0) :
   Inv (tK X (tgs++j4) scope C s3 H3 fp) [] (upC tgs.length js σ) H3 { s3 with heap:=h4,toks:=tk }:=by
 obtain⟨k1,k2,k3,k4,k5,k6,k7⟩:=qS hok
 have hcl:∀x c,(bV X.env scope.names []).lookup x=some c->X.env.cells.lookup x=some c:=zWP scope.names [] (fun _ _ z=>nomatch z)
 have hfr:∀p∈scope.names,p.2 = .free->∃c,X.env.cells.lookup p.1=some c:=fun p hp e=>I.ok.has p.1 (by
   show X.env.scope.names.lookup p.1=_∨X.env.scope.names.lookup p.1=_
   rw[hsc];exact k3 p hp e)
 have rl:∀x,(relabel scope X.env).names.lookup x=(scope.names.lookup x).map fun k=>if (k==NameKind.free&&X.env.scope.kind == .function&&X.env.kindOf x==some .cell)=true then NameKind.cell else k:=fun x=>eF x scope.names
 have hasc:∀x,((relabel scope X.env).names.lookup x=some .cell∨(relabel scope X.env).names.lookup x=some .free)->∃c,(bV X.env scope.names []).lookup x=some c:=fun x hx=>by
   rw[rl x] at hx
   cases e:scope.names.lookup x with
   | none=>rw[e] at hx;simp at hx
   | some k =>
     have hm:=Rr e
     have hkf:k = .free:=by
       rw[e] at hx
       simp only[Wq,Option.some.injEq] at hx
       by_cases q:k = .free
       · exact q
       · have hb:(k==NameKind.free)=false:=by simpa using q
         rw[hb] at hx
         simp only[Bool.false_and,Wg,Rp] at hx
         rcases hx with z | z
         · exact absurd z (k2 _ hm)
         · exact z
     subst hkf
     exact Eb.mp (zWY scope.names [] hfr x hm)
 have cfr:∀x c,X.env.cells.lookup x=some c->c≠C:=fun x c e z=>by
   obtain⟨v,q⟩:=I.cell x c e
   exact absurd (z ▸ q.lt) (by rw[hC];exact Wk _)
 have base0:∀b o,X.base.get? b=some o->b∉fp:=fun b o e hb=>by
   obtain⟨_,_,_,q,_⟩:=f3 b hb
   rcases q with q | q
   · exact I.ok.noex b o e q
   · exact absurd (Wp (Qs (I.ok.bs b o e).1) q) (Wk _)
 have stk:∀b∈fp,b∉frs X.stack:=fun b hb z=>by
   obtain⟨_,q1,q2,_⟩:=f3 b hb
   rcases Qh.mp (I.stkSub b z) with e | e
   · exact q1 e
   · exact q2 e
 refine⟨⟨I.ok.mod,k1,I.ok.glob,I.ok.blt,by rw[hC];exact Ql _,fun x y c e1 e2=>I.ok.inj x y c (hcl x c e1) (hcl y c e2),hasc,(fun x c z _=>nomatch z),I.ok.hd,I.ok.frames,.inl rfl,
     fun b hb=>⟨fun z=>absurd (ofp b hb) (by rw[show b=C from z,hC];exact Wk _),fun x c e=>(f3 b hb).2.2.2.2.1 x c (hcl x c e)⟩,
     fun b o e=>I.bs b o e,Ep I.ok.bsz I.sz,base0,stk,I.stack,I.stkFree⟩,
   rfl,I.bare,Un.kept hk,⟨m0,hn,fun i x v e1 e2 e3=>?_⟩,fun x c e=>?_,I.hok.fresh (by rw[show(tK X (tgs++j4) scope C s3 H3 fp).env.locals=C from rfl,hC];exact Ql _),fun x c e=>I.freeC x c (hcl x c e),
   fun p hp=>absurd (show p∈([]:ji) from hp) jd,I.hok.kept hk,?_⟩
 · -- a name's value
   have hi:tgs.length<=i:=by
     refine Nat.le_of_not_lt fun hlt=>?_
     have e2:(upC tgs.length js σ)[i]?=some (some v):=e2
     unfold upC at e2
     rw[Es (by simpa using hlt),Ro] at e2
     split at e2<;>cases e2
   have e2:(upC tgs.length js σ)[i]?=some (some v):=e2
   unfold upC at e2
   rw[Ew (by simpa using hi),En,Wa] at e2
   have e1:(tgs++j4)[i]?=some x:=e1
   rw[Ew hi] at e1
   obtain⟨j,ej,e2⟩:=Qy.mp e2
   have hj:X.N[j]?=some x:=by
     have q:=Eo (fun l=>l[i - tgs.length]?) k7
     simp only[Wa,ej,e1,Wq] at q
     exact Eg q
   have hσ:σ[j]?=some (some v):=by
     cases q:σ[j]? with
     | none=>rw[q] at e2;cases e2
     | some o=>rw[q] at e2;exact Eo some e2
   have hf:scope.names.lookup x=some .free:=k6 x (Ta e1)
   have hX:X.env.kindOf x=some .cell∨X.env.kindOf x=some .free:=by
     show X.env.scope.names.lookup x=_∨X.env.scope.names.lookup x=_
     rw[hsc];exact k3 _ (Rr hf) rfl
   obtain⟨m,_,hl⟩:=I.loc
   obtain⟨u,r,l⟩:=hl j x v hj hσ (by
     rcases hX with q | q
     · exact .inr (.inl q)
     · exact .inr (.inr q))
   refine⟨u,r,.inr ⟨?_,?_⟩⟩
   · show(relabel scope X.env).names.lookup x=_∨(relabel scope X.env).names.lookup x=_
     rw[rl x,hf]
     by_cases q:(NameKind.free==NameKind.free&&X.env.scope.kind == .function&&X.env.kindOf x==some .cell)=true
     · exact .inl (by rw[Wq,Qv q])
     · exact .inr (by rw[Wq,Wh q])
   · rcases l with⟨q,_⟩ | ⟨_,c,ec,hcell⟩
     · rcases hX with z | z<;>(rw[z] at q;cases q)
     · obtain⟨c',ec'⟩:=Eb.mp (zWY scope.names [] hfr x (Rr hf))
       have e:c'=c:=Eg ((hcl x c' ec').symm.trans ec)
       subst e
       obtain⟨o,ho,hd⟩:=hcell
       exact⟨c',ec',o,hk _ _ ho,hd⟩
 · obtain⟨v,o,ho,hd⟩:=I.cell x c (hcl x c e)
   exact⟨v,o,hk _ _ ho,hd⟩
 · show(upC tgs.length js σ).length=(tgs++j4).length
   have q:=Eo List.length k7
   rw[Qt,Qt] at q
   unfold upC
   rw[Qk,En,Qt,Qk,q]
def zWH {J:It}{fp:List Addr}{it:Addr}{tn:Nat->Heap->Prop}{RR:Value->Addr->Result->Shared->Prop}{E:jh}{Q:VK}
   (I2:Inv X Z σ H2 s2) (T:Turn X.prog X.w X.K tg J fp it tn) (st2:tn 0 s2.heap) (f2:∀b∈fp,lD X Z H2 b) (hc:X.calm=true)
   (hsc:X.env.scope=sc) (hok:fW sc scope X.N tgs j4 js=true)
   (hg:∀C s₀ H₀ fp,PG (tK X (tgs++j4) scope C s₀ H₀ fp) tg g) (hi:∀C s₀ H₀ fp,zQs (tK X (tgs++j4) scope C s₀ H₀ fp) ifs tc) (he:∀C s₀ H₀ fp,PE (tK X (tgs++j4) scope C s₀ H₀ fp) elt te)
   (hw:zGN J tgs.length js g tc te σ H2 Q)
   (hRR:∀D C s' H' m,Inv X Z σ H' s'->Q (.ref D) H'->lD X Z H' C->s'.heap.Ns C m->RR (.ref D) C (.ok .next) s') :
   wpAny (model X.prog X.w) X.A (newList []) (fun j7 s₃ => wpAny (model X.prog X.w) X.A (newFunctionEnv scope X.env.globals (bV X.env scope.names []) [] X.env.qual none .none (some X.env)) (fun cenv s₄ =>
     codeAny (model X.prog X.w) X.A (.compStart (.ListComp elt [⟨tg,iter,ifs,0⟩] scope pos) 0 (.ref it) j7 { cenv with scope:=relabel scope X.env }) (RR j7 cenv.locals) s₄) E s₃) E s2:=by
 obtain⟨k1,k2,k3,k4,k5,k6,k7⟩:=qS hok
 refine Em (wpAny_newFunctionEnv k2 (by intro y hy;simp at hy) (fun h4 hn4 hs4=>?_) k1)
 dsimp only at hn4 hs4 ⊢
 generalize hh3:s2.heap.push { cls:=.type "list",dict:=none,data:=.seq ([]:jj).toArray }=h3 at hn4 hs4 ⊢
 generalize hD:s2.heap.objs.size=D
 have hDn:H2 D=none:=by rw[←hD];exact I2.fresh
 have hsz3:h3.objs.size=D+1:=by rw[←hh3,Tt,hD]
 have keep23:∀b o,s2.heap.get? b=some o->h3.get? b=some o:=fun b o e=>by rw[←hh3];exact Qr _ e
 have keep34:∀b o,h3.get? b=some o->h4.get? b=some o:=fun b o e=>hs4.extBut b o (Er (Qs e)) (Qr _ e)
 have I3:Inv X Z σ (upd H2 D (.lst [])) { s2 with heap:=h3 }:=by
   have q:=I2.lnew (j6:=[]) (ys:=[]) (t':=s2.toks) .nil (Th _)
   rw[hD] at q
   rw[←hh3]
   exact q
 have nfp:∀b∈fp,b≠D:=fun b hb z=>by
   obtain⟨o,e,_⟩:=T.obj 0 _ st2 b hb
   exact absurd (Qs e) (by rw[z,hD];exact Wk _)
 have f3:∀b∈fp,lD X Z (upd H2 D (.lst [])) b:=fun b hb=>by
   obtain⟨q0,q⟩:=f2 b hb
   exact⟨by rw[yL (nfp b hb)];exact q0,q⟩
 have ofp:∀b∈fp,b < h3.objs.size:=fun b hb=>by
   obtain⟨o,e,_⟩:=T.obj 0 _ st2 b hb
   exact Qs (keep23 b o e)
 obtain⟨W,⟨n0,w0⟩,turn⟩:=hw D hDn
 have loop:∀s4:Shared,s4={ s2 with heap:=h4,toks:=s2.toks+([]:List (Str×Value)).length } ->
     codeAny (model X.prog X.w) X.A (.compLoop (.ListComp elt [⟨tg,iter,ifs,0⟩] scope pos) 0 (.ref it) (.ref D) (compEnvC scope (bV X.env scope.names []) h3.objs.size X.env)) (RR (.ref D) h3.objs.size) s4:=by
   rintro s4 rfl
   generalize hX':tK X (tgs++j4) scope h3.objs.size { s2 with heap:=h3 } (upd H2 D (.lst [])) fp=X'
   have I4:Inv X' [] (upC tgs.length js σ) (upd H2 D (.lst [])) { s2 with heap:=h4,toks:=s2.toks+([]:List (Str×Value)).length }:=by
     rw[←hX']
     exact zQ2 (s3:={ s2 with heap:=h3 }) I3 f3 ofp hsc hok rfl keep34 hn4
   have eP:X'.prog=X.prog:=by rw[←hX'];rfl
   have eW:X'.w=X.w:=by rw[←hX'];rfl
   have eK:X'.K=X.K:=by rw[←hX'];rfl
   have eA:X'.A=X.A:=by rw[←hX'];rfl
   have eC:X'.calm=true:=by rw[←hX'];exact hc
   have T':Turn X'.prog X'.w X'.K tg J fp it tn:=by rw[eP,eW,eK];exact T
   have eE:X'.env=compEnvC scope (bV X.env scope.names []) h3.objs.size X.env:=by rw[←hX'];rfl
   have eX:X'.xe=F0:=by rw[←hX'];rfl
   have stat:∀ {H':Hp},(∀b∈fp,H' b=none)->∀b∈fp,lD X' [] H' b:=fun {H'} hn b hb=>by
     obtain⟨_,q1,q2,q3,q4,q5⟩:=f3 b hb
     rw[←hX']
     refine⟨hn b hb,?_,?_,.inl hb,fun x c e=>?_,fun p hp=>absurd (show p∈([]:ji) from hp) jd⟩
     · exact fun z=>absurd (ofp b hb) (by rw[show b=h3.objs.size from z];exact Wk _)
     · intro z
       rcases Qh.mp (I3.stkSub b z) with e | e
       · exact q1 e
       · exact q2 e
     · exact q4 x c (zWP scope.names [] (fun _ _ z=>nomatch z) x c e)
   have hgX:PG X' tg g:=by rw[←hX'];exact hg _ _ _ _
   have hiX:zQs X' ifs tc:=by rw[←hX'];exact hi _ _ _ _
   have heX:PE X' elt te:=by rw[←hX'];exact he _ _ _ _
   refine zX6 (fun n s'=>∃i σ' H',Inv X' [] σ' H' s'/\tn i s'.heap/\(∀b∈fp,H' b=none)/\W i n σ' H') ?_ n0 ⟨0,_,_,I4,T.keep 0 _ _ st2 (fun b _ o e=>keep34 b o (keep23 b o e)),fun b hb=>(f3 b hb).1,w0⟩
   rintro n s5 ⟨i,σ5,H5,I5,st5,fr5,w5⟩
   rw[←eP,←eW,←eE,←eA]
   rcases turn i n σ5 H5 w5 with⟨stop,qn⟩ | ⟨go,step⟩
   · refine thn (T'.done X' rfl rfl rfl eC i [] s5 σ5 H5 F0 I5 (stat fr5) st5 stop) fun r s6 ⟨hr,I6⟩=>?_
     subst hr
     have un:Un (frs X.stack) fp H2 H5 s2.heap s6.heap:=by
       have u1:Un (frs X.stack) fp H2 (upd H2 D (.lst [])) s2.heap h3:=Un.laid keep23 (Ik hD) hDn
       have u2:=I6.base
       rw[←hX'] at u2
       exact u1.trans u2
     have hpx:HOk X.prog X.w H5 s6.heap:=by have q:=I6.hok;rw[eP,eW] at q;exact q
     have hos:s6.os=s2.os:=by have q:=I6.os;rw[←hX'] at q;exact q
     have IX:Inv X Z σ H5 s6:=I2.call' (ch:=fp) hos un hpx I6.bare fun b hb=>⟨(f2 b hb).2.2.2.1,(f2 b hb).2.1,(f2 b hb).2.2.2.2.1,(f2 b hb).2.2.2.2.2⟩
     obtain⟨m,hm,_⟩:=I6.loc
     have hloc:X'.env.locals=h3.objs.size:=by rw[eE];rfl
     rw[hloc] at hm
     have hle:s2.heap.objs.size<=h3.objs.size:=by rw[hD,hsz3];exact Yb _
     refine hRR D h3.objs.size s6 H5 m IX qn (I2.fpOk hle ?_) hm
     have q:=I6.free
     rw[hloc] at q
     exact q
   · refine thn (T'.item X' rfl rfl rfl eC i [] s5 σ5 H5 F0 I5 (stat fr5) st5 go) fun r s6 ⟨u,hr,h6⟩=>?_
     subst hr
     refine thn h6 fun _ s7 ⟨x,H7,I7,r7,y7,st7,fr7⟩=>?_
     have I7':=I7.pinned (stat fr7) (T.obj _ _ st7)
     have xe0:X'.xe=F0:=eX
     have conv:∀ {α:Type} {t:Sem α} {Q:α->Shared->Prop} {s:Shared},wpAny (model X'.prog X'.w) X'.A t Q X'.xe s->wpAny (model X'.prog X'.w) X'.A t Q F0 s:=fun h=>by rw[xe0] at h;exact h
     refine thn (conv (hgX _ s7 σ5 H7 x u _ I7' r7 (step x H7 y7))) fun _ s8 ⟨σ8,H8,I8,q8⟩=>?_
     refine thn (conv (hiX _ s8 σ8 H8 _ I8 q8)) fun ok s9 ⟨H9,I9,q9⟩=>?_
     have again:∀ {σz:St} {Hz:Hp} {sz:Shared} {k':Nat},Inv X' ([]++zX4 fp s7.heap) σz Hz sz->k' < n->W (i+1) k' σz Hz->∃m,m < n/\∃i σ' H',Inv X' [] σ' H' sz/\tn i sz.heap/\(∀b∈fp,H' b=none)/\W i m σ' H':=fun {σz Hz sz k'} Iz hk wz=>by
       refine⟨k',hk,i+1,σz,Hz,Iz.unpinned,T.keep _ _ _ st7 fun b hb o e=>(Iz.pin (b,o) (Ea _ (Ea _ (hJ hb e)))).1,fun b hb=>?_,wz⟩
       obtain⟨o,e,d⟩:=T.obj _ _ st7 b hb
       exact(Iz.pin (b,o) (Ea _ (Ea _ (hJ hb e)))).2.1
     cases ok with
     | false =>
       rw[Wh jb] at q9
       rw[Wh jb]
       obtain⟨k',hk,wz⟩:=q9
       exact again I9 hk wz
     | true =>
       rw[Qv rfl] at q9
       rw[Qv rfl]
       refine thn (conv (heX _ s9 σ8 H9 _ I9 q9)) fun v s10 ⟨y,H10,I10,r10,ys,k',hys,hl,hk,wz⟩=>?_
       refine thn (conv (wE (X:=X') _ s10 σ8 H10 (.ref D) [y] (.ref D) [v] (fun z Hz=>W (i+1) k' σ8 Hz) I10 rfl (.cons r10 .nil) ⟨D,ys,y,rfl,rfl,hys,hl,wz⟩)) fun _ s11 ⟨_,H11,I11,_,q11⟩=>?_
       exact again I11 hk q11
 rw[show s2.heap.objs.size=D from hD] at *
 exact codeAny_compStart_list (loop _ rfl) (T.self _ 0 _ _ _ (T.keep 0 _ _ st2 fun b _ o e=>keep34 b o (keep23 b o e)) (loop _ rfl))
def zLW (wi:TI)(m:Nat)(js:List Nat)(g:TG)(tc:TT)(te:TE):TE:=fun σ H Q=>wi σ H fun J H1=>zGN J m js g tc te σ H1 Q
def zWs (ok:X.Ok)(hsc:X.env.scope=sc)(hok:fW sc scope X.N tgs j4 js=true):closureFor scope X.env=pure (bV X.env scope.names []) :=
 zPY fun p hp e=>ok.has p.1 (by
   show X.env.scope.names.lookup p.1=_∨X.env.scope.names.lookup p.1=_
   rw[hsc];exact(qS hok).2.2.1 p hp e)
def zKt (sc:Scope)(tgs j4:List Str)(js:List Nat){wi:TI}(hp:PI X tg iter wi)(hc:X.calm=true)(hsc:X.env.scope=sc)(hok:fW sc scope X.N tgs j4 js=true)
   (hg:∀C s₀ H₀ fp,PG (tK X (tgs++j4) scope C s₀ H₀ fp) tg g) (hi:∀C s₀ H₀ fp,zQs (tK X (tgs++j4) scope C s₀ H₀ fp) ifs tc) (he:∀C s₀ H₀ fp,PE (tK X (tgs++j4) scope C s₀ H₀ fp) elt te)
   (hs:∀x,foldedSetIterable iter X.env x=pure x:=by intro _;rfl) :
   PE X (.ListComp elt [⟨tg,iter,ifs,0⟩] scope pos) (zLW wi tgs.length js g tc te):=by
 intro Z s σ H Q I h
 obtain⟨k1,k2,k3,k4,k5,k6,k7⟩:=qS hok
 rw[eval_ListComp]
 refine wpAny_comprehension_free (use:=none) rfl hs (zWs I.ok hsc hok) k1 k4 (thn (hp Z s σ H _ I h) fun v s1 h1=>thn h1 fun itv s2 h2=>?_)
 obtain⟨it,fp,tn,J,H2,e,I2,T,st2,f2,hw⟩:=h2
 subst e
 refine zWH (RR:=fun j7 C=>compPost (model X.prog X.w) X.A X.xe none (EP X Z σ Q) j7 C) I2 T st2 f2 hc hsc hok hg hi he hw ?_
 intro D C s' H' m I' q fC hn
 refine⟨m,hn,fun h' hs'=>⟨.ref D,H',?_,rfl,q⟩⟩
 obtain⟨c0,c1,c2,c3,c4,c5⟩:=fC
 exact I'.turned (t':=s'.toks) (fun b o hb e=>hs'.extBut b o hb e) c0 c1 c3 c4 c5
def zPB (sc:Scope)(tgs j4:List Str)(js:List Nat){wi:TI}{i:Nat}{x:Str}{pos' spos:Pos}(hN:X.N.Nodup)(hx:X.N[i]?=some x)(hl:X.env.scope.names.lookup x=some .local)
   (hp:PI X tg iter wi) (hc:X.calm=true) (hsc:X.env.scope=sc) (hok:fW sc scope X.N tgs j4 js=true)
   (hg:∀C s₀ H₀ fp,PG (tK X (tgs++j4) scope C s₀ H₀ fp) tg g) (hi:∀C s₀ H₀ fp,zQs (tK X (tgs++j4) scope C s₀ H₀ fp) ifs tc) (he:∀C s₀ H₀ fp,PE (tK X (tgs++j4) scope C s₀ H₀ fp) elt te)
   (hsw:swapsWith (.ListComp elt [⟨tg,iter,ifs,0⟩] scope pos) (some (.Name x pos')) spos.line X.env=pure true:=by with_unfolding_all rfl) (hs:∀x,foldedSetIterable iter X.env x=pure x:=by intro _;rfl) :
   PS X (.Assign [.Name x pos'] (.ListComp elt [⟨tg,iter,ifs,0⟩] scope pos) spos) (zNK (zLW wi tgs.length js g tc te) (zS9 i)):=by
 intro Z s σ H D I h
 obtain⟨k1,k2,k3,k4,k5,k6,k7⟩:=qS hok
 rw[exec_Assign_Name_used _ _ _ _ hsw]
 refine Qe (wpAny_standAt (Qe ?_))
 show wpAny _ X.A (do let _ ←comprehension (.ListComp elt [⟨tg,iter,ifs,0⟩] scope pos) scope X.env _ (newList []) false (eval iter X.env) (some (assign (.Name x pos') X.env))) _ _ s
 refine Qe (Ia (wpAny_comprehension_free (use:=some (assign (.Name x pos') X.env)) (Q:=fun _ s'=>SP X Z D .next s') rfl hs (zWs I.ok hsc hok) k1 k4
   (thn (hp Z s σ H _ I h) fun v s1 h1=>thn h1 fun itv s2 h2=>?_)) (fun _ s' hq=>Qd (Qd hq)) fun _ _ e=>e)
 obtain⟨it,fp,tn,J,H2,e,I2,T,st2,f2,hw⟩:=h2
 subst e
 refine zWH (RR:=fun j7 C=>compPost (model X.prog X.w) X.A X.xe (some (assign (.Name x pos') X.env)) (fun _ s'=>SP X Z D .next s') j7 C) I2 T st2 f2 hc hsc hok hg hi he hw ?_
 intro D' C s' H' m I' q fC hn
 obtain⟨c0,c1,c2,c3,c4,c5⟩:=fC
 show wpAny _ X.A (assign (.Name x pos') X.env (.ref D')) _ _ _
 refine wpAny_assign_Name (zVk (v:=V.ref D') I' hN hx (.inl hl) rfl (fun s3 I3 hb=>?_) (.inr hl))
 obtain⟨a,sb,ha⟩:=hb
 have hCa:C≠a:=by
   rcases ha with z | z
   · rw[z];exact c1
   · exact(c4 x a z).symm
 refine⟨m,hn.sameBut sb hCa,fun h' hs'=>⟨_,H',I3.turned (t':=s3.toks) (fun b o hb e=>hs'.extBut b o hb e) c0 c1 c3 c4 c5,q⟩⟩
end
inductive KT where
 | int (i:Int) | tup (l:List KT)
instance:DecidableEq KT:=fun _ _=>Classical.propDecidable _
def zIS:KT->Int
 | .int i=>hashInt i
 | .tup _=>0
def hK:Nat->KT->Int
 | n+1,.tup ks=>reduceHash (Builtin.Tuple.tupleHashOf (ks.map (hK n)))
 | _,k=>zIS k
def zYx:List KT->List Addr->List Value->List DictEntry
 | k::ks,a::as,u::us=>⟨hK 8 k,.ref a,u⟩::zYx ks as us
 | _,_,_=>[]
def jG (a:Addr)(ks:List KT)(as:List Addr)(vs:List V):Heap->Prop:=fun h =>
 ∃us,Vals vs us/\∃o es ep,h.get? a=some o/\o.ExactDict/\o.data = .dict es ep/\es.toList=zYx ks as us
inductive D where
 | non | bl (b:Bool) | int (i:Int) | str (x:Str) | tup (ds:List D) | lst (ds:List D) | obj (c:Str) (ns:List Str) (ds:List D)
 /-- an exception of an own class -/
 | exc (c:Str) (ns:List Str) (ds:List D)
 deriving Inhabited
def Same.tup {K:jg}{H H':Hp}{a:Addr}{xs:List V}(e:Same H H')(h:SqT K H a xs):SqT K H' a xs:=by
 rcases h with(h | ⟨o,h⟩) | h
 · exact .inl (.inl (e _ _ h))
 · exact .inl (.inr ⟨o,e _ _ h⟩)
 · exact .inr h
def ClsAt (K:jg)(c:Str)(C:Addr):Prop:=PySem.W.nsIn K mainGlobals c=some (some (.ref C))
def ClsAt.one {K:jg}{c:Str}{C C':Addr}(h:ClsAt K c C)(h':ClsAt K c C'):C'=C:=by
 have:=h.symm.trans h'
 cases this;rfl
def Xe (C a:Addr)(od:Option Addr):Heap->Prop:=fun h=>∃fs,h.get? a=some { cls:=.ref C,dict:=od,data:=.fields fs }
def Xd (dx:Addr)(fs:List (Str×V)):Heap->Prop:=fun h=>∃mA,h.Ns1 dx mA/\∀f,RelO (fs.lookup f) (mA f)
def XD (G:Hp):Option Addr->List (Str×V)->Prop
 | none,fs=>fs=[]
 | some dx,fs=>G dx=some (.ext (Xd dx fs))
def XD.mono {G G':Hp}(e:Same G G'):∀ {od:Option Addr} {fs:List (Str×V)},XD G od fs->XD G' od fs
 | none,_,h=>h
 | some _,_,h=>e _ _ h
mutual
def Rep (K:jg)(G:Hp):D->V->Prop
 | .non,v=>v = .non
 | .bl b,v=>v = .bl b
 | .int i,v=>v = .int i
 | .str x,v=>v = .str x
 | .tup ds,v=>∃a vs,v = .ref a/\SqT K G a vs/\Reps K G ds vs
 | .lst ds,v=>∃a vs,v = .ref a/\SqL K G a vs/\Reps K G ds vs
 | .obj c ns ds,v=>∃C a dx vs,ClsAt K c C/\v = .ref a/\G a=some (.ins C dx (ns.zip vs))/\ns.length=ds.length/\Reps K G ds vs
 | .exc c ns ds,v=>∃C a od vs,ClsAt K c C/\v = .ref a/\G a=some (.ext (Xe C a od))/\XD G od (ns.zip vs)/\ns.length=ds.length/\Reps K G ds vs
def Reps (K:jg)(G:Hp):List D->List V->Prop
 | [],vs=>vs=[]
 | d::r,vs=>∃v vr,vs=v::vr/\Rep K G d v/\Reps K G r vr
end
section
variable {K:jg} {G G':Hp}
mutual
theorem Rep.mono (e:Same G G'):∀(d:D) (v:V),Rep K G d v->Rep K G' d v
 | .non,_,h=>by unfold Rep at h ⊢;exact h
 | .bl _,_,h=>by unfold Rep at h ⊢;exact h
 | .int _,_,h=>by unfold Rep at h ⊢;exact h
 | .str _,_,h=>by unfold Rep at h ⊢;exact h
 | .tup ds,_,h=>by
   unfold Rep at h ⊢
   obtain⟨a,vs,h1,h2,h3⟩:=h
   exact⟨a,vs,h1,e.tup h2,Reps.mono e ds vs h3⟩
 | .lst ds,_,h=>by
   unfold Rep at h ⊢
   obtain⟨a,vs,h1,h2,h3⟩:=h
   exact⟨a,vs,h1,e.seq h2,Reps.mono e ds vs h3⟩
 | .obj C ns ds,_,h=>by
   unfold Rep at h ⊢
   obtain⟨C,a,dx,vs,h0,h1,h2,h4,h3⟩:=h
   exact⟨C,a,dx,vs,h0,h1,e _ _ h2,h4,Reps.mono e ds vs h3⟩
 | .exc C ns ds,_,h=>by
   unfold Rep at h ⊢
   obtain⟨C,a,od,vs,h0,h1,h2,h5,h4,h3⟩:=h
   exact⟨C,a,od,vs,h0,h1,e _ _ h2,h5.mono e,h4,Reps.mono e ds vs h3⟩
theorem Reps.mono (e:Same G G'):∀(ds:List D) (vs:List V),Reps K G ds vs->Reps K G' ds vs
 | [],_,h=>by unfold Reps at h ⊢;exact h
 | d::r,_,h=>by
   unfold Reps at h ⊢
   obtain⟨v,vr,h1,h2,h3⟩:=h
   exact⟨v,vr,h1,Rep.mono e d v h2,Reps.mono e r vr h3⟩
end
def tY {v:V}:Rep K G .non v↔v = .non:=by unfold Rep;exact Op
def vU {b:Bool}{v:V}:Rep K G (.bl b) v↔v = .bl b:=by unfold Rep;exact Op
def zD {i:Int}{v:V}:Rep K G (.int i) v↔v = .int i:=by unfold Rep;exact Op
def yG {x:Str}{v:V}:Rep K G (.str x) v↔v = .str x:=by unfold Rep;exact Op
def y0 {ds:List D}{v:V}:Rep K G (.tup ds) v↔∃a vs,v = .ref a/\SqT K G a vs/\Reps K G ds vs:=by
 constructor<;>(intro h;unfold Rep at *;exact h)
def xB {ds:List D}{v:V}:Rep K G (.lst ds) v↔∃a vs,v = .ref a/\SqL K G a vs/\Reps K G ds vs:=by
 constructor<;>(intro h;unfold Rep at *;exact h)
def zZf {c:Str}{ns:List Str}{ds:List D}{v:V}:Rep K G (.obj c ns ds) v↔∃C a dx vs,ClsAt K c C/\v = .ref a/\G a=some (.ins C dx (ns.zip vs))/\ns.length=ds.length/\Reps K G ds vs:=by
 constructor<;>(intro h;unfold Rep at *;exact h)
def zOQ {c:Str}{ns:List Str}{ds:List D}{v:V}:Rep K G (.exc c ns ds) v↔∃C a od vs,ClsAt K c C/\v = .ref a/\G a=some (.ext (Xe C a od))/\XD G od (ns.zip vs)/\ns.length=ds.length/\Reps K G ds vs:=by
 constructor<;>(intro h;unfold Rep at *;exact h)
def yR {vs:List V}:Reps K G [] vs↔vs=[]:=by unfold Reps;exact Op
def zB {d:D}{r:List D}{vs:List V}:Reps K G (d::r) vs↔∃v vr,vs=v::vr/\Rep K G d v/\Reps K G r vr:=by
 rw[Reps]
def Reps.length:∀ {ds:List D} {vs:List V},Reps K G ds vs->ds.length=vs.length
 | [],_,h=>by rw[yR] at h;rw[h];rfl
 | d::r,_,h=>by
   rw[zB] at h
   obtain⟨v,vr,rfl,_,h3⟩:=h
   rw[Qo,Qo,Reps.length h3]
def Reps.get:∀ {ds:List D} {vs:List V} {i:Nat} {d:D},Reps K G ds vs->ds[i]?=some d->∃v,vs[i]?=some v/\Rep K G d v
 | [],_,_,_,_,e=>by simp at e
 | d::r,_,0,_,h,e=>by
   rw[zB] at h
   obtain⟨v,vr,rfl,h2,h3⟩:=h
   simp at e;subst e
   exact⟨v,rfl,h2⟩
 | d::r,_,i+1,_,h,e=>by
   rw[zB] at h
   obtain⟨v,vr,rfl,h2,h3⟩:=h
   obtain⟨u,e1,e2⟩:=Reps.get h3 (by simpa using e)
   exact⟨u,by simpa using e1,e2⟩
def Reps.snoc:∀ {ds:List D} {vs:List V} {d:D} {v:V},Reps K G ds vs->Rep K G d v->Reps K G (ds++[d]) (vs++[v])
 | [],_,d,v,h,r=>by
   rw[yR] at h;subst h
   exact zB.mpr ⟨v,[],rfl,r,yR.mpr rfl⟩
 | e::t,_,d,v,h,r=>by
   rw[zB] at h
   obtain⟨u,vr,rfl,h2,h3⟩:=h
   exact zB.mpr ⟨u,vr++[v],rfl,h2,h3.snoc r⟩
def Reps.append:∀ {ds es:List D} {vs us:List V},Reps K G ds vs->Reps K G es us->Reps K G (ds++es) (vs++us)
 | [],_,_,_,h,r=>by rw[yR] at h;subst h;exact r
 | e::t,_,_,us,h,r=>by
   rw[zB] at h
   obtain⟨u,vr,rfl,h2,h3⟩:=h
   exact zB.mpr ⟨u,vr++us,rfl,h2,h3.append r⟩
def Reps.take:∀ {ds:List D} {vs:List V} (n:Nat),Reps K G ds vs->Reps K G (ds.take n) (vs.take n)
 | _,_,0,_=>by rw[List.take_zero,List.take_zero];exact yR.mpr rfl
 | [],_,_+1,h=>by rw[yR] at h;subst h;exact yR.mpr rfl
 | e::t,_,n+1,h=>by
   rw[zB] at h
   obtain⟨u,vr,rfl,h2,h3⟩:=h
   exact zB.mpr ⟨u,vr.take n,rfl,h2,h3.take n⟩
def Reps.drop:∀ {ds:List D} {vs:List V} (n:Nat),Reps K G ds vs->Reps K G (ds.drop n) (vs.drop n)
 | _,_,0,h=>h
 | [],_,_+1,h=>by rw[yR] at h;subst h;exact yR.mpr rfl
 | e::t,_,n+1,h=>by
   rw[zB] at h
   obtain⟨u,vr,rfl,h2,h3⟩:=h
   exact h3.drop n
def Reps.set:∀ {ds:List D} {vs:List V} {d:D} {v:V} (i:Nat),Reps K G ds vs->Rep K G d v->Reps K G (ds.set i d) (vs.set i v)
 | [],_,_,_,_,h,_=>by rw[yR] at h;subst h;exact yR.mpr rfl
 | e::t,_,d,v,0,h,r=>by
   rw[zB] at h
   obtain⟨u,vr,rfl,h2,h3⟩:=h
   exact zB.mpr ⟨v,vr,rfl,r,h3⟩
 | e::t,_,d,v,i+1,h,r=>by
   rw[zB] at h
   obtain⟨u,vr,rfl,h2,h3⟩:=h
   exact zB.mpr ⟨u,vr.set i v,rfl,h2,h3.set i r⟩
def Reps.erase:∀ {ds:List D} {vs:List V} (i:Nat),Reps K G ds vs->Reps K G (ds.eraseIdx i) (vs.eraseIdx i)
 | [],_,_,h=>by rw[yR] at h;subst h;exact yR.mpr rfl
 | e::t,_,0,h=>by
   rw[zB] at h
   obtain⟨u,vr,rfl,h2,h3⟩:=h
   exact h3
 | e::t,_,i+1,h=>by
   rw[zB] at h
   obtain⟨u,vr,rfl,h2,h3⟩:=h
   exact zB.mpr ⟨u,vr.eraseIdx i,rfl,h2,h3.erase i⟩
end
structure Step (G H G' H':Hp):Prop where
 hh:Same H H'
 gg:Same G G'
 sub:Same G' H'
 new:∀a,H a≠none->G' a=G a
def Step.refl {G H:Hp}(h:Same G H):Step G H G H:=⟨Same.refl _,Same.refl _,h,fun _ _=>rfl⟩
def Step.trans {G H G1 H1 G2 H2:Hp}(a:Step G H G1 H1)(b:Step G1 H1 G2 H2):Step G H G2 H2 :=
 ⟨a.hh.trans b.hh,a.gg.trans b.gg,b.sub,fun c hc=>(b.new c (fun z=>hc (a.hh.free z))).trans (a.new c hc)⟩
def Same.new {H:Hp}{p:Addr}{o:HO}(hp:H p=none):Same H (upd H p o):=fun b u e=>by rw[yL (xH e hp)];exact e
def Step.laid {G H:Hp}{p:Addr}{o:HO}(s:Same G H)(hp:H p=none):Step G H (upd G p o) (upd H p o):=by
 refine⟨Same.new hp,Same.new (s.free hp),fun b u e=>?_,fun a ha=>?_⟩
 · by_cases hb:b=p
   · subst hb;rw[yW] at e ⊢;exact e
   · rw[yL hb] at e ⊢;exact s b u e
 · exact yL (fun z:a=p=>ha (by rw[z];exact hp))
def Step.own {G H:Hp}{p:Addr}{o:HO}(s:Same G H)(hp:H p=none):Step G H G (upd H p o) :=
 ⟨Same.new hp,Same.refl _,s.trans (Same.new hp),fun _ _=>rfl⟩
def Step.frz {G H G' H':Hp}{p:Addr}{o:HO}(s:Step G H G' H')(hp:H p=none)(h':H' p=some o)(g':G' p=none):Step G H (upd G' p o) H':=by
 refine⟨s.hh,s.gg.trans (Same.new g'),fun b u e=>?_,fun a ha=>?_⟩
 · by_cases hb:b=p
   · subst hb;rw[yW] at e;rw[h'];exact e
   · rw[yL hb] at e;exact s.sub b u e
 · rw[yL (fun z:a=p=>ha (by rw[z];exact hp))];exact s.new a ha
inductive B where
 | no | fz (d:D) | ow (ds:List D)
 /-- a dict of j6 own: keys and values -/
 | od (j8:List (D×D))
 deriving Inhabited
def zYS (f:D->Option KT):List D->Option (List KT)
 | []=>some []
 | d::r=>(f d).bind fun k=>(zYS f r).map fun ks=>k::ks
def ktD:Nat->D->Option KT
 | _,.int i=>some (.int i)
 | _,.bl b=>some (.int (if b then 1 else 0))
 | n+1,.tup ds=>(zYS (ktD n) ds).map .tup
 | _,_=>none
inductive ODs (K:jg)(G:Hp):List (D×D)->List KT->List Addr->List V->Prop
 | nil:ODs K G [] [] [] []
 | cons {d e:D} {k:KT} {a:Addr} {v:V} {j8:List (D×D)} {ks:List KT} {as:List Addr} {vs:List V}:ktD 8 d=some k->Rep K G d (.ref a)->Rep K G e v->ODs K G j8 ks as vs->ODs K G ((d,e)::j8) (k::ks) (a::as) (v::vs)
def ODs.mono {K:jg}{G G':Hp}(h:Same G G'):∀ {j8 ks as vs},ODs K G j8 ks as vs->ODs K G' j8 ks as vs
 | _,_,_,_,.nil=>.nil
 | _,_,_,_,.cons h1 h2 h3 h4=>.cons h1 (h2.mono h) (h3.mono h) (ODs.mono h h4)
inductive RB (K:jg)(H0 G H:Hp):Option V->B->Prop where
 | no {o:Option V}:RB K H0 G H o .no
 | fz {v:V} {d:D}:Rep K G d v->RB K H0 G H (some v) (.fz d)
 | ow {a:Addr} {vs:List V} {ds:List D}:H a=some (.lst vs)->G a=none->H0 a=none->Reps K G ds vs->RB K H0 G H (some (.ref a)) (.ow ds)
 | od {a:Addr} {j8:List (D×D)} {ks:List KT} {as:List Addr} {vs:List V}:H a=some (.ext (jG a ks as vs))->G a=none->H0 a=none->ODs K G j8 ks as vs->ks.Nodup->(a==sysModules)=false->RB K H0 G H (some (.ref a)) (.od j8)
structure Good (K:jg)(G0 H0 G H:Hp)(σ:St)(ρ:List B):Prop where
 st:Step G0 H0 G H
 vals:Paired (RB K H0 G H) σ ρ
 apart:∀(i j:Nat) (a:Addr) (ds es:List D),ρ[i]?=some (.ow ds)->ρ[j]?=some (.ow es)->σ[i]?=some (some (.ref a))->σ[j]?=some (some (.ref a))->i=j
def Paired.get {α β:Type}{F:α->β->Prop}:∀ {l:List α} {r:List β} {i:Nat} {b:β},Paired F l r->r[i]?=some b->∃a,l[i]?=some a/\F a b
 | _,_,_,_,.nil,e=>by simp at e
 | _,_,0,_,.cons h _,e=>by simp at e;subst e;exact⟨_,rfl,h⟩
 | _,_,i+1,b,.cons _ t,e=>by
   obtain⟨a,h1,h2⟩:=Paired.get (i:=i) (b:=b) t (by simpa using e)
   exact⟨a,by simpa using h1,h2⟩
def Paired.set {α β:Type}{F:α->β->Prop}{a:α}{b:β}(h:F a b):∀ {l:List α} {r:List β} (i:Nat),Paired F l r->Paired F (l.set i a) (r.set i b)
 | _,_,_,.nil=>.nil
 | _,_,0,.cons _ t=>.cons h t
 | _,_,i+1,.cons q t=>.cons q (Paired.set h i t)
def RB.step {K:jg}{H0 G H G' H':Hp}{o:Option V}{b:B}(r:RB K H0 G H o b)(s:Step G H G' H'):RB K H0 G' H' o b:=by
 cases r with
 | no=>exact .no
 | fz q=>exact .fz (q.mono s.gg)
 | ow h1 h2 h3 h4=>exact .ow (s.hh _ _ h1) ((s.new _ (by rw[h1];exact fun z=>nomatch z)).trans h2) h3 (h4.mono s.gg)
 | od h1 h2 h3 h4 h5 h6=>exact .od (s.hh _ _ h1) ((s.new _ (by rw[h1];exact fun z=>nomatch z)).trans h2) h3 (h4.mono s.gg) h5 h6
def Good.step {K:jg}{G0 H0 G H G' H':Hp}{σ:St}{ρ:List B}(g:Good K G0 H0 G H σ ρ)(s:Step G H G' H'):Good K G0 H0 G' H' σ ρ :=
 ⟨g.st.trans s,Paired.mapP g.vals fun _ _ r=>r.step s,g.apart⟩
def Good.sub {K:jg}{G0 H0 G H:Hp}{σ:St}{ρ:List B}(g:Good K G0 H0 G H σ ρ):Same G H:=g.st.sub
abbrev Ef:=List B->Option D
def tF (K:jg)(f:Ef):TE:=fun σ H Q=>∃G0 H0 G ρ d,Good K G0 H0 G H σ ρ/\f ρ=some d/\∀v H' G',Step G H G' H'->Rep K G' d v->Q v H'
def PF (X:Cx)(e:Expr)(f:Ef):Prop:=PE X e (tF X.K f)
def PE.to {X:Cx}{e:Expr}{t:TE}{f:Ef}(h:PE X e t)(imp:∀σ H Q,tF X.K f σ H Q->t σ H Q):PF X e f:=fun Z s σ H Q I q=>h Z s σ H Q I (imp σ H Q q)
abbrev Lf:=List B->Option (List D)
def tFr (K:jg)(f:Lf):TE:=fun σ H Q=>∃G0 H0 G ρ ds,Good K G0 H0 G H σ ρ/\f ρ=some ds/\∀a vs H' G',Step G H G' H'->H a=none->H' a=some (.lst vs)->G' a=none->Reps K G' ds vs->Q (.ref a) H'
def PFr (X:Cx)(e:Expr)(f:Lf):Prop:=PE X e (tFr X.K f)
def PE.toR {X:Cx}{e:Expr}{t:TE}{f:Lf}(h:PE X e t)(imp:∀σ H Q,tFr X.K f σ H Q->t σ H Q):PFr X e f:=fun Z s σ H Q I q=>h Z s σ H Q I (imp σ H Q q)
def eL (f:Lf):Ef:=fun ρ=>(f ρ).map .lst
def vT {X:Cx}{e:Expr}{f:Lf}(h:PFr X e f):PF X e (eL f):=by
 refine PE.to h ?_
 rintro σ H Q ⟨G0,H0,G,ρ,d,j2,hf,k⟩
 unfold eL at hf
 obtain⟨ds,h1,rfl⟩:=Qy.mp hf
 refine⟨G0,H0,G,ρ,ds,j2,h1,fun a vs H' G' s hn ha ga rs=>?_⟩
 exact k _ _ (upd G' a (.lst vs)) (s.frz hn ha ga) (xB.mpr ⟨a,vs,rfl,.of yW,rs.mono (Same.new ga)⟩)
abbrev Tf:=List B->Option Bool
def tFT (K:jg)(f:Tf):TT:=fun σ H Q=>∃G0 H0 G ρ b,Good K G0 H0 G H σ ρ/\f ρ=some b/\∀H' G',Step G H G' H'->Q b H'
def PFT (X:Cx)(e:Expr)(f:Tf):Prop:=PT X e (tFT X.K f)
def PT.to {X:Cx}{e:Expr}{t:TT}{f:Tf}(h:PT X e t)(imp:∀σ H Q,tFT X.K f σ H Q->t σ H Q):PFT X e f:=fun Z s σ H Q I q=>h Z s σ H Q I (imp σ H Q q)
def PFW (X:Cx)(e:Expr)(f:Tf):Prop:=PW X e (tFT X.K f)
def tFA (K:jg)(f:Lf):TA:=fun σ H Q=>∃G0 H0 G ρ ds,Good K G0 H0 G H σ ρ/\f ρ=some ds/\∀vs H' G',Step G H G' H'->Reps K G' ds vs->Q vs H'
def PFA (X:Cx)(es:List Expr)(f:Lf):Prop:=PA X es (tFA X.K f)
def PA.to {X:Cx}{es:List Expr}{t:TA}{f:Lf}(h:PA X es t)(imp:∀σ H Q,tFA X.K f σ H Q->t σ H Q):PFA X es f:=fun pos Z s σ H Q I q=>h pos Z s σ H Q I (imp σ H Q q)
section
variable {X:Cx} {a b c e:Expr} {es:List Expr} {fa fb:Ef} {ga:Lf} {ta tb:Tf} {pos:Pos}
def rG (ρ:List B)(i:Nat):Option D:=match ρ[i]? with | some (.fz d)=>some d | _=>none
def eV (i:Nat):Ef:=fun ρ=>rG ρ i
def zNX {K:jg}{G0 H0 G H:Hp}{σ:St}{ρ:List B}{i:Nat}{d:D}(g:Good K G0 H0 G H σ ρ)(h:rG ρ i=some d):∃v,σ[i]?=some (some v)/\Rep K G d v:=by
 unfold rG at h
 split at h
 · rename_i d' e
   cases h
   obtain⟨o,h1,r⟩:=Paired.get g.vals e
   cases r with
   | fz r=>exact⟨_,h1,r⟩
 · cases h
def zU (i:Nat){x:Str}(hN:X.N[i]?=some x:=by rfl)(hv:Vis X.env.scope x:=by first | exact Or.inl rfl | exact Or.inr (Or.inl rfl) | exact Or.inr (Or.inr rfl))(hd:(x==("__debug__":Str))=false:=by decide)(hcd:(x==("__classdict__":Str))=false:=by decide):PF X (.Name x pos) (eV i):=by
 refine PE.to (pX hN hv hd hcd) ?_
 rintro σ H Q ⟨G0,H0,G,ρ,d,j2,hf,k⟩
 obtain⟨v,h1,r⟩:=zNX j2 hf
 exact⟨v,h1,k v H G (.refl j2.sub) r⟩
def eC (d:D):Ef:=fun _=>some d
abbrev jl:Ef:=eC (.int 0)
abbrev jm:Ef:=eC (.int 1)
abbrev jn:Ef:=eC (.int 2)
abbrev jo:Ef:=eC (.int 3)
abbrev jp:Ef:=eC (.int 4)
abbrev jq:Ef:=eC (.int 5)
abbrev jr:Ef:=eC (.int 6)
abbrev jt:Ef:=eC (.int 7)
abbrev ju:Ef:=eC (.int 8)
abbrev jv:=List D->Option D
abbrev jw:=@List.Nodup PySem.Str
def zY1 {v:V}{d:D}(h:PE X e (tC v))(r:∀G,Rep X.K G d v):PF X e (eC d):=by
 refine PE.to h ?_
 rintro σ H Q ⟨G0,H0,G,ρ,d',j2,hf,k⟩
 cases hf
 exact k v H G (.refl j2.sub) (r G)
def zX {i:Int}{j:Nat}:PF X (.Constant (.int i) j pos) (eC (.int i)):=zY1 zIk fun _=>zD.mpr rfl
def oJ {i:Bool}{j:Nat}:PF X (.Constant (.bool i) j pos) (eC (.bl i)):=zY1 zGV fun _=>vU.mpr rfl
def w4 {j:Nat}:PF X (.Constant .none j pos) (eC .non):=zY1 zLY fun _=>tY.mpr rfl
def yV {x:Str}{j:Nat}:PF X (.Constant (.str x) j pos) (eC (.str x)):=zY1 zHh fun _=>yG.mpr rfl
def kO {x y:Str}{t:Tok}(hg:Gl X x)(hm:X.mg x=some (.str y t))(hd:(x==("__debug__":Str))=false:=by decide):PF X (.Name x pos) (eC (.str y)):=zY1 (gM (v:=.str y) hg hm ⟨t,rfl⟩ hd) fun _=>yG.mpr rfl
def gX {x:Str}{i:Int}{t:Tok}(hg:Gl X x)(hm:X.mg x=some (.int i t))(hd:(x==("__debug__":Str))=false:=by decide):PF X (.Name x pos) (eC (.int i)):=zY1 (gM (v:=.int i) hg hm ⟨t,rfl⟩ hd) fun _=>zD.mpr rfl
def eI (C:Int->Int->Bool)(g:Int->Int->Int)(fa fb:Ef):Ef:=fun ρ=>(fa ρ).bind fun x=>(fb ρ).bind fun y=>match x,y with | .int i,.int j=>if C i j then some (.int (g i j)) else none | _,_=>none
def zKM {C:Int->Int->Bool}{g:Int->Int->Int}{ρ:List B}{d:D}(h:eI C g fa fb ρ=some d):∃i j,fa ρ=some (.int i)/\fb ρ=some (.int j)/\C i j=true/\d = .int (g i j):=by
 unfold eI at h
 obtain⟨x,h1,h⟩:=Qw.mp h
 obtain⟨y,h2,h⟩:=Qw.mp h
 cases x with
 | int i =>
   cases y with
   | int j =>
     dsimp only at h
     split at h
     · rename_i hc;cases h;exact⟨i,j,h1,h2,hc,rfl⟩
     · cases h
   | _=>cases h
 | _=>cases h
def zMC {op:Operator}{C:Int->Int->Bool}{P:Int->Int->Prop}{g:Int->Int->Int}(ho:OpR X (binaryOp op) (rI P fun i j=>.int (g i j)))(hP:∀i j,C i j=true->P i j)(ha:PF X a fa)(hb:PF X b fb):PF X (.BinOp a op b pos) (eI C g fa fb):=by
 refine PE.to (zXd ho ha hb) ?_
 rintro σ H Q ⟨G0,H0,G,ρ,d,j2,hf,k⟩
 obtain⟨i,j,h1,h2,hc,rfl⟩:=zKM hf
 refine⟨G0,H0,G,ρ,_,j2,h1,fun x H1 G1 s1 r1=>⟨G0,H0,G1,ρ,_,j2.step s1,h2,fun y H2 G2 s2 r2=>?_⟩⟩
 exact⟨i,j,zD.mp r1,zD.mp r2,hP i j hc,k _ _ G2 (s1.trans s2) (zD.mpr rfl)⟩
def zL5 {op:Operator}{g:Int->Int->Int}(ho:OpR X (binaryOp op) (rI0 fun i j=>.int (g i j)))(ha:PF X a fa)(hb:PF X b fb):PF X (.BinOp a op b pos) (eI (fun _ _=>true) g fa fb):=by
 refine PE.to (zXd ho ha hb) ?_
 rintro σ H Q ⟨G0,H0,G,ρ,d,j2,hf,k⟩
 obtain⟨i,j,h1,h2,hc,rfl⟩:=zKM hf
 refine⟨G0,H0,G,ρ,_,j2,h1,fun x H1 G1 s1 r1=>⟨G0,H0,G1,ρ,_,j2.step s1,h2,fun y H2 G2 s2 r2=>?_⟩⟩
 exact⟨i,j,zD.mp r1,zD.mp r2,k _ _ G2 (s1.trans s2) (zD.mpr rfl)⟩
abbrev uU:=eI (fun _ _=>true) (fun i j=>i+j)
abbrev rB:=eI (fun _ _=>true) (fun i j=>i - j)
def zYK (i j:Int):Bool:=(decide (-(2^64) < i)&&decide (i < 2^64))||(decide (-(2^64) < j)&&decide (j < 2^64))
abbrev rY:=eI zYK (fun i j=>i*j)
def zTj (_ j:Int):Bool:=decide (0 < j)&&decide (j < 1073741824)
abbrev wJ:=eI zTj (fun i j=>i / j)
abbrev xG:=eI (fun _ j=>decide (0 < j)) (fun i j=>i % j)
def zUj (i j:Int):Bool:=decide (0<=j)&&decide (j<=1000000)&&decide (i.natAbs < 2^64)
abbrev zSL:=eI zUj (fun i j=>i^j.toNat)
abbrev zX7:=eI zUj (fun i j=>i*2^j.toNat)
abbrev zTl:=eI (fun _ _=>true) (fun i j=>Builtin.bitXor i j)
def uQ (ha:PF X a fa)(hb:PF X b fb):PF X (.BinOp a .Add b pos) (uU fa fb):=zL5 zLS ha hb
def pN (ha:PF X a fa)(hb:PF X b fb):PF X (.BinOp a .Sub b pos) (rB fa fb):=zL5 zIs ha hb
def uW (ha:PF X a fa)(hb:PF X b fb):PF X (.BinOp a .Mult b pos) (rY fa fb):=zMC zIw (fun i j h=>by
 unfold zYK at h
 simp only[Tl,Qc,Wb] at h
 exact h) ha hb
def xD (ha:PF X a fa)(hb:PF X b fb):PF X (.BinOp a .FloorDiv b pos) (wJ fa fb):=zMC zJw (fun i j h=>by
 unfold zTj at h
 simp only[Qc,Wb] at h
 exact h) ha hb
def yA (ha:PF X a fa)(hb:PF X b fb):PF X (.BinOp a .Mod b pos) (xG fa fb):=zMC zIe (fun i j h=>Wn h) ha hb
def zPx {i j:Int}(h:zUj i j=true):zIC i j:=by
 unfold zUj at h
 simp only[Qc,Wb] at h
 exact⟨h.1.1,h.1.2,h.2⟩
def zQ4 (ha:PF X a fa)(hb:PF X b fb):PF X (.BinOp a .Pow b pos) (zSL fa fb):=zMC zHR (fun i j h=>zPx h) ha hb
def zUk (ha:PF X a fa)(hb:PF X b fb):PF X (.BinOp a .LShift b pos) (zX7 fa fb):=zMC zHX (fun i j h=>zPx h) ha hb
def zTq (ha:PF X a fa)(hb:PF X b fb):PF X (.BinOp a .BitXor b pos) (zTl fa fb):=zL5 zHG ha hb
def zKe (fa:Ef):Ef:=fun ρ=>(fa ρ).bind fun x=>match x with | .int i=>some (.int (-i)) | _=>none
def zKP (ha:PF X a fa):PF X (.UnaryOp .USub a pos) (zKe fa):=by
 refine PE.to (zGy zIy ha) ?_
 rintro σ H Q ⟨G0,H0,G,ρ,d,j2,hf,k⟩
 unfold zKe at hf
 obtain⟨x,h1,hf⟩:=Qw.mp hf
 split at hf
 · rename_i i
   cases hf
   exact⟨G0,H0,G,ρ,_,j2,h1,fun x H1 G1 s1 r1=>⟨i,zD.mp r1,k _ _ G1 s1 (zD.mpr rfl)⟩⟩
 · cases hf
def eB2 (g:D->D->Option Bool)(fa fb:Ef):Tf:=fun ρ=>(fa ρ).bind fun x=>(fb ρ).bind fun y=>g x y
def uZ (t:Tf):Ef:=fun ρ=>(t ρ).map .bl
def gLt:D->D->Option Bool | .int i,.int j=>some (decide (i < j)) | _,_=>none
def gLe:D->D->Option Bool | .int i,.int j=>some (decide (i<=j)) | _,_=>none
def gGt:D->D->Option Bool | .int i,.int j=>some (decide (j < i)) | _,_=>none
def gEq:D->D->Option Bool
 | .int i,.int j=>some (decide (i=j))
 | .bl i,.bl j=>some (decide (i=j))
 | .str i,.str j=>some (decide (i=j))
 | _,_=>none
def gNe (x y:D):Option Bool:=(gEq x y).map (!·)
def CmR (X:Cx)(op:CmpOp)(g:D->D->Option Bool):Prop:=∃r:R2,OpR X (compareOp op) r/\∀(d d':D) (k:Bool) (G H:Hp) (x y:V) (Q:VK),g d d'=some k->Same G H->Rep X.K G d x->Rep X.K G d' y->(∀H' G',Step G H G' H'->Q (.bl k) H')->r x y H Q
def zPQ {op:CmpOp}{p:Int->Int->Bool}{g:D->D->Option Bool}(ho:OpR X (compareOp op) (rI0 fun i j=>.bl (p i j)))(hg:∀d d' k,g d d'=some k->∃i j,d = .int i/\d' = .int j/\k=p i j):CmR X op g:=by
 refine⟨_,ho,fun d d' k G H x y Q h s rx ry q=>?_⟩
 obtain⟨i,j,rfl,rfl,rfl⟩:=hg d d' k h
 exact⟨i,j,zD.mp rx,zD.mp ry,q H G (.refl s)⟩
def zSM:CmR X .Lt gLt:=zPQ zG6 fun d d' k h=>by unfold gLt at h;split at h<;>cases h;exact⟨_,_,rfl,rfl,rfl⟩
def zIK:CmR X .LtE gLe:=zPQ zGO fun d d' k h=>by unfold gLe at h;split at h<;>cases h;exact⟨_,_,rfl,rfl,rfl⟩
def zIU:CmR X .Gt gGt:=zPQ zGm fun d d' k h=>by unfold gGt at h;split at h<;>cases h;exact⟨_,_,rfl,rfl,rfl⟩
def zMl {d d':D}{k:Bool}{K:jg}{G:Hp}{x y:V}(h:gEq d d'=some k)(rx:Rep K G d x)(ry:Rep K G d' y):zIB x y=true/\decide (x=y)=k:=by
 unfold gEq at h
 split at h
 · cases h;rw[zD] at rx ry;subst rx;subst ry;exact⟨rfl,jd⟩
 · cases h;rw[vU] at rx ry;subst rx;subst ry;exact⟨rfl,jd⟩
 · cases h;rw[yG] at rx ry;subst rx;subst ry;exact⟨rfl,jd⟩
 · cases h
def vW:CmR X .Eq gEq:=⟨_,zG5,fun d d' k G H x y Q h s rx ry q=>by
 obtain⟨h1,h2⟩:=zMl h rx ry
 exact⟨h1,by rw[h2];exact q H G (.refl s)⟩⟩
def iY:CmR X .NotEq gNe:=⟨_,zGa,fun d d' k G H x y Q h s rx ry q=>by
 unfold gNe at h
 obtain⟨k',h',rfl⟩:=Qy.mp h
 obtain⟨h1,h2⟩:=zMl h' rx ry
 exact⟨h1,by rw[h2];exact q H G (.refl s)⟩⟩
def zOE {g:D->D->Option Bool}{ρ:List B}{k:Bool}(h:eB2 g fa fb ρ=some k):∃x y,fa ρ=some x/\fb ρ=some y/\g x y=some k:=by
 unfold eB2 at h
 obtain⟨x,h1,h⟩:=Qw.mp h
 obtain⟨y,h2,h⟩:=Qw.mp h
 exact⟨x,y,h1,h2,h⟩
def zW1 {t:Tf}{ρ:List B}{d:D}(h:uZ t ρ=some d):∃k,t ρ=some k/\d = .bl k:=by
 unfold uZ at h
 obtain⟨k,h1,rfl⟩:=Qy.mp h
 exact⟨k,h1,rfl⟩
def qG {op:CmpOp}{g:D->D->Option Bool}(hc:CmR X op g)(ha:PF X a fa)(hb:PF X b fb)(hm:behindInMarks op b=false:=by first | exact zYC _ | (with_unfolding_all rfl)):PF X (.Compare a [op] [b] pos) (uZ (eB2 g fa fb)):=by
 obtain⟨r,ho,hr⟩:=hc
 refine PE.to (zJz ho ha hb hm) ?_
 rintro σ H Q ⟨G0,H0,G,ρ,d,j2,hf,k⟩
 obtain⟨c,hf2,rfl⟩:=zW1 hf
 obtain⟨x,y,h1,h2,h3⟩:=zOE hf2
 refine⟨G0,H0,G,ρ,_,j2,h1,fun u H1 G1 s1 r1=>⟨G0,H0,G1,ρ,_,j2.step s1,h2,fun v H2 G2 s2 r2=>?_⟩⟩
 exact hr x y c G2 H2 u v Q h3 s2.sub (r1.mono s2.gg) r2 fun H' G' s3=>k _ _ G' ((s1.trans s2).trans s3) (vU.mpr rfl)
def zF {op:CmpOp}{g:D->D->Option Bool}(hc:CmR X op g)(ha:PF X a fa)(hb:PF X b fb)(hm:behindInMarks op b=false:=by first | exact zYC _ | (with_unfolding_all rfl)):PFT X (.Compare a [op] [b] pos) (eB2 g fa fb):=by
 obtain⟨r,ho,hr⟩:=hc
 refine PT.to (zZT ho ha hb hm) ?_
 rintro σ H Q ⟨G0,H0,G,ρ,c,j2,hf,k⟩
 obtain⟨x,y,h1,h2,h3⟩:=zOE hf
 refine⟨G0,H0,G,ρ,_,j2,h1,fun u H1 G1 s1 r1=>⟨G0,H0,G1,ρ,_,j2.step s1,h2,fun v H2 G2 s2 r2=>?_⟩⟩
 exact hr x y c G2 H2 u v _ h3 s2.sub (r1.mono s2.gg) r2 fun H' G' s3=>⟨c,rfl,k _ G' ((s1.trans s2).trans s3)⟩
def oH:D->Bool | .non=>true | _=>false
def zVb {K:jg}{G:Hp}{d:D}{v:V}(r:Rep K G d v):decide (v = .non)=oH d:=by
 cases d with
 | non=>rw[tY] at r;subst r;rfl
 | bl b=>rw[vU] at r;subst r;simp[oH]
 | int b=>rw[zD] at r;subst r;simp[oH]
 | str b=>rw[yG] at r;subst r;simp[oH]
 | tup ds=>obtain⟨p,_,rfl,_⟩:=y0.mp r;simp[oH]
 | lst ds=>obtain⟨p,_,rfl,_⟩:=xB.mp r;simp[oH]
 | obj C ns ds=>obtain⟨_,p,_,_,_,rfl,_⟩:=zZf.mp r;simp[oH]
 | exc C ns ds=>obtain⟨_,p,_,_,_,rfl,_⟩:=zOQ.mp r;simp[oH]
def lX:D->D->Option Bool | d,.non=>some (!oH d) | _,_=>none
def zWU:CmR X .IsNot lX:=⟨_,zJg,fun d d' k G H x y Q h s rx ry q=>by
 unfold lX at h
 split at h
 · cases h
   refine⟨tY.mp ry,?_⟩
   rw[zVb rx];exact q H G (.refl s)
 · cases h⟩
def tB1 (f:Ef):Tf:=fun ρ=>(f ρ).bind fun x=>match x with | .bl k=>some k | _=>none
def zTL {f:Ef}{ρ:List B}{k:Bool}(h:tB1 f ρ=some k):f ρ=some (.bl k):=by
 unfold tB1 at h
 obtain⟨x,h1,h⟩:=Qw.mp h
 split at h
 · cases h;exact h1
 · cases h
def wW (ha:PF X a fa)(he:∀whole,isTrue a X.env whole=(do let v ←whole;standAt a.pos;holding [v] (truthy v)):=by intro _;rfl):PFT X a (tB1 fa):=by
 refine PT.to (zIn ha he) ?_
 rintro σ H Q ⟨G0,H0,G,ρ,c,j2,hf,k⟩
 exact⟨G0,H0,G,ρ,_,j2,zTL hf,fun u H1 G1 s1 r1=>⟨c,vU.mp r1,k _ G1 s1⟩⟩
def tU (t:Tf):Tf:=fun ρ=>(t ρ).map (!·)
def nU (t u:Tf):Tf:=fun ρ=>(t ρ).bind fun c=>if c=true then u ρ else some false
def pE (t u:Tf):Tf:=fun ρ=>(t ρ).bind fun c=>if c=true then some true else u ρ
def nG (ha:PFT X a ta):PFT X (.UnaryOp .Not a pos) (tU ta):=by
 refine PT.to (zIu ha) ?_
 rintro σ H Q ⟨G0,H0,G,ρ,c,j2,hf,k⟩
 unfold tU at hf
 obtain⟨c',h1,rfl⟩:=Qy.mp hf
 exact⟨G0,H0,G,ρ,_,j2,h1,fun H1 G1 s1=>k _ G1 s1⟩
def PW.to {t:TT}{f:Tf}(h:PW X e t)(imp:∀σ H Q,tFT X.K f σ H Q->t σ H Q):PFW X e f:=fun whole Z s σ H Q I q=>h whole Z s σ H Q I (imp σ H Q q)
def dB (ha:PFT X a ta):PFW X (.BoolOp .And [a] pos) ta:=zJk ha
def vC (ha:PFT X a ta):PFW X (.BoolOp .Or [a] pos) ta:=zHu ha
def zZM {rest:List Expr}(ha:PFT X a ta)(hb:PFW X (.BoolOp .And (b::rest) pos) tb):PFW X (.BoolOp .And (a::b::rest) pos) (nU ta tb):=by
 refine PW.to (zID ha hb) ?_
 rintro σ H Q ⟨G0,H0,G,ρ,c,j2,hf,k⟩
 unfold nU at hf
 obtain⟨c',h1,hf⟩:=Qw.mp hf
 refine⟨G0,H0,G,ρ,_,j2,h1,fun H1 G1 s1=>?_⟩
 split at hf
 · rename_i h;rw[Qv h];exact⟨G0,H0,G1,ρ,c,j2.step s1,hf,fun H2 G2 s2=>k _ G2 (s1.trans s2)⟩
 · rename_i h;rw[Wh h];cases hf;exact k _ G1 s1
def uA {rest:List Expr}(ha:PFT X a ta)(hb:PFW X (.BoolOp .Or (b::rest) pos) tb):PFW X (.BoolOp .Or (a::b::rest) pos) (pE ta tb):=by
 refine PW.to (zHa ha hb) ?_
 rintro σ H Q ⟨G0,H0,G,ρ,c,j2,hf,k⟩
 unfold pE at hf
 obtain⟨c',h1,hf⟩:=Qw.mp hf
 refine⟨G0,H0,G,ρ,_,j2,h1,fun H1 G1 s1=>?_⟩
 split at hf
 · rename_i h;rw[Qv h];cases hf;exact k _ G1 s1
 · rename_i h;rw[Wh h];exact⟨G0,H0,G1,ρ,c,j2.step s1,hf,fun H2 G2 s2=>k _ G2 (s1.trans s2)⟩
def lC (h:PFW X e ta):PFT X e ta:=h.pt
def zQN {op:BoolOp}(h:PF X a fa):PF X (.BoolOp op [a] pos) fa:=zIi h
def zZa (fa fb:Ef):Ef:=fun ρ=>(tB1 fa ρ).bind fun c=>if c=true then fb ρ else some (.bl false)
def zTm {rest:List Expr}(ha:PF X a fa)(hb:PF X (.BoolOp .And (b::rest) pos) fb):PF X (.BoolOp .And (a::b::rest) pos) (zZa fa fb):=by
 refine PE.to (zIv ha hb) ?_
 rintro σ H Q ⟨G0,H0,G,ρ,d,j2,hf,k⟩
 obtain⟨c,h1,hf⟩:=Qw.mp hf
 refine⟨G0,H0,G,ρ,_,j2,zTL h1,fun u H1 G1 s1 r1=>⟨c,vU.mp r1,?_⟩⟩
 split at hf
 · rename_i h;rw[Qv h];exact⟨G0,H0,G1,ρ,d,j2.step s1,hf,fun v H2 G2 s2 r2=>k _ _ G2 (s1.trans s2) r2⟩
 · rename_i h;rw[Wh h];cases hf;exact k _ _ G1 s1 (vU.mpr rfl)
def zIp (ha:PF X a fa):PF X (.UnaryOp .Not a pos) (uZ (tU (tB1 fa))):=by
 refine PE.to (zIx ha) ?_
 rintro σ H Q ⟨G0,H0,G,ρ,d,j2,hf,k⟩
 obtain⟨c,hf2,rfl⟩:=zW1 hf
 unfold tU at hf2
 obtain⟨c',h1,rfl⟩:=Qy.mp hf2
 exact⟨G0,H0,G,ρ,_,j2,zTL h1,fun u H1 G1 s1 r1=>⟨c',vU.mp r1,k _ _ G1 s1 (vU.mpr rfl)⟩⟩
def eIf (t:Tf)(fa fb:Ef):Ef:=fun ρ=>(t ρ).bind fun c=>if c=true then fa ρ else fb ρ
def zYv (ht:PFT X c ta)(ha:PF X a fa)(hb:PF X b fb):PF X (.IfExp c a b pos) (eIf ta fa fb):=by
 refine PE.to (zLf ht ha hb) ?_
 rintro σ H Q ⟨G0,H0,G,ρ,d,j2,hf,k⟩
 unfold eIf at hf
 obtain⟨c',h1,hf⟩:=Qw.mp hf
 refine⟨G0,H0,G,ρ,_,j2,h1,fun H1 G1 s1=>?_⟩
 split at hf
 · rename_i h;rw[Qv h];exact⟨G0,H0,G1,ρ,d,j2.step s1,hf,fun v H2 G2 s2 r2=>k _ _ G2 (s1.trans s2) r2⟩
 · rename_i h;rw[Wh h];exact⟨G0,H0,G1,ρ,d,j2.step s1,hf,fun v H2 G2 s2 r2=>k _ _ G2 (s1.trans s2) r2⟩
def zR:Lf:=fun _=>some []
def zY (f:Ef)(r:Lf):Lf:=fun ρ=>(f ρ).bind fun d=>(r ρ).map fun ds=>d::ds
def zW:PFA X [] zR:=by
 refine PA.to yO ?_
 rintro σ H Q ⟨G0,H0,G,ρ,d,j2,hf,k⟩
 cases hf
 exact k [] H G (.refl j2.sub) (yR.mpr rfl)
def zYX {f:Ef}{r:Lf}{ρ:List B}{ds:List D}(h:zY f r ρ=some ds):∃d dr,f ρ=some d/\r ρ=some dr/\ds=d::dr:=by
 unfold zY at h
 obtain⟨d,h1,h⟩:=Qw.mp h
 obtain⟨dr,h2,rfl⟩:=Qy.mp h
 exact⟨d,dr,h1,h2,rfl⟩
def zZ (ha:PF X e fa)(hr:PFA X es ga)(hs:starEach (e::es) X.env=(false,eval e X.env)::starEach es X.env:=by rfl):PFA X (e::es) (zY fa ga):=by
 refine PA.to (zE ha hr hs) ?_
 rintro σ H Q ⟨G0,H0,G,ρ,ds,j2,hf,k⟩
 obtain⟨d,dr,h1,h2,rfl⟩:=zYX hf
 refine⟨G0,H0,G,ρ,_,j2,h1,fun u H1 G1 s1 r1=>⟨G0,H0,G1,ρ,_,j2.step s1,h2,fun v H2 G2 s2 r2=>?_⟩⟩
 exact k _ _ G2 (s1.trans s2) (zB.mpr ⟨u,v,rfl,r1.mono s2.gg,r2⟩)
abbrev lim:Nat:=100000
def uY {n:Nat}(h:n<=lim):n < sizeLine:=Nat.lt_of_le_of_lt h jb
def okL (ds:List D):Option (List D):=if ds.length<=lim then some ds else none
def zZH {ds es:List D}(h:okL ds=some es):es=ds/\ds.length<=lim:=by
 unfold okL at h
 split at h
 · rename_i q;cases h;exact⟨rfl,q⟩
 · cases h
def yT (g:Lf):Ef:=fun ρ=>((g ρ).bind okL).map .tup
def zL {k:Nat}(h:PFA X es ga):PF X (.Tuple es k pos) (yT ga):=by
 refine PE.to (zHY h) ?_
 rintro σ H Q ⟨G0,H0,G,ρ,d,j2,hf,k⟩
 unfold yT at hf
 obtain⟨ds,h1,rfl⟩:=Qy.mp hf
 obtain⟨es,h1,h2⟩:=Qw.mp h1
 obtain⟨rfl,h3⟩:=zZH h2
 refine⟨G0,H0,G,ρ,_,j2,h1,fun vs H1 G1 s1 r1=>⟨by rw[←r1.length];exact Et (uY h3),fun p hp=>?_⟩⟩
 have s2:=Step.laid (o:=.tup vs) s1.sub hp
 exact k _ _ _ (s1.trans s2) (y0.mpr ⟨p,vs,rfl,.of yW,r1.mono s2.gg⟩)
def yD (g:Lf):Lf:=fun ρ=>(g ρ).bind okL
def yI (h:PFA X es ga):PFr X (.List es pos) (yD ga):=by
 refine PE.toR (zLk h) ?_
 rintro σ H Q ⟨G0,H0,G,ρ,d,j2,hf,k⟩
 unfold yD at hf
 obtain⟨es,h1,h2⟩:=Qw.mp hf
 obtain⟨rfl,h3⟩:=zZH h2
 refine⟨G0,H0,G,ρ,_,j2,h1,fun vs H1 G1 s1 r1=>⟨by rw[←r1.length];exact Et (uY h3),fun p hp=>?_⟩⟩
 exact k p vs _ G1 (s1.trans (Step.own s1.sub hp)) (s1.hh.free hp) yW (s1.sub.free hp) r1
def atD (x y:D):Option D:=match x,y with
 | .tup ds,.int i=>atI ds i
 | .lst ds,.int i=>atI ds i
 | .str z,.int i=>if z.length<=lim then(atI z.cps.toList i).map fun c=>.str ⟨#[c]⟩ else none
 | _,_=>none
def eIx (fa fb:Ef):Ef:=fun ρ=>(fa ρ).bind fun x=>(fb ρ).bind fun y=>atD x y
def zW9 {K:jg}{G:Hp}{ds:List D}{vs:List V}{i:Int}{d:D}(r:Reps K G ds vs)(h:atI ds i=some d):∃v,atI vs i=some v/\Rep K G d v:=by
 unfold atI at h ⊢
 rw[r.length] at h
 obtain⟨j,h1,h2⟩:=Qw.mp h
 obtain⟨v,h3,h4⟩:=r.get h2
 exact⟨v,by rw[h1];exact h3,h4⟩
def yJ (ha:PF X a fa)(hb:PF X b fb)(hs:cH b:=by exact fun _ _=>rfl):PF X (.Subscript a b pos) (eIx fa fb):=by
 refine PE.to (zRv zI6 ha hb hs) ?_
 rintro σ H Q ⟨G0,H0,G,ρ,d,j2,hf,k⟩
 unfold eIx at hf
 obtain⟨x,h1,hf⟩:=Qw.mp hf
 obtain⟨y,h2,hf⟩:=Qw.mp hf
 refine⟨G0,H0,G,ρ,_,j2,h1,fun u H1 G1 s1 r1=>⟨G0,H0,G1,ρ,_,j2.step s1,h2,fun v H2 G2 s2 r2=>?_⟩⟩
 have r1:=r1.mono s2.gg
 have s3:=s1.trans s2
 unfold atD at hf
 split at hf
 · obtain⟨p,vs,rfl,q,rs⟩:=y0.mp r1
   obtain⟨w,e,rw'⟩:=zW9 rs hf
   exact .inr (.inl ⟨p,vs,_,w,rfl,zD.mp r2,s2.sub.tup q,e,k _ _ G2 s3 rw'⟩)
 · obtain⟨p,vs,rfl,q,rs⟩:=xB.mp r1
   obtain⟨w,e,rw'⟩:=zW9 rs hf
   exact .inl ⟨p,vs,_,w,rfl,zD.mp r2,s2.sub.seq q,e,k _ _ G2 s3 rw'⟩
 · split at hf
   · rename_i hz
     obtain⟨c,e,rfl⟩:=Qy.mp hf
     exact .inr (.inr ⟨_,_,c,yG.mp r1,zD.mp r2,Et (uY hz),e,k _ _ G2 s3 (yG.mpr rfl)⟩)
   · cases hf
 · cases hf
end
inductive Out where
 | nx (ρ:List B) | rt (d:D) | rl (ds:List D) | bk (ρ:List B) | ct (ρ:List B)
 deriving Inhabited
abbrev Sf:=List B->Option Out
def Wants (K:jg)(G0 H0 G:Hp)(D:Ends):Out->Prop
 | .nx ρ'=>∀σ' H' G',Same G G'->Good K G0 H0 G' H' σ' ρ'->D.nx σ' H'
 | .bk ρ'=>∀σ' H' G',Same G G'->Good K G0 H0 G' H' σ' ρ'->D.bk σ' H'
 | .ct ρ'=>∀σ' H' G',Same G G'->Good K G0 H0 G' H' σ' ρ'->D.ct σ' H'
 | .rt d=>∀v H' G',Step G0 H0 G' H'->Rep K G' d v->D.rt v H'
 | .rl ds=>∀a vs H' G',Step G0 H0 G' H'->H0 a=none->H' a=some (.lst vs)->G' a=none->Reps K G' ds vs->D.rt (.ref a) H'
def tFS (K:jg)(f:Sf):TS:=fun D σ H=>∃G0 H0 G ρ o,Good K G0 H0 G H σ ρ/\f ρ=some o/\Wants K G0 H0 G D o
def PFS (X:Cx)(st:Stmt)(f:Sf):Prop:=PS X st (tFS X.K f)
def bU (X:Cx)(sts:List Stmt)(f:Sf):Prop:=PSs X sts (tFS X.K f)
def PS.to {X:Cx}{st:Stmt}{t:TS}{f:Sf}(h:PS X st t)(imp:∀D σ H,tFS X.K f D σ H->t D σ H):PFS X st f:=fun Z s σ H D I q=>h Z s σ H D I (imp D σ H q)
def PSs.to {X:Cx}{st:List Stmt}{t:TS}{f:Sf}(h:PSs X st t)(imp:∀D σ H,tFS X.K f D σ H->t D σ H):bU X st f:=fun Z s σ H D I q=>h Z s σ H D I (imp D σ H q)
def Wants.mono {K:jg}{G0 H0 G G':Hp}{D:Ends}{o:Out}(h:Wants K G0 H0 G D o)(s:Same G G'):Wants K G0 H0 G' D o:=by
 cases o with
 | nx ρ=>exact fun σ' H' G2 s2 g=>h σ' H' G2 (s.trans s2) g
 | bk ρ=>exact fun σ' H' G2 s2 g=>h σ' H' G2 (s.trans s2) g
 | ct ρ=>exact fun σ' H' G2 s2 g=>h σ' H' G2 (s.trans s2) g
 | rt d=>exact h
 | rl ds=>exact h
def tV {ρ:List B}{i j:Nat}{d:D}{ds:List D}(h:(ρ.set i (.fz d))[j]?=some (.ow ds)):j≠i/\ρ[j]?=some (.ow ds):=by
 by_cases e:j=i
 · subst e
   rw[Ih] at h
   split at h
   · split at h<;>cases h
   · rename_i z;exact absurd rfl z
 · rw[Ee (Ne.symm e)] at h
   exact⟨e,h⟩
def zYW {ρ:List B}{i j:Nat}{d:D}{ds:List (D×D)}(h:(ρ.set i (.fz d))[j]?=some (.od ds)):j≠i/\ρ[j]?=some (.od ds):=by
 by_cases e:j=i
 · subst e
   rw[Ih] at h
   split at h
   · split at h<;>cases h
   · rename_i z;exact absurd rfl z
 · rw[Ee (Ne.symm e)] at h
   exact⟨e,h⟩
def Good.setF {K:jg}{G0 H0 G H:Hp}{σ:St}{ρ:List B}{v:V}{d:D}(g:Good K G0 H0 G H σ ρ)(i:Nat)(r:Rep K G d v):Good K G0 H0 G H (σ.set i (some v)) (ρ.set i (.fz d)):=by
 refine⟨g.st,Paired.set (.fz r) i g.vals,fun j k a ds es h1 h2 h3 h4=>?_⟩
 obtain⟨n1,e1⟩:=tV h1
 obtain⟨n2,e2⟩:=tV h2
 rw[Ee (Ne.symm n1)] at h3
 rw[Ee (Ne.symm n2)] at h4
 exact g.apart j k a ds es e1 e2 h3 h4
def Good.addr {K:jg}{G0 H0 G H:Hp}{σ:St}{ρ:List B}{i:Nat}{ds:List D}(g:Good K G0 H0 G H σ ρ)(h:ρ[i]?=some (.ow ds)):∃a vs,σ[i]?=some (some (.ref a))/\H a=some (.lst vs)/\G a=none/\H0 a=none/\Reps K G ds vs:=by
 obtain⟨o,e,r⟩:=Paired.get g.vals h
 cases r with
 | ow h1 h2 h3 h4=>exact⟨_,_,e,h1,h2,h3,h4⟩
def Good.setO {K:jg}{G0 H0 G H:Hp}{σ:St}{ρ:List B}{a:Addr}{vs:List V}{ds:List D}(g:Good K G0 H0 G H σ ρ)(i:Nat)(ha:H a=some (.lst vs))(ga:G a=none)(h0:H0 a=none)(rs:Reps K G ds vs)
   (fr:∀(j:Nat) (es:List D),ρ[j]?=some (B.ow es)->σ[j]?≠some (some (V.ref a))):Good K G0 H0 G H (σ.set i (some (.ref a))) (ρ.set i (.ow ds)):=by
 have hl:σ.length=ρ.length:=Paired.length g.vals
 refine⟨g.st,Paired.set (.ow ha ga h0 rs) i g.vals,fun j k b d1 d2 h1 h2 h3 h4=>?_⟩
 by_cases hj:j=i
 · by_cases hk:k=i
   · rw[hj,hk]
   · subst hj
     rw[Ee (Ne.symm hk)] at h2 h4
     have hlt:j < σ.length:=by
       have:=(Ww.mp h3).1
       rwa[Tk] at this
     rw[Yq hlt] at h3
     cases h3
     exact absurd h4 (fr k d2 h2)
 · rw[Ee (Ne.symm hj)] at h1 h3
   by_cases hk:k=i
   · subst hk
     have hlt:k < σ.length:=by
       have:=(Ww.mp h4).1
       rwa[Tk] at this
     rw[Yq hlt] at h4
     cases h4
     exact absurd h3 (fr j d1 h1)
   · rw[Ee (Ne.symm hk)] at h2 h4
     exact g.apart j k b d1 d2 h1 h2 h3 h4
def Good.wr {K:jg}{G0 H0 G H:Hp}{σ:St}{ρ:List B}{a:Addr}{us:List V}{ds es:List D}{i:Nat}(g:Good K G0 H0 G H σ ρ)(hi:ρ[i]?=some (.ow ds))(hs:σ[i]?=some (some (.ref a)))(rs:Reps K G es us) :
   Good K G0 H0 G (upd H a (.lst us)) σ (ρ.set i (.ow es)):=by
 obtain⟨a',vs,h1,h2,h3,h4,_⟩:=g.addr hi
 rw[hs] at h1;cases h1
 have st:Step G0 H0 G (upd H a (.lst us)):=by
   refine⟨fun b o e=>?_,g.st.gg,fun b o e=>?_,g.st.new⟩
   · rw[yL (xH e h4)];exact g.st.hh b o e
   · rw[yL (xH e h3)];exact g.st.sub b o e
 have hl:σ.length=ρ.length:=Paired.length g.vals
 have hil:i < ρ.length:=(Ww.mp hi).1
 have key:∀(l:List (Option V)) (r:List B) (n:Nat),Paired (RB K H0 G H) l r->(∀j es,n+j≠i->r[j]?=some (.ow es)->l[j]?≠some (some (.ref a)))->(∀j,n+j=i->l[j]?=some (some (.ref a))) ->
     Paired (RB K H0 G (upd H a (.lst us))) l (if i < n then r else r.set (i - n) (.ow es)):=by
   intro l r n p
   induction p generalizing n with
   | nil=>intro _ _;split<;>exact .nil
   | @cons o b l' r' q t ih =>
     intro hne hat
     have tl:=ih (n+1) (fun j es z e=>by have:=hne (j+1) es jc (by simpa using e);simpa using this) (fun j z=>by have:=hat (j+1) jc;simpa using this)
     have keepq:(∀es,b = .ow es->o≠some (.ref a))->RB K H0 G (upd H a (.lst us)) o b:=fun hb=>by
       cases q with
       | no=>exact .no
       | fz r=>exact .fz r
       | @ow c vs ds' c1 c2 c3 c4 =>
         have:c≠a:=fun z=>hb _ rfl (by rw[z])
         exact .ow (by rw[yL this];exact c1) c2 c3 c4
       | @od c _ _ _ _ c1 c2 c3 c4 c5 c6 =>
         have:c≠a:=fun z=>by rw[z,h2] at c1;cases c1
         exact .od (by rw[yL this];exact c1) c2 c3 c4 c5 c6
     by_cases h1:i < n
     · rw[Qv h1]
       rw[Qv jc] at tl
       refine .cons (keepq fun es e z=>?_) tl
       exact hne 0 es jc (by simp[e]) (by simp[z])
     · rw[Wh h1]
       by_cases h2:i=n
       · subst h2
         rw[Qv jc] at tl
         have:=hat 0 jc
         simp at this
         subst this
         rw[Ic]
         exact .cons (.ow yW h3 h4 rs) tl
       · rw[Wh jc] at tl
         have e:i - n=(i - (n+1))+1:=jc
         rw[e]
         refine .cons (keepq fun es e z=>?_) tl
         exact hne 0 es jc (by simp[e]) (by simp[z])
 have vals:=key σ ρ 0 g.vals (fun j es' z e w=>by
   have:=g.apart j i a es' ds e hi w hs
   omega) (fun j z=>by rw[show j=i by omega];exact hs)
 rw[Wh (Nat.not_lt_zero _),Nat.sub_zero] at vals
 refine⟨st,vals,fun j k b d1 d2 e1 e2 e3 e4=>?_⟩
 have un:∀(j:Nat) (d1:List D),(ρ.set i (B.ow es))[j]?=some (B.ow d1)->∃d,ρ[j]?=some (B.ow d):=fun j d1 e=>by
   by_cases hj:j=i
   · subst hj;exact⟨ds,hi⟩
   · rw[Ee (Ne.symm hj)] at e;exact⟨d1,e⟩
 obtain⟨c1,f1⟩:=un j d1 e1
 obtain⟨c2,f2⟩:=un k d2 e2
 exact g.apart j k b c1 c2 f1 f2 e3 e4
section
variable {X:Cx} {b c e tg:Expr} {es:List Expr} {fa:Ef} {ga:Lf} {ta:Tf} {pos:Pos} {st:Stmt} {rest:List Stmt} {f g:Sf}
def zQ (f g:Sf):Sf:=fun ρ=>(f ρ).bind fun o=>match o with | .nx ρ'=>g ρ' | o=>some o
def xQ:Sf:=fun ρ=>some (.nx ρ)
def zI:bU X [] xQ:=by
 refine PSs.to zST ?_
 rintro D σ H ⟨G0,H0,G,ρ,o,j2,hf,k⟩
 cases hf
 exact k σ H G (Same.refl _) j2
def zT (h:PFS X st f):bU X [st] f:=zJ0 h
def vX (h1:PFS X st f)(h2:bU X rest g):bU X (st::rest) (zQ f g):=by
 refine PSs.to (zZq h1 h2) ?_
 rintro D σ H ⟨G0,H0,G,ρ,o,j2,hf,k⟩
 unfold zQ at hf
 obtain⟨o1,h1,hf⟩:=Qw.mp hf
 refine⟨G0,H0,G,ρ,o1,j2,h1,?_⟩
 cases o1 with
 | nx ρ'=>exact fun σ' H' G' s g'=>⟨G0,H0,G',ρ',o,g',hf,k.mono s⟩
 | rt d=>cases hf;exact k
 | rl d=>cases hf;exact k
 | bk d=>cases hf;exact k
 | ct d=>cases hf;exact k
def yM (f:Ef):Sf:=fun ρ=>(f ρ).map .rt
def zO (h:PF X e fa):PFS X (.Return (some e) pos) (yM fa):=by
 refine PS.to (zQ6 h) ?_
 rintro D σ H ⟨G0,H0,G,ρ,o,j2,hf,k⟩
 unfold yM at hf
 obtain⟨d,h1,rfl⟩:=Qy.mp hf
 exact⟨G0,H0,G,ρ,d,j2,h1,fun v H' G' s r=>k v H' G' (j2.st.trans s) r⟩
def zWN (f:Lf):Sf:=fun ρ=>(f ρ).map .rl
def zTz (h:PFr X e ga):PFS X (.Return (some e) pos) (zWN ga):=by
 refine PS.to (zQ6 h) ?_
 rintro D σ H ⟨G0,H0,G,ρ,o,j2,hf,k⟩
 unfold zWN at hf
 obtain⟨d,h1,rfl⟩:=Qy.mp hf
 exact⟨G0,H0,G,ρ,d,j2,h1,fun p vs H' G' s hn hp gp rs=>k p vs H' G' (j2.st.trans s) (j2.st.hh.free hn) hp gp rs⟩
def zWx (i:Nat):Sf:=fun ρ=>match ρ[i]? with | some (.ow ds)=>some (.rl ds) | _=>none
def zZN (i:Nat){x:Str}{pos':Pos}(hN:X.N[i]?=some x:=by rfl)(hv:Vis X.env.scope x:=by first | exact Or.inl rfl | exact Or.inr (Or.inl rfl) | exact Or.inr (Or.inr rfl))(hd:(x==("__debug__":Str))=false:=by decide)(hcd:(x==("__classdict__":Str))=false:=by decide) :
   PFS X (.Return (some (.Name x pos')) pos) (zWx i):=by
 refine PS.to (zQ6 (pX hN hv hd hcd)) ?_
 rintro D σ H ⟨G0,H0,G,ρ,o,j2,hf,k⟩
 unfold zWx at hf
 split at hf
 · rename_i ds e
   cases hf
   obtain⟨p,vs,h1,h2,h3,h4,h5⟩:=j2.addr e
   exact⟨.ref p,h1,k p vs H G j2.st h4 h2 h3 h5⟩
 · cases hf
def sIf (t:Tf)(f g:Sf):Sf:=fun ρ=>(t ρ).bind fun c=>if c=true then f ρ else g ρ
def yQ {sa sb:List Stmt}(ht:PFT X c ta)(ha:bU X sa f)(hb:bU X sb g):PFS X (.If c sa sb pos) (sIf ta f g):=by
 refine PS.to (zGR ht ha hb) ?_
 rintro D σ H ⟨G0,H0,G,ρ,o,j2,hf,k⟩
 unfold sIf at hf
 obtain⟨c',h1,hf⟩:=Qw.mp hf
 refine⟨G0,H0,G,ρ,_,j2,h1,fun H1 G1 s1=>?_⟩
 split at hf
 · rename_i h;rw[Qv h];exact⟨G0,H0,G1,ρ,o,j2.step s1,hf,k.mono s1.gg⟩
 · rename_i h;rw[Wh h];exact⟨G0,H0,G1,ρ,o,j2.step s1,hf,k.mono s1.gg⟩
abbrev Gf:=D->List B->Option (List B)
def tFG (K:jg)(g:Gf):TG:=fun v σ H Q=>∃G0 H0 G ρ d ρ',Good K G0 H0 G H σ ρ/\Rep K G d v/\g d ρ=some ρ'/\∀σ' H' G',Step G H G' H'->Good K G0 H0 G' H' σ' ρ'->Q σ' H'
def PFG (X:Cx)(tg:Expr)(g:Gf):Prop:=PG X tg (tFG X.K g)
abbrev Gfs:=List D->List B->Option (List B)
def zF8 (K:jg)(g:Gfs):TGs:=fun vs σ H Q=>∃G0 H0 G ρ ds ρ',Good K G0 H0 G H σ ρ/\Reps K G ds vs/\g ds ρ=some ρ'/\∀σ' H' G',Step G H G' H'->Good K G0 H0 G' H' σ' ρ'->Q σ' H'
def zKr (X:Cx)(tgs:List Expr)(g:Gfs):Prop:=PGs X tgs (zF8 X.K g)
def gN (i:Nat):Gf:=fun d ρ=>some (ρ.set i (.fz d))
def xU (i:Nat){x:Str}(hN:X.N.Nodup)(hi:X.N[i]?=some x:=by rfl)(hx:Loc X.env.scope x:=by first | exact .inl rfl | exact .inr rfl)(hf:X.fn x=true∨X.env.scope.names.lookup x=some .local:=by first | exact .inl rfl | exact .inr rfl):PFG X (.Name x pos) (gN i):=by
 have h:=zJV (pos:=pos) hN hi hx hf
 intro Z s σ H v u Q I r q
 refine h Z s σ H v u Q I r ?_
 obtain⟨G0,H0,G,ρ,d,ρ',j2,rd,hf,k⟩:=q
 cases hf
 exact k _ H G (.refl j2.sub) (j2.setF i rd)
def xI:Gfs:=fun ds ρ=>match ds with | []=>some ρ | _=>none
def zM (g:Gf)(r:Gfs):Gfs:=fun ds ρ=>match ds with | d::dr=>(g d ρ).bind fun ρ'=>r dr ρ' | _=>none
def xF:zKr X [] xI:=by
 intro Z s σ H vs us Q I r q
 refine zKx Z s σ H vs us Q I r ?_
 obtain⟨G0,H0,G,ρ,ds,ρ',j2,rd,hf,k⟩:=q
 unfold xI at hf
 split at hf
 · cases hf
   rw[yR] at rd
   exact⟨rd,k _ H G (.refl j2.sub) j2⟩
 · cases hf
def zH {g:Gf}{r:Gfs}(h1:PFG X e g)(h2:zKr X es r)(hs:(assignEach (e::es) X.env).map (·.2)=assign e X.env::(assignEach es X.env).map (·.2):=by rfl):zKr X (e::es) (zM g r):=by
 intro Z s σ H vs us Q I rv q
 refine zMF h1 h2 hs Z s σ H vs us Q I rv ?_
 obtain⟨G0,H0,G,ρ,ds,ρ',j2,rd,hf,k⟩:=q
 unfold zM at hf
 split at hf
 · rename_i d dr
   obtain⟨ρ1,e1,e2⟩:=Qw.mp hf
   obtain⟨v,vr,rfl,r1,r2⟩:=zB.mp rd
   exact⟨v,vr,rfl,G0,H0,G,ρ,d,ρ1,j2,r1,e1,fun σ' H' G' s' g'=>⟨G0,H0,G',ρ1,dr,ρ',g',r2.mono s'.gg,e2,fun σ2 H2 G2 s2 g2=>k σ2 H2 G2 (s'.trans s2) g2⟩⟩
 · cases hf
def gT (r:Gfs):Gf:=fun d ρ=>match d with | .tup ds=>r ds ρ | _=>none
def nM {r:Gfs}{k:Nat}(n:Nat)(hc:X.calm=true)(h:zKr X es r)(hr:∀ds ρ ρ',r ds ρ=some ρ'->ds.length=n)(hn:(assignEach es X.env).length=n:=by rfl)(hst:(assignEach es X.env).findIdx? (·.1)=none:=by rfl):PFG X (.Tuple es k pos) (gT r):=by
 have h:=zIz (pos:=pos) (k:=k) hc h hn hst
 intro Z s σ H v u Q I rv q
 refine h Z s σ H v u Q I rv ?_
 obtain⟨G0,H0,G,ρ,d,ρ',j2,rd,hf,k⟩:=q
 unfold gT at hf
 split at hf
 · obtain⟨p,vs,rfl,h1,h2⟩:=y0.mp rd
   exact⟨p,vs,rfl,j2.sub.tup h1,by rw[←h2.length];exact hr _ _ _ hf,G0,H0,G,ρ,_,ρ',j2,h2,hf,k⟩
 · cases hf
def yS {g:Gf}{r:Gfs}{n:Nat}(h:∀ds ρ ρ',r ds ρ=some ρ'->ds.length=n):∀ds ρ ρ',zM g r ds ρ=some ρ'->ds.length=n+1:=by
 intro ds ρ ρ' q
 unfold zM at q
 split at q
 · obtain⟨ρ1,e1,e2⟩:=Qw.mp q
   rw[Qo,h _ _ _ e2]
 · cases q
def wV:∀ds ρ ρ',xI ds ρ=some ρ'->ds.length=0:=by
 intro ds ρ ρ' q
 unfold xI at q
 split at q
 · rfl
 · cases q
def zWf (ρ:List B):Prop:=(∀(j:Nat) (es:List D),ρ[j]?≠some (B.ow es))/\∀(j:Nat) (ks:List (D×D)),ρ[j]?≠some (B.od ks)
def zNc (g:Gf):Prop:=∀d ρ ρ',g d ρ=some ρ'->zWf ρ->zWf ρ'
def zPz (g:Gfs):Prop:=∀d ρ ρ',g d ρ=some ρ'->zWf ρ->zWf ρ'
def vM (i:Nat):zNc (gN i):=fun d ρ ρ' h n=>by
 cases h
 exact⟨fun j es e=>n.1 j es (tV e).2,fun j ks e=>n.2 j ks (zYW e).2⟩
def rM:zPz xI:=fun d ρ ρ' h n=>by
 unfold xI at h
 split at h
 · cases h;exact n
 · cases h
def xN {g:Gf}{r:Gfs}(h1:zNc g)(h2:zPz r):zPz (zM g r):=fun d ρ ρ' h n=>by
 unfold zM at h
 split at h
 · obtain⟨ρ1,e1,e2⟩:=Qw.mp h
   exact h2 _ _ _ e2 (h1 _ _ _ e1 n)
 · cases h
def zXT {r:Gfs}(h:zPz r):zNc (gT r):=fun d ρ ρ' q n=>by
 unfold gT at q
 split at q
 · exact h _ _ _ q n
 · cases q
def lE (f:Ef)(g:Gf):Sf:=fun ρ=>(f ρ).bind fun d=>(g d ρ).map .nx
def zLK {K:jg}{t:TE}{f:Ef}{g:Gf}(imp:∀σ H Q,tF K f σ H Q->t σ H Q){D:Ends}{σ:St}{H:Hp}(h:tFS K (lE f g) D σ H):zNK t (tFG K g) D σ H:=by
 obtain⟨G0,H0,G,ρ,o,j2,hf,k⟩:=h
 unfold lE at hf
 obtain⟨d,h1,hf⟩:=Qw.mp hf
 obtain⟨ρ',h2,rfl⟩:=Qy.mp hf
 exact imp _ _ _ ⟨G0,H0,G,ρ,d,j2,h1,fun v H' G' s r=>⟨G0,H0,G',ρ,d,ρ',j2.step s,r,h2,fun σ2 H2 G2 s2 g2=>k σ2 H2 G2 (s.gg.trans s2.gg) g2⟩⟩
def mP {g:Gf}(he:PF X e fa)(hg:PFG X tg g)(hs:swapsWithSole [tg] e pos.line X.env=pure false:=by rfl)(hw:swappedStores [tg] e X.env=pure none:=by rfl)(h1:(assignEach [tg] X.env).map (·.2)=[assign tg X.env]:=by rfl) :
   PFS X (.Assign [tg] e pos) (lE fa g):=PS.to (zQm he hg hs hw h1) fun D σ H h=>zLK (fun _ _ _ q=>q) h
def yK (i:Nat)(f:Ef):Sf:=fun ρ=>(f ρ).map fun d=>.nx (ρ.set i (.fz d))
def zKT {K:jg}{t:TE}{f:Ef}{i:Nat}(imp:∀σ H Q,tF K f σ H Q->t σ H Q){D:Ends}{σ:St}{H:Hp}(h:tFS K (yK i f) D σ H):zNK t (zS9 i) D σ H:=by
 obtain⟨G0,H0,G,ρ,o,j2,hf,k⟩:=h
 unfold yK at hf
 obtain⟨d,h1,rfl⟩:=Qy.mp hf
 exact imp _ _ _ ⟨G0,H0,G,ρ,d,j2,h1,fun v H' G' s r=>k _ H' G' s.gg ((j2.step s).setF i r)⟩
def zJ (i:Nat){x:Str}{pos':Pos}(hN:X.N.Nodup)(he:PF X e fa)(hi:X.N[i]?=some x:=by rfl)(hx:Loc X.env.scope x:=by first | exact .inl rfl | exact .inr rfl)(hs:swapsWith e (some (.Name x pos')) pos.line X.env=pure false:=by rfl)
   (hf:X.fn x=true∨X.env.scope.names.lookup x=some .local:=by first | exact .inl rfl | exact .inr rfl):PFS X (.Assign [.Name x pos'] e pos) (yK i fa) :=
 PS.to (zUs hN hi hx he hs hf) fun D σ H h=>zKT (fun _ _ _ q=>q) h
def uO (i:Nat)(f:Lf):Sf:=fun ρ=>(f ρ).map fun ds=>.nx (ρ.set i (.ow ds))
def zSA {K:jg}{t:TE}{f:Lf}{i:Nat}(imp:∀σ H Q,tFr K f σ H Q->t σ H Q){D:Ends}{σ:St}{H:Hp}(h:tFS K (uO i f) D σ H):zNK t (zS9 i) D σ H:=by
 obtain⟨G0,H0,G,ρ,o,j2,hf,k⟩:=h
 unfold uO at hf
 obtain⟨ds,h1,rfl⟩:=Qy.mp hf
 refine imp _ _ _ ⟨G0,H0,G,ρ,ds,j2,h1,fun p vs H' G' s hn hp gp rs=>?_⟩
 refine k _ H' G' s.gg ((j2.step s).setO i hp gp (j2.st.hh.free hn) rs fun j es e z=>?_)
 obtain⟨q,us,e1,e2,_⟩:=j2.addr e
 rw[e1] at z;cases z
 rw[hn] at e2;cases e2
def uF (i:Nat){x:Str}{pos':Pos}(hN:X.N.Nodup)(he:PFr X e ga)(hi:X.N[i]?=some x:=by rfl)(hx:Loc X.env.scope x:=by first | exact .inl rfl | exact .inr rfl)(hs:swapsWith e (some (.Name x pos')) pos.line X.env=pure false:=by rfl)
   (hf:X.fn x=true∨X.env.scope.names.lookup x=some .local:=by first | exact .inl rfl | exact .inr rfl):PFS X (.Assign [.Name x pos'] e pos) (uO i ga) :=
 PS.to (zUs hN hi hx he hs hf) fun D σ H h=>zSA (fun _ _ _ q=>q) h
def zI1 (i:Nat)(ρ:List B):List B:=match ρ[i]? with | some (.ow ds)=>ρ.set i (.fz (.lst ds)) | _=>ρ
def kB (i:Nat)(f:Sf):Sf:=fun ρ=>f (zI1 i ρ)
def Good.frz {K:jg}{G0 H0 G H:Hp}{σ:St}{ρ:List B}(g:Good K G0 H0 G H σ ρ)(i:Nat):∃G',Same G G'/\Good K G0 H0 G' H σ (zI1 i ρ):=by
 unfold zI1
 split
 · rename_i ds e
   obtain⟨p,vs,h1,h2,h3,h4,h5⟩:=g.addr e
   have sG:Same G (upd G p (.lst vs)):=Same.new h3
   have st:Step G0 H0 (upd G p (.lst vs)) H:=by
     refine⟨g.st.hh,g.st.gg.trans sG,fun b o q=>?_,fun b hb=>?_⟩
     · by_cases z:b=p
       · subst z;rw[yW] at q;rw[h2];exact q
       · rw[yL z] at q;exact g.st.sub b o q
     · rw[yL (fun z:b=p=>hb (by rw[z];exact h4))];exact g.st.new b hb
   have vals:Paired (RB K H0 (upd G p (.lst vs)) H) σ (ρ.set i (.fz (.lst ds))):=by
     have key:∀(l:List (Option V)) (r:List B) (n:Nat),Paired (RB K H0 G H) l r->(∀j es,n+j≠i->r[j]?=some (.ow es)->l[j]?≠some (some (.ref p)))->(∀j,n+j=i->l[j]?=some (some (.ref p))) ->
         Paired (RB K H0 (upd G p (.lst vs)) H) l (if i < n then r else r.set (i - n) (.fz (.lst ds))):=by
       intro l r n q
       induction q generalizing n with
       | nil=>intro _ _;split<;>exact .nil
       | @cons o b l' r' q t ih =>
         intro hne hat
         have tl:=ih (n+1) (fun j es z e=>by have:=hne (j+1) es jc (by simpa using e);simpa using this) (fun j z=>by have:=hat (j+1) jc;simpa using this)
         have keepq:(∀es,b = .ow es->o≠some (.ref p))->RB K H0 (upd G p (.lst vs)) H o b:=fun hb=>by
           cases q with
           | no=>exact .no
           | fz r=>exact .fz (r.mono sG)
           | @ow c vs' ds' c1 c2 c3 c4 =>
             have:c≠p:=fun z=>hb _ rfl (by rw[z])
             exact .ow c1 (by rw[yL this];exact c2) c3 (c4.mono sG)
           | @od c _ _ _ _ c1 c2 c3 c4 c5 c6 =>
             have:c≠p:=fun z=>by rw[z,h2] at c1;cases c1
             exact .od c1 (by rw[yL this];exact c2) c3 (c4.mono sG) c5 c6
         by_cases h1:i < n
         · rw[Qv h1]
           rw[Qv jc] at tl
           exact .cons (keepq fun es e z=>hne 0 es jc (by simp[e]) (by simp[z])) tl
         · rw[Wh h1]
           by_cases h2:i=n
           · subst h2
             rw[Qv jc] at tl
             have:=hat 0 jc
             simp at this
             subst this
             rw[Ic]
             exact .cons (.fz (xB.mpr ⟨p,vs,rfl,.of yW,h5.mono sG⟩)) tl
           · rw[Wh jc] at tl
             have e:i - n=(i - (n+1))+1:=jc
             rw[e]
             exact .cons (keepq fun es e z=>hne 0 es jc (by simp[e]) (by simp[z])) tl
     have v:=key σ ρ 0 g.vals (fun j es' z e' w=>by have:=g.apart j i p es' ds e' e w h1;omega) (fun j z=>by rw[show j=i by omega];exact h1)
     rw[Wh (Nat.not_lt_zero _),Nat.sub_zero] at v
     exact v
   refine⟨_,sG,st,vals,fun j k b d1 d2 e1 e2 e3 e4=>?_⟩
   obtain⟨_,f1⟩:=tV e1
   obtain⟨_,f2⟩:=tV e2
   exact g.apart j k b d1 d2 f1 f2 e3 e4
 · exact⟨G,Same.refl _,g⟩
def uS (i:Nat)(h:PFS X st f):PFS X st (kB i f):=by
 refine PS.to h ?_
 rintro D σ H ⟨G0,H0,G,ρ,o,j2,hf,k⟩
 obtain⟨G',s,g'⟩:=j2.frz i
 exact⟨G0,H0,G',_,o,g',hf,k.mono s⟩
end
def aU (K:jg)(J:It)(G:Hp)(ds:List D):Prop:=∀(i:Nat) (G2 H2:Hp),Same G G2->Same G2 H2 ->
 (∀d,ds[i]?=some d->J.go i H2/\∀x H3,J.yld i H2 x H3->∃G3,Step G2 H2 G3 H3/\Rep K G3 d x)/\(ds.length<=i->J.stop i H2)
def tFI (K:jg)(f:Lf):TI:=fun σ H R=>∃G0 H0 G ρ ds,Good K G0 H0 G H σ ρ/\f ρ=some ds/\∀J H' G',Step G H G' H'->aU K J G' ds->R J H'
def PFI (X:Cx)(tg iter:Expr)(f:Lf):Prop:=PI X tg iter (tFI X.K f)
def PI.to {X:Cx}{tg e:Expr}{t:TI}{f:Lf}(h:PI X tg e t)(imp:∀σ H R,tFI X.K f σ H R->t σ H R):PFI X tg e f:=fun Z s σ H R I q=>h Z s σ H R I (imp σ H R q)
def zZ0 {K:jg}{G:Hp}{a:Addr}{vs:List V}{ds:List D}(h:SqL K G a vs)(r:Reps K G ds vs):aU K (Itl K a) G ds:=by
 intro i G2 H2 s1 s2
 have q:SqL K H2 a vs:=(s1.trans s2).seq h
 refine⟨fun d hd=>?_,fun hi=>⟨vs,q,by rw[←r.length];exact hi⟩⟩
 obtain⟨v,e,rv⟩:=r.get hd
 refine⟨⟨vs,v,q,e⟩,fun x H3 y=>?_⟩
 obtain⟨rfl,y⟩:=y
 have:=y vs q
 rw[e] at this;cases this
 exact⟨G2,.refl s2,rv.mono s1⟩
def zQT {K:jg}{G:Hp}{a:Addr}{vs:List V}{ds:List D}(h:SqT K G a vs)(r:Reps K G ds vs):aU K (Itt K a) G ds:=by
 intro i G2 H2 s1 s2
 have q:SqT K H2 a vs:=(s1.trans s2).tup h
 refine⟨fun d hd=>?_,fun hi=>⟨vs,q,by rw[←r.length];exact hi⟩⟩
 obtain⟨v,e,rv⟩:=r.get hd
 refine⟨⟨vs,v,q,e⟩,fun x H3 y=>?_⟩
 obtain⟨rfl,y⟩:=y
 have:=y vs q
 rw[e] at this;cases this
 exact⟨G2,.refl s2,rv.mono s1⟩
def tD (lo:Int)(n:Nat):List D:=(List.range n).map fun i=>D.int (lo+(i:Nat))
def zZi {K:jg}{G:Hp}{lo:Int}{n:Nat}:aU K (Itr lo n) G (tD lo n):=by
 intro i G2 H2 s1 s2
 have hl:(tD lo n).length=n:=by simp[tD]
 refine⟨fun d hd=>?_,fun hi=>by rw[hl] at hi;exact hi⟩
 have hi:i < n:=by rw[←hl];exact(Ww.mp hd).1
 refine⟨hi,fun x H3 y=>?_⟩
 obtain⟨rfl,rfl⟩:=y
 have e:d = .int (lo+i):=by
   unfold tD at hd
   rw[Wa,List.getElem?_range hi] at hd
   exact(Eg hd).symm
 subst e
 exact⟨G2,.refl s2,zD.mpr rfl⟩
section
variable {X:Cx} {a b c e tg elt iter:Expr} {es ifs:List Expr} {fa fb:Ef} {ga gi:Lf} {tc:Tf} {pos:Pos} {st:Stmt} {f g:Sf}
def iL (f:Ef):Lf:=fun ρ=>(f ρ).bind fun d=>match d with | .lst ds=>some ds | _=>none
def iT (f:Ef):Lf:=fun ρ=>(f ρ).bind fun d=>match d with | .tup ds=>some ds | _=>none
def zSZ (h:PF X e fa):PFI X tg e (iL fa):=by
 refine PI.to (zP6 h) ?_
 rintro σ H R ⟨G0,H0,G,ρ,ds,j2,hf,k⟩
 unfold iL at hf
 obtain⟨d,h1,hf⟩:=Qw.mp hf
 cases d with
 | lst es =>
   cases hf
   refine⟨G0,H0,G,ρ,_,j2,h1,fun x H1 G1 s1 r1=>?_⟩
   obtain⟨p,vs,rfl,q,rs⟩:=xB.mp r1
   exact⟨p,rfl,⟨vs,s1.sub.seq q⟩,k _ H1 G1 s1 (zZ0 q rs)⟩
 | _=>cases hf
def zFN (h:PFr X e ga):PFI X tg e ga:=by
 refine PI.to (zP6 h) ?_
 rintro σ H R ⟨G0,H0,G,ρ,ds,j2,hf,k⟩
 refine⟨G0,H0,G,ρ,_,j2,hf,fun p vs H1 G1 s1 hn hp gp rs=>?_⟩
 exact⟨p,rfl,⟨vs,.of hp⟩,k _ H1 (upd G1 p (.lst vs)) (s1.frz hn hp gp) (zZ0 (.of yW) (rs.mono (Same.new gp)))⟩
def zZl (h:PF X e fa):PFI X tg e (iT fa):=by
 refine PI.to (zHT h) ?_
 rintro σ H R ⟨G0,H0,G,ρ,ds,j2,hf,k⟩
 unfold iT at hf
 obtain⟨d,h1,hf⟩:=Qw.mp hf
 cases d with
 | tup es =>
   cases hf
   refine⟨G0,H0,G,ρ,_,j2,h1,fun x H1 G1 s1 r1=>?_⟩
   obtain⟨p,vs,rfl,q,rs⟩:=y0.mp r1
   exact⟨p,rfl,⟨vs,s1.sub.tup q⟩,k _ H1 G1 s1 (zQT q rs)⟩
 | _=>cases hf
def iR (f:Ef):Lf:=fun ρ=>(f ρ).bind fun d=>match d with | .int n=>if decide (-1000000<=n)&&decide (n<=1000000) then some (tD 0 n.toNat) else none | _=>none
def zYF {p:Pos}(hg:Gl X "range")(hm:X.mg "range"=none)(h:PF X a fa)(hs:starEach [a] X.env=[(false,eval a X.env)]:=by rfl):PFI X tg (.Call (.Name "range" p) [a] [] pos) (iR fa):=by
 refine PI.to (zOo hg hm (zE h yO (by rw[hs];rfl)) hs) ?_
 rintro σ H R ⟨G0,H0,G,ρ,ds,j2,hf,k⟩
 unfold iR at hf
 obtain⟨d,h1,hf⟩:=Qw.mp hf
 cases d with
 | int n =>
   dsimp only at hf
   split at hf
   · rename_i hc
     cases hf
     simp only[Qc,Wb] at hc
     refine⟨G0,H0,G,ρ,_,j2,h1,fun x H1 G1 s1 r1=>⟨n,by rw[zD.mp r1],jc,jc,k _ H1 G1 s1 zZi⟩⟩
   · cases hf
 | _=>cases hf
def iR2 (f g:Ef):Lf:=fun ρ=>(f ρ).bind fun x=>(g ρ).bind fun y=>match x,y with | .int m,.int n=>if decide (-1000000<=m)&&decide (m<=1000000)&&decide (-1000000<=n)&&decide (n<=1000000) then some (tD m (n - m).toNat) else none | _,_=>none
def zIL {p:Pos}(hg:Gl X "range")(hm:X.mg "range"=none)(h:PF X a fa)(h':PF X b fb)(hs:starEach [a,b] X.env=[(false,eval a X.env),(false,eval b X.env)]:=by rfl)(hs2:starEach [b] X.env=[(false,eval b X.env)]:=by rfl):PFI X tg (.Call (.Name "range" p) [a,b] [] pos) (iR2 fa fb):=by
 refine PI.to (zO4 hg hm (zE h (zE h' yO (by rw[hs2];rfl)) (by rw[hs,hs2])) hs hs2) ?_
 rintro σ H R ⟨G0,H0,G,ρ,ds,j2,hf,k⟩
 unfold iR2 at hf
 obtain⟨d,h1,hf⟩:=Qw.mp hf
 obtain⟨d',h2,hf⟩:=Qw.mp hf
 cases d with
 | int m =>
   cases d' with
   | int n =>
     dsimp only at hf
     split at hf
     · rename_i hc
       cases hf
       simp only[Qc,Wb] at hc
       refine⟨G0,H0,G,ρ,_,j2,h1,fun x H1 G1 s1 r1=>⟨G0,H0,G1,ρ,_,j2.step s1,h2,fun y H2 G2 s2 r2=>⟨m,n,by rw[zD.mp r1,zD.mp r2],⟨jc,jc,jc,jc⟩,k _ H2 G2 (s1.trans s2) zZi⟩⟩⟩
     · cases hf
   | _=>cases hf
 | _=>cases hf
def mS (g:Gf)(body:Sf):List D->Sf
 | [],ρ=>some (.nx ρ)
 | d::r,ρ=>(g d ρ).bind fun ρ1=>(body ρ1).bind fun o=>match o with
   | .nx ρ2=>mS g body r ρ2
   | .ct ρ2=>mS g body r ρ2
   | .bk ρ2=>some (.nx ρ2)
   | o=>some o
def pQ (src:Lf)(g:Gf)(body:Sf):Sf:=fun ρ=>(src ρ).bind fun ds=>mS g body ds ρ
def rQ {gt:Gf}{body:List Stmt}{fb:Sf}(hp:PassesOwn (model X.prog X.w) X.A X.env X.xe)(hc:X.calm=true)(hi:PFI X tg iter gi)(hg:PFG X tg gt)(hb:bU X body fb)(hs:∀x,foldedSetIterable iter X.env x=pure x:=by intro _;rfl) :
   PFS X (.For tg iter body [] pos) (pQ gi gt fb):=by
 refine PS.to (zIm hp hc hi hg hb hs) ?_
 rintro D σ H ⟨G0,H0,G,ρ,o,j2,hf,k⟩
 unfold pQ at hf
 obtain⟨ds,h1,hf⟩:=Qw.mp hf
 refine⟨G0,H0,G,ρ,ds,j2,h1,fun J H1 G1 s1 y=>?_⟩
 refine⟨fun i m σ H=>m=ds.length - i/\i<=ds.length/\∃G2 ρ2,Same G1 G2/\Good X.K G0 H0 G2 H σ ρ2/\mS gt fb (ds.drop i) ρ2=some o,⟨ds.length,jd,Th _,G1,ρ,Same.refl _,j2.step s1,by simpa using hf⟩,?_⟩
 rintro i m σ2 H2 ⟨rfl,hi',G2,ρ2,sg,good2,hf2⟩
 obtain⟨y1,y2⟩:=y i G2 H2 sg good2.sub
 by_cases hlt:i < ds.length
 · obtain⟨go,yl⟩:=y1 ds[i] (Qi hlt)
   rw[Oj hlt] at hf2
   unfold mS at hf2
   obtain⟨ρ3,e1,hf2⟩:=Qw.mp hf2
   obtain⟨o1,e2,hf2⟩:=Qw.mp hf2
   refine .inr ⟨go,fun σ' H'=>∃G' ρ',Same G1 G'/\Good X.K G0 H0 G' H' σ' ρ'/\mS gt fb (ds.drop (i+1)) ρ'=some o,fun σ' H' ⟨G',ρ',a1,a2,a3⟩=>⟨ds.length - (i+1),jc,rfl,hlt,G',ρ',a1,a2,a3⟩,fun x H3 yx=>?_⟩
   obtain⟨G3,s3,r3⟩:=yl x H3 yx
   refine⟨G0,H0,G3,ρ2,_,ρ3,good2.step s3,r3,e1,fun σ4 H4 G4 s4 good4=>?_⟩
   have sg4:Same G1 G4:=(sg.trans s3.gg).trans s4.gg
   refine⟨G0,H0,G4,ρ3,o1,good4,e2,?_⟩
   cases o1 with
   | nx ρ5=>exact fun σ5 H5 G5 s5 good5=>⟨G5,ρ5,sg4.trans s5,good5,hf2⟩
   | ct ρ5=>exact fun σ5 H5 G5 s5 good5=>⟨G5,ρ5,sg4.trans s5,good5,hf2⟩
   | bk ρ5=>cases hf2;exact fun σ5 H5 G5 s5 good5=>k σ5 H5 G5 ((s1.gg.trans sg4).trans s5) good5
   | rt d=>cases hf2;exact k
   | rl d=>cases hf2;exact k
 · have e:i=ds.length:=by omega
   subst e
   rw[List.drop_length] at hf2
   cases hf2
   exact .inl ⟨y2 (Ql _),k σ2 H2 G2 (s1.gg.trans sg) good2⟩
def vL (g:Gf)(t:Tf)(elt:Ef):List D->List B->List D->Option (List D)
 | [],_,j7=>some j7
 | d::r,ρ,j7=>(g d ρ).bind fun ρ1=>(t ρ1).bind fun c=>if c=true then(elt ρ1).bind fun y=>vL g t elt r ρ1 (j7++[y]) else vL g t elt r ρ1 j7
def upB (m:Nat)(js:List Nat)(ρ:List B):List B:=List.replicate m .no++js.map fun j=>match ρ[j]? with | some (.fz d)=>.fz d | _=>.no
def yN (src:Lf)(m:Nat)(js:List Nat)(g:Gf)(t:Tf)(elt:Ef):Lf:=fun ρ=>((src ρ).bind okL).bind fun ds=>vL g t elt ds (upB m js ρ) []
def Good.up {K:jg}{G0 H0 G H:Hp}{σ:St}{ρ:List B}(g:Good K G0 H0 G H σ ρ)(m:Nat)(js:List Nat):Good K G H G H (upC m js σ) (upB m js ρ):=by
 refine⟨.refl g.sub,?_,fun i j a ds es h1=>?_⟩
 · unfold upC upB
   have rep:∀m:Nat,Paired (RB K H G H) (List.replicate m (none:Option V)) (List.replicate m B.no):=fun m=>by
     induction m with
     | zero=>exact .nil
     | succ n ih=>rw[Wl,Wl];exact .cons .no ih
   have app:∀ {l1 l2:List (Option V)} {r1 r2:List B},Paired (RB K H G H) l1 r1->Paired (RB K H G H) l2 r2->Paired (RB K H G H) (l1++l2) (r1++r2):=fun h1 h2=>by
     induction h1 with
     | nil=>exact h2
     | cons q t ih=>exact .cons q ih
   refine app (rep m) ?_
   induction js with
   | nil=>exact .nil
   | cons j r ih =>
     rw[Qu,Qu]
     refine .cons ?_ ih
     cases e:ρ[j]? with
     | none=>exact .no
     | some b =>
       obtain⟨o,e1,r1⟩:=Paired.get g.vals e
       cases r1 with
       | no=>exact .no
       | fz q=>rw[e1];exact .fz q
       | ow q1 q2 q3 q4=>exact .no
       | od q1 q2 q3 q4 q5 q6=>exact .no
 · unfold upB at h1
   by_cases hi:i < m
   · rw[Es (by simpa using hi),Ro] at h1
     split at h1<;>cases h1
   · rw[Ew (by simpa using hi),Wa] at h1
     obtain⟨k,_,h1⟩:=Qy.mp h1
     split at h1<;>cases h1
def zKV (m:Nat)(js:List Nat)(ρ:List B):zWf (upB m js ρ):=by
 constructor
 all_goals
   intro i es h1
   unfold upB at h1
   by_cases hi:i < m
   · rw[Es (by simpa using hi),Ro] at h1
     split at h1<;>cases h1
   · rw[Ew (by simpa using hi),Wa] at h1
     obtain⟨k,_,h1⟩:=Qy.mp h1
     split at h1<;>cases h1
def Good.wrX {K:jg}{G0 H0 G H:Hp}{σ:St}{ρ:List B}{p:Addr}{o:HO}(g:Good K G0 H0 G H σ ρ)(n:zWf ρ)(gp:G p=none)(h0:H0 p=none):Good K G0 H0 G (upd H p o) σ ρ:=by
 refine⟨⟨fun b u e=>?_,g.st.gg,fun b u e=>?_,g.st.new⟩,?_,g.apart⟩
 · rw[yL (xH e h0)];exact g.st.hh b u e
 · rw[yL (xH e gp)];exact g.st.sub b u e
 · have key:∀(l:List (Option V)) (r:List B),Paired (RB K H0 G H) l r->zWf r->Paired (RB K H0 G (upd H p o)) l r:=by
     intro l r q
     induction q with
     | nil=>intro _;exact .nil
     | @cons x b l' r' q t ih =>
       intro n
       refine .cons ?_ (ih ⟨fun j es e=>n.1 (j+1) es (by simpa using e),fun j es e=>n.2 (j+1) es (by simpa using e)⟩)
       cases q with
       | no=>exact .no
       | fz r=>exact .fz r
       | ow _ _ _ _=>exact absurd rfl (n.1 0 _)
       | od _ _ _ _ _ _=>exact absurd rfl (n.2 0 _)
   exact key σ ρ g.vals n
def zSp {K:jg}{m:Nat}{js:List Nat}{gt:Gf}{t:Tf}{el:Ef}(hgo:zNc gt){σ:St}{H:Hp}{Q:VK}(h:tFr K (yN gi m js gt t el) σ H Q):zLW (tFI K gi) m js (tFG K gt) (tFT K t) (tF K el) σ H Q:=by
 obtain⟨G0,H0,G,ρ,out,j2,hf,k⟩:=h
 unfold yN at hf
 obtain⟨ds,h1,hf⟩:=Qw.mp hf
 obtain⟨ds',h1,h1'⟩:=Qw.mp h1
 obtain⟨rfl,j5⟩:=zZH h1'
 refine⟨G0,H0,G,ρ,_,j2,h1,fun J H1 G1 s1 y D hD=>?_⟩
 have good1:=(j2.step s1).up m js
 have hGD:G1 D=none:=s1.sub.free hD
 refine⟨fun i n σ2 H2=>n=ds.length - i/\i<=ds.length/\∃G2 ρ2 j7 us,Same G1 G2/\G2 D=none/\H2 D=some (.lst us)/\Reps K G2 j7 us/\j7.length<=i/\zWf ρ2/\Good K G1 H1 G2 H2 σ2 ρ2/\vL gt t el (ds.drop i) ρ2 j7=some out,
   ⟨ds.length,jd,Th _,G1,upB m js ρ,[],[],Same.refl _,hGD,yW,yR.mpr rfl,Ql _,zKV _ _ _,good1.step (Step.own s1.sub hD),by simpa using hf⟩,?_⟩
 rintro i n σ2 H2 ⟨rfl,hi,G2,ρ2,j7,us,sg,gD,hD2,rs,hal,now,good2,hf2⟩
 obtain⟨y1,y2⟩:=y i G2 H2 sg good2.sub
 by_cases hlt:i < ds.length
 · obtain⟨go,yl⟩:=y1 ds[i] (Qi hlt)
   rw[Oj hlt] at hf2
   unfold vL at hf2
   obtain⟨ρ3,e1,hf2⟩:=Qw.mp hf2
   obtain⟨c,e2,hf2⟩:=Qw.mp hf2
   have now3:=hgo _ _ _ e1 now
   refine .inr ⟨go,fun x H3 yx=>?_⟩
   obtain⟨G3,s3,r3⟩:=yl x H3 yx
   refine⟨G1,H1,G3,ρ2,_,ρ3,good2.step s3,r3,e1,fun σ4 H4 G4 s4 good4=>?_⟩
   refine⟨G1,H1,G4,ρ3,c,good4,e2,fun H5 G5 s5=>?_⟩
   have s35:=(s3.trans s4).trans s5
   have hne:H2 D≠none:=by rw[hD2];exact fun z=>nomatch z
   split at hf2
   · rename_i hc
     show if c=true then _ else _
     rw[Qv hc]
     obtain⟨yd,e3,hf2⟩:=Qw.mp hf2
     refine⟨G1,H1,G5,ρ3,yd,good4.step s5,e3,fun v H6 G6 s6 r6=>?_⟩
     have s36:=s35.trans s6
     have hD6:H6 D=some (.lst us):=s36.hh _ _ hD2
     have gD6:G6 D=none:=(s36.new D hne).trans gD
     refine⟨us,ds.length - (i+1),hD6,?_,jc,rfl,hlt,G6,ρ3,j7++[yd],us++[v],sg.trans s36.gg,gD6,yW,(rs.mono s36.gg).snoc r6,by rw[Qk,Ey];omega,now3,((good4.step s5).step s6).wrX now3 gD6 hD,hf2⟩
     rw[←rs.length]
     exact uY (Ep hal (Ep hi j5))
   · rename_i hc
     show if c=true then _ else _
     rw[Wh hc]
     exact⟨ds.length - (i+1),jc,rfl,hlt,G5,ρ3,j7,us,sg.trans s35.gg,(s35.new D hne).trans gD,s35.hh _ _ hD2,rs.mono s35.gg,jc,now3,good4.step s5,hf2⟩
 · have e:i=ds.length:=by omega
   subst e
   rw[List.drop_length] at hf2
   cases hf2
   exact .inl ⟨y2 (Ql _),k D us H2 G2 (s1.trans good2.st) (s1.hh.free hD) hD2 gD rs⟩
def tOK:Tf:=fun _=>some true
def zOB (X:Cx)(ifs:List Expr)(t:Tf):Prop:=zQs X ifs (tFT X.K t)
def yP {X:Cx}:zOB X [] tOK:=fun Z s σ H Q I h=>zMw Z s σ H Q I (by
 obtain⟨G0,H0,G,ρ,b,j2,hf,k⟩:=h
 cases hf
 exact k H G (.refl j2.sub))
def zNY {X:Cx}{c:Expr}{t:Tf}(h:PFT X c t):zOB X [c] t:=zLN h
def wZ (sc:Scope)(N tgs j4:List Str)(js:List Nat){scope:Scope}{gt:Gf}{t:Tf}{el:Ef}(hgo:zNc gt)(hp:PFI X tg iter gi)(hc:X.calm=true)(hsc:X.env.scope=sc)(hNN:X.N=N)(hok:fW sc scope N tgs j4 js=true)
   (hg:∀C s₀ H₀ fp,PFG (tK X (tgs++j4) scope C s₀ H₀ fp) tg gt) (hi:∀C s₀ H₀ fp,zOB (tK X (tgs++j4) scope C s₀ H₀ fp) ifs t) (he:∀C s₀ H₀ fp,PF (tK X (tgs++j4) scope C s₀ H₀ fp) elt el)
   (hs:∀x,foldedSetIterable iter X.env x=pure x:=by intro _;rfl) :
   PFr X (.ListComp elt [⟨tg,iter,ifs,0⟩] scope pos) (yN gi tgs.length js gt t el) :=
 PE.toR (zKt (g:=tFG X.K gt) (tc:=tFT X.K t) (te:=tF X.K el) sc tgs j4 js hp hc hsc (by rw[hNN];exact hok) hg hi he hs) fun σ H Q h=>zSp hgo h
def uB (sc:Scope)(N tgs j4:List Str)(js:List Nat){scope:Scope}{gt:Gf}{t:Tf}{el:Ef}(hgo:zNc gt)(i:Nat){x:Str}{pos' spos:Pos}(hN:X.N.Nodup)(hx:X.N[i]?=some x)(hl:X.env.scope.names.lookup x=some .local)(hp:PFI X tg iter gi)(hc:X.calm=true)(hsc:X.env.scope=sc)(hNN:X.N=N)(hok:fW sc scope N tgs j4 js=true)
   (hg:∀C s₀ H₀ fp,PFG (tK X (tgs++j4) scope C s₀ H₀ fp) tg gt) (hi:∀C s₀ H₀ fp,zOB (tK X (tgs++j4) scope C s₀ H₀ fp) ifs t) (he:∀C s₀ H₀ fp,PF (tK X (tgs++j4) scope C s₀ H₀ fp) elt el)
   (hsw:swapsWith (.ListComp elt [⟨tg,iter,ifs,0⟩] scope pos) (some (.Name x pos')) spos.line X.env=pure true:=by with_unfolding_all rfl) (hs:∀x,foldedSetIterable iter X.env x=pure x:=by intro _;rfl) :
   PFS X (.Assign [.Name x pos'] (.ListComp elt [⟨tg,iter,ifs,0⟩] scope pos) spos) (uO i (yN gi tgs.length js gt t el)) :=
 PS.to (zPB (g:=tFG X.K gt) (tc:=tFT X.K t) (te:=tF X.K el) sc tgs j4 js hN hx hl hp hc hsc (by rw[hNN];exact hok) hg hi he hsw hs) fun D σ H h=>zSA (fun _ _ _ q=>zSp hgo q) h
end
section
variable {X:Cx} {a b c e:Expr} {fa fb:Ef} {pos:Pos} {f:Sf}
def jN (i:Nat)(f:Ef):Sf:=fun ρ=>(f ρ).bind fun d=>match ρ[i]? with | some (.ow ds)=>if ds.length < lim then some (.nx (ρ.set i (.ow (ds++[d])))) else none | _=>none
def qO (i:Nat)(ht:PE X c (tBM X.K "list" zOO (zJd i) (zWw (tF X.K fa) zQR)))(hs:swapsWith c none pos.line X.env=pure false:=by rfl):PFS X (.Expr c pos) (jN i fa):=by
 refine PS.to (zKm ht hs) ?_
 rintro D σ H ⟨G0,H0,G,ρ,o,j2,hf,k⟩
 unfold jN at hf
 obtain⟨d,h1,hf⟩:=Qw.mp hf
 split at hf
 · rename_i ds hi
   split at hf
   · rename_i hl
     cases hf
     obtain⟨p,vs,e1,e2,e3,e4,e5⟩:=j2.addr hi
     refine⟨.ref p,e1,.inl ⟨rfl,vs,.of e2⟩,G0,H0,G,ρ,d,j2,h1,fun v H1 G1 s1 r1=>?_⟩
     have good1:=j2.step s1
     obtain⟨p',vs',f1,f2,f3,f4,f5⟩:=good1.addr hi
     rw[e1] at f1;cases f1
     exact⟨p,vs',v,rfl,rfl,f2,by rw[←f5.length];exact uY (Et hl),k σ _ G1 s1.gg (good1.wr hi e1 (f5.snoc r1))⟩
   · cases hf
 · cases hf
def zNg (j i:Nat)(f:Ef):Sf:=fun ρ=>(f ρ).bind fun d=>match d,ρ[i]? with
 | .int n,some (.ow ds)=>if ds.length<=lim then(ixN ds.length n).bind fun q=>(ds[q]?).map fun x=>.nx ((ρ.set i (.ow (ds.eraseIdx q))).set j (.fz x)) else none
 | _,_=>none
def zJt (j i:Nat){y:Str}{p4:Pos}(hNd:X.N.Nodup)(ht:PE X c (tBM X.K "list" zLJ (zJd i) (zWw (tF X.K fa) zQR)))(hj:X.N[j]?=some y:=by rfl)(hjx:Loc X.env.scope y:=by first | exact .inl rfl | exact .inr rfl)
   (hs:swapsWith c (some (.Name y p4)) pos.line X.env=pure false:=by rfl) (hfn:X.fn y=true∨X.env.scope.names.lookup y=some .local:=by first | exact .inl rfl | exact .inr rfl) :
   PFS X (.Assign [.Name y p4] c pos) (zNg j i fa):=by
 refine PS.to (zUs hNd hj hjx ht hs hfn) ?_
 rintro D σ H ⟨G0,H0,G,ρ,o,j2,hf,k⟩
 unfold zNg at hf
 obtain⟨d,h1,hf⟩:=Qw.mp hf
 split at hf
 · rename_i n ds hi
   split at hf
   · rename_i hl
     obtain⟨q,hq,hf⟩:=Qw.mp hf
     obtain⟨x',hx,rfl⟩:=Qy.mp hf
     obtain⟨p,vs,e1,e2,e3,e4,e5⟩:=j2.addr hi
     refine⟨.ref p,e1,.inl ⟨rfl,vs,.of e2⟩,G0,H0,G,ρ,_,j2,h1,fun v H1 G1 s1 r1=>?_⟩
     have good1:=j2.step s1
     obtain⟨p',vs',f1,f2,f3,f4,f5⟩:=good1.addr hi
     rw[e1] at f1;cases f1
     obtain⟨w,hw,rw'⟩:=f5.get hx
     have j5:=f5.length
     rw[j5] at hq
     obtain⟨q1,q2,q3,q4⟩:=zT0 hq
     have hb:vs'.length < 2^40:=by rw[←j5];exact Nat.lt_of_le_of_lt hl jb
     refine⟨p,vs',n,q,w,rfl,by rw[zD.mp r1],f2,jc,jc,q1,hw,?_⟩
     exact k _ _ G1 s1.gg ((good1.wr hi e1 (f5.erase q)).setF j rw')
   · cases hf
 · cases hf
def eJ (i:Nat)(fi fv:Ef):Sf:=fun ρ=>(fv ρ).bind fun d=>(fi ρ).bind fun n=>match n,ρ[i]? with
 | .int n,some (.ow ds)=>if ds.length<=lim then(ixN ds.length n).map fun q=>.nx (ρ.set i (.ow (ds.set q d))) else none
 | _,_=>none
def zXK (i:Nat){x:Str}{p1 p2:Pos}(he:PF X e fa)(hb:PF X b fb)(hN:X.N[i]?=some x:=by rfl)(hv:Vis X.env.scope x:=by first | exact Or.inl rfl | exact Or.inr (Or.inl rfl) | exact Or.inr (Or.inr rfl))(hd:(x==("__debug__":Str))=false:=by decide)(hcd:(x==("__classdict__":Str))=false:=by decide)
   (ha:∀v,assign (.Subscript (.Name x p1) b p2) X.env v=(do
     let ov ←holding [v] (eval (.Name x p1) X.env)
     let iv ←holding [v,ov] (eval b X.env)
     standAt p2
     holding [v,ov,iv] (setItem ov iv v)
     release [v,ov,iv] []):=by intro _;rfl)
   (hs:swapsWithSole [.Subscript (.Name x p1) b p2] e pos.line X.env=pure false:=by rfl) (hw:swappedStores [.Subscript (.Name x p1) b p2] e X.env=pure none:=by rfl)
   (h1:(assignEach [.Subscript (.Name x p1) b p2] X.env).map (·.2)=[assign (.Subscript (.Name x p1) b p2) X.env]:=by rfl):PFS X (.Assign [.Subscript (.Name x p1) b p2] e pos) (eJ i fb fa):=by
 refine PS.to (zQm he (zMz (pX hN hv hd hcd) hb zLH ha) hs hw h1) ?_
 rintro D σ H ⟨G0,H0,G,ρ,o,j2,hf,k⟩
 unfold eJ at hf
 obtain⟨d,h1,hf⟩:=Qw.mp hf
 obtain⟨n,h2,hf⟩:=Qw.mp hf
 split at hf
 · rename_i n ds hi
   split at hf
   · rename_i hl
     obtain⟨q,hq,rfl⟩:=Qy.mp hf
     refine⟨G0,H0,G,ρ,d,j2,h1,fun v H1 G1 s1 r1=>?_⟩
     have good1:=j2.step s1
     obtain⟨p,vs,e1,e2,e3,e4,e5⟩:=good1.addr hi
     refine⟨.ref p,e1,G0,H0,G1,ρ,_,good1,h2,fun u H2 G2 s2 r2=>?_⟩
     have good2:=good1.step s2
     obtain⟨p',vs',f1,f2,f3,f4,f5⟩:=good2.addr hi
     rw[e1] at f1;cases f1
     refine⟨p,vs',n,q,rfl,zD.mp r2,f2,by rw[←f5.length];exact hq,?_⟩
     exact k _ _ G2 (s1.gg.trans s2.gg) (good2.wr hi e1 (f5.set q (r1.mono s2.gg)))
   · cases hf
 · cases hf
def zPH:D->Option D
 | .tup ds=>some (.int ds.length)
 | .lst ds=>some (.int ds.length)
 | .str z=>if z.length<=lim then some (.int z.length) else none
 | _=>none
def wT (f:Ef):Ef:=fun ρ=>(f ρ).bind zPH
def vF {p:Pos}(hg:Gl X "len")(hm:X.mg "len"=none)(h:PF X a fa)(hs:starEach [a] X.env=[(false,eval a X.env)]:=by rfl):PF X (.Call (.Name "len" p) [a] [] pos) (wT fa):=by
 refine PE.to (pP (zZR.or zUo) hg hm PySem.boot_len (zE h yO (by rw[hs];rfl)) jb jb (by rw[hs];rfl) jf) ?_
 rintro σ H Q ⟨G0,H0,G,ρ,d,j2,hf,k⟩
 unfold wT at hf
 obtain⟨x,h1,hf⟩:=Qw.mp hf
 refine⟨G0,H0,G,ρ,_,j2,h1,fun v H1 G1 s1 r1=>?_⟩
 unfold zPH at hf
 split at hf
 · cases hf
   obtain⟨p,vs,rfl,q,rs⟩:=y0.mp r1
   exact .inl ⟨p,vs,rfl,.inr (s1.sub.tup q),k _ _ G1 s1 (zD.mpr (by rw[rs.length]))⟩
 · cases hf
   obtain⟨p,vs,rfl,q,rs⟩:=xB.mp r1
   exact .inl ⟨p,vs,rfl,.inl (s1.sub.seq q),k _ _ G1 s1 (zD.mpr (by rw[rs.length]))⟩
 · split at hf
   · rename_i hz
     cases hf
     exact .inr ⟨_,by rw[yG.mp r1],Et (uY hz),k _ _ G1 s1 (zD.mpr rfl)⟩
   · cases hf
 · cases hf
def dR (i:Nat):Ef:=fun ρ=>match ρ[i]? with | some (.ow ds)=>some (.int ds.length) | _=>none
def zTg (i:Nat){x:Str}{p p1:Pos}(hg:Gl X "len")(hm:X.mg "len"=none)(hN:X.N[i]?=some x:=by rfl)(hv:Vis X.env.scope x:=by first | exact Or.inl rfl | exact Or.inr (Or.inl rfl) | exact Or.inr (Or.inr rfl))(hd:(x==("__debug__":Str))=false:=by decide)(hcd:(x==("__classdict__":Str))=false:=by decide):PF X (.Call (.Name "len" p) [.Name x p1] [] pos) (dR i):=by
 refine PE.to (pP zZR hg hm PySem.boot_len (zE (pX hN hv hd hcd) yO)) ?_
 rintro σ H Q ⟨G0,H0,G,ρ,d,j2,hf,k⟩
 unfold dR at hf
 split at hf
 · rename_i ds hi
   cases hf
   obtain⟨q,vs,e1,e2,e3,e4,e5⟩:=j2.addr hi
   exact⟨.ref q,e1,q,vs,rfl,.inl (.of e2),k _ _ G (.refl j2.sub) (zD.mpr (by rw[e5.length]))⟩
 · cases hf
def zQC:D->Option D | .lst ds=>some (.tup ds) | .tup ds=>some (.tup ds) | _=>none
def wC (f:Ef):Ef:=fun ρ=>(f ρ).bind zQC
def vV {p:Pos}(hg:Gl X "tuple")(hm:X.mg "tuple"=none)(h:PF X a fa)(hs:starEach [a] X.env=[(false,eval a X.env)]:=by rfl):PF X (.Call (.Name "tuple" p) [a] [] pos) (wC fa):=by
 refine PE.to (pF zV9 hg hm jf (zE h yO (by rw[hs];rfl)) jb jb (by rw[hs];rfl) jf) ?_
 rintro σ H Q ⟨G0,H0,G,ρ,d,j2,hf,k⟩
 unfold wC at hf
 obtain⟨x,h1,hf⟩:=Qw.mp hf
 refine⟨G0,H0,G,ρ,_,j2,h1,fun v H1 G1 s1 r1=>?_⟩
 unfold zQC at hf
 split at hf
 · cases hf
   obtain⟨p,vs,rfl,q,rs⟩:=xB.mp r1
   refine⟨p,vs,rfl,.inl ⟨s1.sub.seq q,fun l hl=>?_⟩⟩
   have s2:=Step.laid (o:=.tup vs) s1.sub hl
   exact k _ _ _ (s1.trans s2) (y0.mpr ⟨l,vs,rfl,.of yW,rs.mono s2.gg⟩)
 · cases hf
   obtain⟨p,vs,rfl,q,rs⟩:=y0.mp r1
   exact⟨p,vs,rfl,.inr ⟨s1.sub.tup q,k _ _ G1 s1 r1⟩⟩
 · cases hf
def zML:D->Option (List D) | .lst ds=>some ds | .tup ds=>some ds | _=>none
def gS (f:Ef):Lf:=fun ρ=>(f ρ).bind zML
def iU {p:Pos}(hg:Gl X "list")(hm:X.mg "list"=none)(h:PF X a fa)(hs:starEach [a] X.env=[(false,eval a X.env)]:=by rfl):PFr X (.Call (.Name "list" p) [a] [] pos) (gS fa):=by
 refine PE.toR (pF zTu hg hm jf (zE h yO (by rw[hs];rfl)) jb jb (by rw[hs];rfl) jf) ?_
 rintro σ H Q ⟨G0,H0,G,ρ,d,j2,hf,k⟩
 unfold gS at hf
 obtain⟨x,h1,hf⟩:=Qw.mp hf
 refine⟨G0,H0,G,ρ,_,j2,h1,fun v H1 G1 s1 r1=>?_⟩
 unfold zML at hf
 split at hf
 · cases hf
   obtain⟨p,vs,rfl,q,rs⟩:=xB.mp r1
   exact⟨p,vs,rfl,.inl (s1.sub.seq q),fun l hl=>k l vs _ G1 (s1.trans (Step.own s1.sub hl)) (s1.hh.free hl) yW (s1.sub.free hl) rs⟩
 · cases hf
   obtain⟨p,vs,rfl,q,rs⟩:=y0.mp r1
   exact⟨p,vs,rfl,.inr (s1.sub.tup q),fun l hl=>k l vs _ G1 (s1.trans (Step.own s1.sub hl)) (s1.hh.free hl) yW (s1.sub.free hl) rs⟩
 · cases hf
def zSg:CallR X (.type "range") (fun xs H Q=>∃j,xs=[.int j]/\∀p,H p=none->Q (.ref p) (upd H p (.rng 0 j))):=by
 intro Z s σ H xs us Q I r h
 obtain⟨j,rfl,q⟩:=h
 obtain⟨u,rfl,ru⟩:=oG r
 obtain⟨t,rfl⟩:=ru
 refine call_range_1 ⟨.ref s.heap.objs.size,_,I.laid (o:=.rng 0 j) (fun b o e=>Qr _ e) (Ql _) ?_,rfl,q _ I.fresh⟩
 exact⟨_,_,_,Qz _ rfl⟩
def zW5 (hc:X.calm=true):CallR X (.type "list") (fun xs H Q=>∃p j,xs=[.ref p]/\H p=some (.rng 0 j) /\ -1000000<=j/\j<=100000/\∀l,H l=none->Q (.ref l) (upd H l (.lst ((List.range j.toNat).map fun(i:Nat)=>V.int (0+(i:Nat)))))):=by
 intro Z s σ H xs us Q I r h
 obtain⟨p,j,rfl,hp,h1,h2,q⟩:=h
 obtain⟨u,rfl,ru⟩:=oG r
 cases ru
 obtain⟨t,u',v,e⟩:=(show ObjOk X.prog X.w H s.heap p (.rng 0 j) from I.hok p _ hp)
 have hsz:Builtin.Range.rangeSize 0 j 1=(j.toNat:Nat):=by rw[rangeSize_one];split<;>omega
 refine call_list_range (n:=j.toNat) (I.ok.hd hc) (show IsRange s.heap p 0 j 1 t u' v from e) (small_one jc jc jc jc) hsz jc fun h' tk acc' c' hk hS hit=>?_
 have hvals:Vals ((List.range j.toNat).map fun(i:Nat)=>V.int (0+(i:Nat))) acc'.toList:=by
   have hl:acc'.toList.length=j.toNat:=by simpa using hit.1
   have gen:∀(l:jj) (k:Nat),(∀i v,l[i]?=some v->∃t,v=Value.int (0+((k+i:Nat):Int)) t)->Vals ((List.range' k l.length).map fun(i:Nat)=>V.int (0+(i:Nat))) l:=by
     intro l
     induction l with
     | nil=>intro k _;exact .nil
     | cons y r ih =>
       intro k hh
       rw[Qo,List.range'_succ,Qu]
       refine .cons ?_ (ih (k+1) fun i v e=>?_)
       · obtain⟨t,e⟩:=hh 0 y rfl
         exact⟨t,by simpa using e⟩
       · obtain⟨t,e'⟩:=hh (i+1) v (by simpa using e)
         exact⟨t,by rw[e',show k+(i+1)=k+1+i by omega]⟩
   have:=gen acc'.toList 0 fun i v e=>by
     obtain⟨t,e'⟩:=hit.2 i v (by simpa using e)
     exact⟨t,by rw[e'];simp⟩
   rw[hl,←List.range_eq_range'] at this
   exact this
 refine⟨.ref s.heap.objs.size,_,I.laid (t':=tk) (o:=.lst _) hk (Ql _) ?_,rfl,q _ I.fresh⟩
 exact⟨by rw[Qt,List.length_range];exact Et (uY (by show j.toNat<=100000;omega)),acc'.toList,c',hvals,by simpa using hS⟩
def zQQ (f:Ef):Lf:=fun ρ=>(f ρ).bind fun d=>match d with | .int n=>if decide (-1000000<=n)&&decide (n<=100000) then some (tD 0 n.toNat) else none | _=>none
def zNr {K:jg}{G:Hp}(n:Nat):Reps K G (tD 0 n) ((List.range n).map fun(i:Nat)=>V.int (0+(i:Nat))):=by
 unfold tD
 induction (List.range n) with
 | nil=>exact yR.mpr rfl
 | cons x r ih=>exact zB.mpr ⟨_,_,rfl,zD.mpr rfl,ih⟩
def zL8 {p p1 p2:Pos}(hc:X.calm=true)(hg:Gl X "list")(hm:X.mg "list"=none)(hg':Gl X "range")(hm':X.mg "range"=none)(h:PF X a fa)(hs:starEach [a] X.env=[(false,eval a X.env)]:=by rfl)
   (hs2:starEach [.Call (.Name "range" p1) [a] [] p2] X.env=[(false,eval (.Call (.Name "range" p1) [a] [] p2) X.env)]:=by rfl) :
   PFr X (.Call (.Name "list" p) [.Call (.Name "range" p1) [a] [] p2] [] pos) (zQQ fa):=by
 refine PE.toR (pF (zW5 hc) hg hm jf (zE (pF zSg hg' hm' jf (zE h yO (by rw[hs];rfl)) jb jb (by rw[hs];rfl) jf) yO (by rw[hs2];rfl)) jb jb (by rw[hs2];rfl) jf) ?_
 rintro σ H Q ⟨G0,H0,G,ρ,ds,j2,hf,k⟩
 unfold zQQ at hf
 obtain⟨d,h1,hf⟩:=Qw.mp hf
 cases d with
 | int n =>
   dsimp only at hf
   split at hf
   · rename_i hc
     cases hf
     simp only[Qc,Wb] at hc
     refine⟨G0,H0,G,ρ,_,j2,h1,fun x H1 G1 s1 r1=>⟨n,by rw[zD.mp r1],fun p hp=>⟨p,n,rfl,yW,hc.1,hc.2,fun l hl=>?_⟩⟩⟩
     have s2:Step G1 H1 G1 (upd H1 p (.rng 0 n)):=Step.own s1.sub hp
     have s3:=Step.own (o:=.lst ((List.range n.toNat).map fun(i:Nat)=>V.int (0+(i:Nat)))) s2.sub hl
     exact k l _ _ G1 ((s1.trans s2).trans s3) ((s1.trans s2).hh.free hl) yW (s2.sub.free hl) (zNr _)
   · cases hf
 | _=>cases hf
end
def spF (K:jg)(n:Nat)(f:jv):Sp:=fun vs H Q _=>∃G ds d,Same G H/\Reps K G ds vs/\ds.length=n/\f ds=some d/\∀v H' G',Step G H G' H'->Rep K G' d v->Q v H'
def spL (K:jg)(n:Nat)(f:List D->Option (List D)):Sp:=fun vs H Q _=>∃G ds es,Same G H/\Reps K G ds vs/\ds.length=n/\f ds=some es/\∀a us H' G',Step G H G' H'->H a=none->H' a=some (.lst us)->G' a=none->Reps K G' es us->Q (.ref a) H'
def lM (N:Nat)(ds:List D):List B:=ds.map .fz++List.replicate (N - ds.length) .no
def xR:Out->Option D
 | .nx _=>some .non
 | .rt d=>some d
 | .rl ds=>some (.lst ds)
 | _=>none
def zSI:Out->Option (List D)
 | .rl ds=>some ds
 | _=>none
def fnF (N:Nat)(body:Sf)(ds:List D):Option D:=(body (lM N ds)).bind xR
def fnL (N:Nat)(body:Sf)(ds:List D):Option (List D):=(body (lM N ds)).bind zSI
def aP {K:jg}{G H:Hp}{N:List Str}{ds:List D}{vs:List V}(s:Same G H)(r:Reps K G ds vs):Good K G H G H (nQ N vs) (lM N.length ds):=by
 refine⟨.refl s,?_,fun i j a es es' h1=>?_⟩
 · unfold nQ lM
   rw[r.length]
   have rep:∀m:Nat,Paired (RB K H G H) (List.replicate m (none:Option V)) (List.replicate m B.no):=fun m=>by
     induction m with
     | zero=>exact .nil
     | succ n ih=>rw[Wl,Wl];exact .cons .no ih
   have key:∀(ds:List D) (vs:List V) (l:List (Option V)) (q:List B),Reps K G ds vs->Paired (RB K H G H) l q->Paired (RB K H G H) (vs.map some++l) (ds.map .fz++q):=by
     intro ds
     induction ds with
     | nil=>intro vs l q h p;rw[yR] at h;subst h;exact p
     | cons d r ih =>
       intro vs l q h p
       obtain⟨v,vr,rfl,h1,h2⟩:=zB.mp h
       exact .cons (.fz h1) (ih vr l q h2 p)
   exact key ds vs _ _ r (rep _)
 · unfold lM at h1
   by_cases hi:i < ds.length
   · rw[Es (by simpa using hi),Wa] at h1
     obtain⟨k,_,h1⟩:=Qy.mp h1
     cases h1
   · rw[Ew (by simpa using hi),Ro] at h1
     split at h1<;>cases h1
section
variable {P:Program} {w:World} {K:jg} {mg:Str->Option Value} {base:Heap} {x qual:Str} {st:Stmt} {f:Addr} {fd:FuncData} {N ps:List Str} {k:Nat}
def xE {body:Sf}(F:Fun K x qual st f fd)(S:FnScope N ps (zS st))
   (hb:∀(j9:Value) (A:Around) (outer:List Env) (s:Shared) (H:Hp) (E:XK),Room k (A.deeper (envOfC qual (zS st) s.heap.objs.size f j9))->bU (zXn CX0 P w K mg base N qual (zS st) f j9 A outer s H E).nox (wH st) body) :
   FnOk P w K mg base CX0 (k+1) f fd ps (spF K ps.length (fnF N.length body)):=by
 refine F.ok S (fun vs H Q E h=>?_) (fun j9 A outer s H vs Q E hr h=>⟨_,hb j9 A outer s H E hr,?_⟩)
 · obtain⟨G,ds,d,sub,rs,hl,_⟩:=h
   rw[←rs.length];exact hl
 · obtain⟨G,ds,d,sub,rs,hl,hf,k⟩:=h
   unfold fnF at hf
   obtain⟨o,h1,h2⟩:=Qw.mp hf
   refine⟨G,H,G,_,o,aP sub rs,h1,?_⟩
   cases o with
   | nx ρ=>cases h2;exact fun σ' H' G' s' g'=>k .non H' G' g'.st (tY.mpr rfl)
   | rt e=>cases h2;exact fun v H' G' s' r=>k v H' G' s' r
   | rl es=>cases h2;exact fun p us H' G' s' hn hp gp r=>k _ H' (upd G' p (.lst us)) (s'.frz hn hp gp) (xB.mpr ⟨p,us,rfl,.of yW,r.mono (Same.new gp)⟩)
   | bk ρ=>cases h2
   | ct ρ=>cases h2
def zZV {body:Sf}(F:Fun K x qual st f fd)(S:FnScope N ps (zS st))
   (hb:∀(j9:Value) (A:Around) (outer:List Env) (s:Shared) (H:Hp) (E:XK),Room k (A.deeper (envOfC qual (zS st) s.heap.objs.size f j9))->bU (zXn CX0 P w K mg base N qual (zS st) f j9 A outer s H E).nox (wH st) body) :
   FnOk P w K mg base CX0 (k+1) f fd ps (spL K ps.length (fnL N.length body)):=by
 refine F.ok S (fun vs H Q E h=>?_) (fun j9 A outer s H vs Q E hr h=>⟨_,hb j9 A outer s H E hr,?_⟩)
 · obtain⟨G,ds,d,sub,rs,hl,_⟩:=h
   rw[←rs.length];exact hl
 · obtain⟨G,ds,d,sub,rs,hl,hf,k⟩:=h
   unfold fnL at hf
   obtain⟨o,h1,h2⟩:=Qw.mp hf
   refine⟨G,H,G,_,o,aP sub rs,h1,?_⟩
   cases o with
   | rl es=>cases h2;exact fun p us H' G' s' hn hp gp r=>k p us H' G' s' hn hp gp r
   | _=>cases h2
def zKS {CX:CXT}{n:Nat}:FnOk P w K mg base CX k f fd ps (spF K n fun _=>none) :=
 ⟨fun vs H Q E h=>(by obtain⟨_,_,_,_,_,_,z,_⟩:=h;exact nomatch z),fun A outer s H args us vs Q E _ _ _ _ h=>(by obtain⟨_,_,_,_,_,_,z,_⟩:=h;exact nomatch z)⟩
end
section
variable {X:Cx} {a b c e:Expr} {es:List Expr} {fa fb:Ef} {ga:Lf} {tc:Tf} {pos p:Pos} {f g:Sf}
def zN (n:Nat)(f:jv)(g:Lf):Ef:=fun ρ=>(g ρ).bind fun ds=>if ds.length=n then f ds else none
def zUz {k n:Nat}{fad:Addr}{fd:FuncData}{ps:List Str}{x:Str}{fD:jv}(F:FnOk X.prog X.w X.K X.mg X.base CX0 k fad fd ps (spF X.K n fD))(hr:Room k X.A)(hm:X.mg x=some (.ref fad))(hk:PySem.W.keepIn X.K (.ref fad)=true)(hb:Binds X.K fd ps [])(hg:Gl X x)
   (ha:PFA X (e::es) ga) (hdb:(x==("__debug__":Str))=false:=by decide) (he:starEach (e::es) X.env=(false,eval e X.env)::starEach es X.env:=by rfl) (hpl:(backTo pos (starEach es X.env)).any (·.1)=false:=by rfl) :
   PF X (.Call (.Name x p) (e::es) [] pos) (zN n fD ga):=by
 refine PE.to (zT8 (E:=E0) F hr hg hm hk hb .nil zRd ha hdb he hpl) ?_
 rintro σ H Q ⟨G0,H0,G,ρ,d,j2,hf,k⟩
 unfold zN at hf
 obtain⟨ds,h1,hf⟩:=Qw.mp hf
 split at hf
 · rename_i hl
   refine⟨G0,H0,G,ρ,_,j2,h1,fun vs H1 G1 s1 r1=>?_⟩
   show spF X.K n fD (vs++[]) H1 Q E0
   rw[Wx]
   exact⟨G1,ds,d,s1.sub,r1,hl,hf,fun v H' G' s r=>k v H' G' (s1.trans s) r⟩
 · cases hf
def tR (n:Nat)(f:List D->Option (List D))(g:Lf):Lf:=fun ρ=>(g ρ).bind fun ds=>if ds.length=n then f ds else none
def zJm {k n:Nat}{fad:Addr}{fd:FuncData}{ps:List Str}{x:Str}{fD:List D->Option (List D)}(F:FnOk X.prog X.w X.K X.mg X.base CX0 k fad fd ps (spL X.K n fD))(hr:Room k X.A)(hm:X.mg x=some (.ref fad))(hk:PySem.W.keepIn X.K (.ref fad)=true)(hb:Binds X.K fd ps [])(hg:Gl X x)
   (ha:PFA X (e::es) ga) (hdb:(x==("__debug__":Str))=false:=by decide) (he:starEach (e::es) X.env=(false,eval e X.env)::starEach es X.env:=by rfl) (hpl:(backTo pos (starEach es X.env)).any (·.1)=false:=by rfl) :
   PFr X (.Call (.Name x p) (e::es) [] pos) (tR n fD ga):=by
 refine PE.toR (zT8 (E:=E0) F hr hg hm hk hb .nil zRd ha hdb he hpl) ?_
 rintro σ H Q ⟨G0,H0,G,ρ,d,j2,hf,k⟩
 unfold tR at hf
 obtain⟨ds,h1,hf⟩:=Qw.mp hf
 split at hf
 · rename_i hl
   refine⟨G0,H0,G,ρ,_,j2,h1,fun vs H1 G1 s1 r1=>?_⟩
   show spL X.K n fD (vs++[]) H1 Q E0
   rw[Wx]
   exact⟨G1,ds,d,s1.sub,r1,hl,hf,fun p us H' G' s hn hp gp r=>k p us H' G' (s1.trans s) (s1.hh.free hn) hp gp r⟩
 · cases hf
def pS (t:Tf)(body:Sf):Nat->Sf
 | 0,_=>none
 | n+1,ρ=>(t ρ).bind fun c=>if c=true then(body ρ).bind fun o=>match o with
     | .nx ρ2=>pS t body n ρ2
     | .ct ρ2=>pS t body n ρ2
     | .bk ρ2=>some (.nx ρ2)
     | o=>some o
   else some (.nx ρ)
def zVt (n:Nat){body:List Stmt}{fb:Sf}(hp:PassesOwn (model X.prog X.w) X.A X.env X.xe)(hc:PFT X c tc)(hb:bU X body fb):PFS X (.While c body [] pos) (pS tc fb n):=by
 refine PS.to (zKD hp hc hb) ?_
 rintro D σ H ⟨G0,H0,G,ρ,o,j2,hf,k⟩
 refine⟨fun m σ H=>∃G2 ρ2,Same G G2/\Good X.K G0 H0 G2 H σ ρ2/\pS tc fb m ρ2=some o,⟨n,G,ρ,Same.refl _,j2,hf⟩,?_⟩
 rintro m σ2 H2 ⟨G2,ρ2,sg,good2,hf2⟩
 cases m with
 | zero=>cases hf2
 | succ m =>
   unfold pS at hf2
   obtain⟨c',h1,hf2⟩:=Qw.mp hf2
   refine⟨G0,H0,G2,ρ2,c',good2,h1,fun H3 G3 s3=>?_⟩
   cases c' with
   | true =>
     rw[Qv rfl] at hf2
     obtain⟨o1,e2,hf2⟩:=Qw.mp hf2
     refine⟨fun σ' H'=>∃G2 ρ2,Same G G2/\Good X.K G0 H0 G2 H' σ' ρ2/\pS tc fb m ρ2=some o,fun σ' H' h=>⟨m,Ib _,h⟩,?_⟩
     refine⟨G0,H0,G3,ρ2,o1,good2.step s3,e2,?_⟩
     have sg3:Same G G3:=sg.trans s3.gg
     cases o1 with
     | nx ρ5=>exact fun σ5 H5 G5 s5 good5=>⟨G5,ρ5,sg3.trans s5,good5,hf2⟩
     | ct ρ5=>exact fun σ5 H5 G5 s5 good5=>⟨G5,ρ5,sg3.trans s5,good5,hf2⟩
     | bk ρ5=>cases hf2;exact fun σ5 H5 G5 s5 good5=>k σ5 H5 G5 (sg3.trans s5) good5
     | rt d=>cases hf2;exact k
     | rl d=>cases hf2;exact k
   | false =>
     rw[Wh jb] at hf2
     cases hf2
     exact k σ2 H3 G3 (sg.trans s3.gg) (good2.step s3)
def tyD:D->Option String
 | .non=>some "NoneType"
 | .bl _=>some "bool"
 | .int _=>some "int"
 | .str _=>some "str"
 | .tup _=>some "tuple"
 | .lst _=>some "list"
 | _=>none
def zG4 {Z:ji}{σ:St}{H G:Hp}{s:Shared}{A:Around}{E:jh}{Q:jh}{d:D}{v:V}{u cl:Value}{t:String}{k:Bool}(I:Inv X Z σ H s)(rv:RelV v u)(sub:Same G H)(r:Rep X.K G d v)(ht:tyD d=some t)
   (e:PySem.W.kitOne X.K (.type t) cl=some k) (h:∀tk,Q (.bool k) { s with toks:=tk }):wpAny (model X.prog X.w) A (call (.builtin "isinstance") [u,cl]) Q E s:=by
 cases d with
 | non=>cases ht;rw[tY] at r;subst r;cases rv;exact Tz PySem.W.kitx_none I.kIn True.intro e (fun z=>nomatch z) h
 | bl y=>cases ht;rw[vU] at r;subst r;cases rv;exact Tz PySem.W.kitx_bool I.kIn True.intro e (fun z=>nomatch z) h
 | int i=>cases ht;rw[zD] at r;subst r;obtain⟨t,rfl⟩:=rv;exact Tz PySem.W.kitx_int I.kIn True.intro e (fun z=>nomatch z) h
 | str i=>cases ht;rw[yG] at r;subst r;obtain⟨t,rfl⟩:=rv;exact Tz PySem.W.kitx_str I.kIn True.intro e (fun z=>nomatch z) h
 | tup ds =>
   cases ht
   obtain⟨p,vs,rfl,q,_⟩:=y0.mp r
   cases rv
   obtain⟨j6,_,⟨o,h1,h2,_⟩,_⟩:=I.tuple (sub.tup q)
   exact Tz PySem.W.kitx_tuple I.kIn ⟨o,h1,h2⟩ e (fun z=>nomatch z) h
 | lst ds =>
   cases ht
   obtain⟨p,vs,rfl,q,_⟩:=xB.mp r
   cases rv
   obtain⟨j6,_,⟨o,n,h1,h2,_⟩,_⟩:=I.list (sub.seq q)
   exact Tz PySem.W.kitx_list I.kIn ⟨o,h1,h2⟩ e (fun z=>nomatch z) h
 | obj C ns ds=>cases ht
 | exc C ns ds=>cases ht
theorem zKj (K:jg):∀t:String,t∈["NoneType","bool","int","str","tuple","list"]->PySem.W.kitOne K (.type t) (.type "int")=some (decide (t="bool"∨t="int")):=by
 intro t ht
 simp only[Qh,Wf,Ra] at ht
 rcases ht with rfl | rfl | rfl | rfl | rfl | rfl<;>kernel_rfl
theorem zLb (K:jg):∀t:String,t∈["NoneType","bool","int","str","tuple","list"]->PySem.W.kitOne K (.type t) (.type "bool")=some (decide (t="bool")):=by
 intro t ht
 simp only[Qh,Wf,Ra] at ht
 rcases ht with rfl | rfl | rfl | rfl | rfl | rfl<;>kernel_rfl
theorem zK6 (K:jg):∀t:String,t∈["NoneType","bool","int","str","tuple","list"]->PySem.W.kitOne K (.type t) (.type "str")=some (decide (t="str")):=by
 intro t ht
 simp only[Qh,Wf,Ra] at ht
 rcases ht with rfl | rfl | rfl | rfl | rfl | rfl<;>kernel_rfl
theorem zNI (K:jg):∀t:String,t∈["NoneType","bool","int","str","tuple","list"]->PySem.W.kitOne K (.type t) (.type "tuple")=some (decide (t="tuple")):=by
 intro t ht
 simp only[Qh,Wf,Ra] at ht
 rcases ht with rfl | rfl | rfl | rfl | rfl | rfl<;>kernel_rfl
theorem zMQ (K:jg):∀t:String,t∈["NoneType","bool","int","str","tuple","list"]->PySem.W.kitOne K (.type t) (.type "list")=some (decide (t="list")):=by
 intro t ht
 simp only[Qh,Wf,Ra] at ht
 rcases ht with rfl | rfl | rfl | rfl | rfl | rfl<;>kernel_rfl
def zZ2 {d:D}{t:String}(h:tyD d=some t):t∈["NoneType","bool","int","str","tuple","list"]:=by
 cases d<;>cases h<;>simp
def pK (p:D->Bool)(f:Ef):Ef:=fun ρ=>(f ρ).bind fun d=>match d with | .obj _ _ _=>none | .exc _ _ _=>none | d=>some (.bl (p d))
def isInt:D->Bool | .int _=>true | .bl _=>true | _=>false
def cP:D->Bool | .bl _=>true | _=>false
def eZ:D->Bool | .str _=>true | _=>false
def rX:D->Bool | .tup _=>true | _=>false
def aZ:D->Bool | .lst _=>true | _=>false
def pD {T:Str}{TT:String}{q:D->Bool}{p1:Pos}(hT:bootBuiltins T=some (.type TT))(hq:∀(K:jg) d t,tyD d=some t->PySem.W.kitOne K (.type t) (.type TT)=some (q d))(hg:Gl X "isinstance")(hm:X.mg "isinstance"=none)(hgT:Gl X T)(hmT:X.mg T=none)(h:PF X a fa)
   (hn:T≠"__name__":=by decide) (hd:(T==("__debug__":Str))=false:=by decide) (hs:starEach [a,.Name T p1] X.env=[(false,eval a X.env),(false,eval (.Name T p1) X.env)]:=by rfl):PF X (.Call (.Name "isinstance" p) [a,.Name T p1] [] pos) (pK q fa):=by
 have hcall:CallR X (.builtin "isinstance") (fun xs H Q=>∃x G d,xs=[x,.ty TT]/\Same G H/\Rep X.K G d x/\(tyD d).isSome=true/\Q (.bl (q d)) H):=by
   intro Z s σ H xs us Q I r hh
   obtain⟨x,G,d,rfl,sub,rx,ht,qq⟩:=hh
   obtain⟨u,u',rfl,ru,ru'⟩:=zRn r
   cases ru'
   obtain⟨t,ht⟩:=Eb.mp ht
   exact zG4 I ru sub rx ht (hq _ d t ht) fun tk=>⟨.bl (q d),H,I.tok tk,rfl,qq⟩
 refine PE.to (pP hcall hg hm jf (zE h (zE (zJv (v:=.ty TT) hgT hmT hT rfl hn hd) yO) (by rw[hs];rfl)) jb jb (by rw[hs];rfl) jf) ?_
 rintro σ H Q ⟨G0,H0,G,ρ,d,j2,hf,k⟩
 unfold pK at hf
 obtain⟨x,h1,hf⟩:=Qw.mp hf
 refine⟨G0,H0,G,ρ,_,j2,h1,fun v H1 G1 s1 r1=>?_⟩
 have hx:(tyD x).isSome=true/\d = .bl (q x):=by
   cases x<;>first
     | (cases hf;exact⟨rfl,rfl⟩)
     | cases hf
 obtain⟨hx,rfl⟩:=hx
 exact⟨v,G1,x,rfl,s1.sub,r1,hx,k _ _ G1 s1 (vU.mpr rfl)⟩
def zME (K:jg)(d:D)(t:String)(h:tyD d=some t):PySem.W.kitOne K (.type t) (.type "int")=some (isInt d):=by
 rw[zKj K t (zZ2 h)];cases d<;>cases h<;>simp[isInt,cP,eZ,rX,aZ]
def zJU (K:jg)(d:D)(t:String)(h:tyD d=some t):PySem.W.kitOne K (.type t) (.type "bool")=some (cP d):=by
 rw[zLb K t (zZ2 h)];cases d<;>cases h<;>simp[isInt,cP,eZ,rX,aZ]
def zQe (K:jg)(d:D)(t:String)(h:tyD d=some t):PySem.W.kitOne K (.type t) (.type "str")=some (eZ d):=by
 rw[zK6 K t (zZ2 h)];cases d<;>cases h<;>simp[isInt,cP,eZ,rX,aZ]
def zXq (K:jg)(d:D)(t:String)(h:tyD d=some t):PySem.W.kitOne K (.type t) (.type "tuple")=some (rX d):=by
 rw[zNI K t (zZ2 h)];cases d<;>cases h<;>simp[isInt,cP,eZ,rX,aZ]
def zMA (K:jg)(d:D)(t:String)(h:tyD d=some t):PySem.W.kitOne K (.type t) (.type "list")=some (aZ d):=by
 rw[zMQ K t (zZ2 h)];cases d<;>cases h<;>simp[isInt,cP,eZ,rX,aZ]
def zOa:List D->Option (List Bool)
 | []=>some []
 | .bl k::r=>(zOa r).map fun ks=>k::ks
 | _=>none
def zNl (f:Ef):Ef:=fun ρ=>(f ρ).bind fun d=>match d with | .lst ds=>(zOa ds).map fun ks=>.bl (ks.all id) | _=>none
def zNw (hc:X.calm=true):CallR X (.builtin "all") (fun xs H Q=>∃(p:Addr) (ks:List Bool),xs=[V.ref p]/\SqL X.K H p (ks.map V.bl)/\Q (.bl (ks.all id)) H):=by
 intro Z s σ H xs us Q I r h
 obtain⟨p,ks,rfl,hq,q⟩:=h
 obtain⟨u,rfl,ru⟩:=oG r
 cases ru
 obtain⟨j6,rv,pl,hz⟩:=I.list hq
 have hks:∀(i:Nat) (v:Value),j6[i]?=some v->∃k,ks[i]?=some k/\v=Value.bool k:=fun i v e=>by
   have hi:i < ks.length:=by have:=rv.length;rw[Qt] at this;rw[this];exact(Ww.mp e).1
   obtain⟨u,e1,r1⟩:=rv.get (i:=i) (x:=.bl ks[i]) (by rw[Wa,Qi hi];rfl)
   rw[e] at e1;cases e1
   exact⟨ks[i],Qi hi,r1⟩
 have j5:j6.length=ks.length:=by have:=rv.length;rw[Qt] at this;exact this.symm
 refine call_all_walk (Yz pl.isList ?_)
 have hne:p≠s.heap.objs.size:=by obtain⟨o,_,e,_⟩:=pl;exact Er (Qs e)
 refine⟨s.heap.objs.size,_,_,_,_,_,fun i=>(ks[i]?).getD true,rfl,Walks.list (A:=X.A.in1) (I.ok.hd hc) s.heap.objs.size p hne j6.toArray,⟨⟨_,Qz _ rfl,rfl,rfl⟩,pl.isList.push _⟩,?_,fun h' tk hk=>?_⟩
 · intro i v s' Q' E' hv hQ'
   obtain⟨k,e1,rfl⟩:=hks i v (by simpa using hv)
   have hQ2:Q' ((ks[i]?).getD true) s':=hQ'
   rw[e1] at hQ2
   exact Ti hQ2
 · have hI:Inv X Z σ H { s with heap:=h',toks:=tk }:=I.kept fun b o e=>hk b o (by simp;exact Er (Qs e)) (Qr _ e)
   have e:((List.range j6.toArray.size).all fun i=>(ks[i]?).getD true)=ks.all id:=by
     rw[Qg,j5]
     rw[Yo]
     simp only[Qn,Te,id]
     constructor
     · intro h x hx
       obtain⟨i,hi,rfl⟩:=List.getElem_of_mem hx
       have:=h i hi
       rw[Qi hi] at this
       exact this
     · intro h i hi
       rw[Qi hi]
       exact h _ (Rj hi)
   rw[e]
   exact⟨.bl (ks.all id),H,hI,rfl,q⟩
def zRs {K:jg}{G:Hp}:∀ {ds:List D} {vs:List V} {ks:List Bool},zOa ds=some ks->Reps K G ds vs->vs=ks.map V.bl
 | [],_,_,h,r=>by cases h;rw[yR] at r;rw[r];rfl
 | d::t,_,_,h,r=>by
   unfold zOa at h
   split at h
   · rename_i h';cases h'
   · rename_i k t' h'
     cases h'
     obtain⟨v,vr,rfl,r1,r2⟩:=zB.mp r
     obtain⟨ks,h1,rfl⟩:=Qy.mp h
     rw[zRs h1 r2,vU.mp r1];rfl
   · cases h
def zIb (hc:X.calm=true)(hg:Gl X "all")(hm:X.mg "all"=none)(h:PF X a fa)(hs:starEach [a] X.env=[(false,eval a X.env)]:=by rfl):PF X (.Call (.Name "all" p) [a] [] pos) (zNl fa):=by
 refine PE.to (pP (zNw hc) hg hm jf (zE h yO (by rw[hs];rfl)) jb jb (by rw[hs];rfl) jf) ?_
 rintro σ H Q ⟨G0,H0,G,ρ,d,j2,hf,k⟩
 unfold zNl at hf
 obtain⟨x,h1,hf⟩:=Qw.mp hf
 cases x with
 | lst ds =>
   dsimp only at hf
   obtain⟨ks,h2,rfl⟩:=Qy.mp hf
   refine⟨G0,H0,G,ρ,_,j2,h1,fun v H1 G1 s1 r1=>?_⟩
   obtain⟨p,vs,rfl,q,rs⟩:=xB.mp r1
   have e:=zRs h2 rs
   subst e
   exact⟨p,ks,rfl,s1.sub.seq q,k _ _ G1 s1 (vU.mpr rfl)⟩
 | _=>cases hf
end
def Inv.turnedNew {X:Cx}{Z:ji}{σ:St}{H:Hp}{s:Shared}{h':Heap}{t':Nat}{fp:List Addr}{T:Addr}{o:HO}(I:Inv X Z σ H s)(k:∀b u,b∉fp->s.heap.get? b=some u->h'.get? b=some u)
   (hf:∀b∈fp,lD X Z H b) (hT:s.heap.objs.size<=T) (new:ObjOk X.prog X.w (upd H T o) h' T o):Inv X Z σ (upd H T o) { s with heap:=h',toks:=t' }:=by
 have fr:H T=none:=I.hok.fresh hT
 have neT:∀b u,s.heap.get? b=some u->b≠T:=fun b u e=>Er (Wp (Qs e) hT)
 have nfp:∀b u,H b=some u->b∉fp:=fun b u e z=>by have:=(hf b z).1;rw[e] at this;cases this
 refine I.step (g':=s.gens) (d':=s.drawn) (ch:=fp) (fun b hb=>⟨(hf b hb).2.2.2.1,(hf b hb).2.1,(hf b hb).2.2.2.2.1,(hf b hb).2.2.2.2.2⟩) (fun b u _ _ hc e _=>k b u hc e)
   (fun b u _ _ hc e _=>⟨u.slots,k b u hc e⟩) (fun b u _ e n=>by rw[yL (neT b u e)];exact n) (fun b u hc e=>⟨u,k b u hc e⟩)
   (fun b xs e=>by rw[yL (xH e fr)];exact e) (fun b u x e=>by rw[yL (xH e fr)];exact e) (fun b ps e=>⟨#[],by rw[yL (xH e fr),e];simp⟩) (fun m hm=>?_) (fun b u e=>?_) I.bare
 · obtain⟨ob,es,ep,ho,r⟩:=hm
   exact⟨ob,es,ep,k _ ob (fun z=>(hf _ z).2.1 rfl) ho,r⟩
 · by_cases hb:b=T
   · subst hb;rw[yW] at e;cases e;exact new
   · rw[yL hb] at e
     refine(I.hok b u e).stay (fun c v hc q=>k c v ?_ q) (fun c q=>by rw[yL (xH q fr)];exact q) fun c xs q=>by rw[yL (xH q fr)];exact q
     rcases hc with z | z
     · rw[z];exact nfp b u e
     · exact nfp c _ z
def Inv.turnedL {X:Cx}{Z:ji}{σ:St}{H:Hp}{s:Shared}{h':Heap}{t':Nat}{fp:List Addr}(I:Inv X Z σ H s)(k:∀b u,b∉fp->s.heap.get? b=some u->h'.get? b=some u)
   (hf:∀b∈fp,lD X Z H b):Inv X Z σ H { s with heap:=h',toks:=t' }:=by
 have nfp:∀b u,H b=some u->b∉fp:=fun b u e z=>by have:=(hf b z).1;rw[e] at this;cases this
 refine I.step (g':=s.gens) (d':=s.drawn) (ch:=fp) (fun b hb=>⟨(hf b hb).2.2.2.1,(hf b hb).2.1,(hf b hb).2.2.2.2.1,(hf b hb).2.2.2.2.2⟩) (fun b u _ _ hc e _=>k b u hc e)
   (fun b u _ _ hc e _=>⟨u.slots,k b u hc e⟩) (fun b u _ e n=>n) (fun b u hc e=>⟨u,k b u hc e⟩) (fun b xs e=>e) (fun b u x e=>e) (fun b ps e=>⟨#[],by rw[e];simp⟩) (fun m hm=>?_) (fun b u e=>?_) I.bare
 · obtain⟨ob,es,ep,ho,r⟩:=hm
   exact⟨ob,es,ep,k _ ob (fun z=>(hf _ z).2.1 rfl) ho,r⟩
 · refine(I.hok b u e).stay (fun c v hc q=>k c v ?_ q) (fun c q=>q) fun c xs q=>q
   rcases hc with z | z
   · rw[z];exact nfp b u e
   · exact nfp c _ z
def Ite (K:jg)(a:Addr):It :=
 ⟨fun i H=>∃xs x,SqL K H a xs/\xs[i]?=some x,fun i H x H'=>∃p v,H p=none/\x = .ref p/\H'=upd H p (.tup [.int (i:Nat),v])/\∀xs,SqL K H a xs->xs[i]?=some v,fun i H=>∃xs,SqL K H a xs/\xs.length<=i⟩
def zOl {P:Program}{w:World}{K:jg}{elts:List Expr}{k:Nat}{pos:Pos}(a e it:Addr)(hei:e≠it):Turn P w K (.Tuple elts k pos) (Ite K a) [e,it] e (fun i h=>(∃old,IsEnum h e it (i:Nat) old)/\h.IsListIter it a i) where
 mem:=jd
 obj:=fun i h st b hb=>by
   obtain⟨⟨old,he⟩,o,h1,h2,h3⟩:=st
   rcases Qh.mp hb with z | z
   · subst z;exact⟨_,he,fun v q=>nomatch q⟩
   · rcases Qh.mp z with z | z
     · subst z;exact⟨o,h1,fun v q=>by rw[h3] at q;cases q⟩
     · cases z
 keep:=fun i h h' st kk=>by
   obtain⟨⟨old,he⟩,hl⟩:=st
   exact⟨⟨old,kk e jd _ he⟩,hl.at fun o q=>kk it jd o q⟩
 item:=by
   intro X hP hw hK hc i Z s σ H E I hf st hg
   subst hP hw hK
   obtain⟨xs,x,hq,hx⟩:=hg
   obtain⟨j6,rv,p,hz⟩:=I.list hq
   obtain⟨u,hu,ru⟩:=rv.get hx
   obtain⟨⟨old,he⟩,hit⟩:=st
   refine wpAny_pyNext_enum_item he hit p.isList (x:=u) (by simpa using hu) hei fun h1 ho hit1 hT hsz hk=>?_
   have I1:Inv X Z σ (upd H s.heap.objs.size (.tup [.int (i:Nat),x])) { s with heap:=h1,toks:=s.toks+1 }:=I.turnedNew (fun b o hb e=>hk b o (fun z=>hb (by simp[z])) (fun z=>hb (by simp[z])) e) hf (Ql _)
     ⟨by show 2<=sizeLine;exact Et (uY jb),[.int (i:Nat) s.toks,u],.cons ⟨_,rfl⟩ (.cons ru .nil),⟨_,hT,rfl,_,rfl⟩⟩
   refine⟨_,rfl,wpAny_letOwnedTupleGo_enum ho fun h2 he2 hs2=>?_⟩
   have hs2:Heap.SameBut e h1 h2:=hs2
   have neT:∀b∈[e,it],b≠s.heap.objs.size:=fun b hb z=>by
     obtain⟨o,h1,h2,h3⟩:=hit
     rcases Qh.mp hb with q | q
     · exact absurd (Qs he) (by rw[←q,z];exact Wk _)
     · rcases Qh.mp q with q | q
       · exact absurd (Qs h1) (by rw[←q,z];exact Wk _)
       · cases q
   have hf1:∀b∈[e,it],lD X Z (upd H s.heap.objs.size (.tup [.int (i:Nat),x])) b:=fun b hb=>⟨by rw[yL (neT b hb)];exact(hf b hb).1,(hf b hb).2⟩
   have I2:=I1.turnedL (h':=h2) (t':=s.toks+1) (fp:=[e,it]) (fun b o hb q=>(hs2.2 b (fun z=>hb (by simp[z]))).trans q) hf1
   refine⟨.ref s.heap.objs.size,_,I2,rfl,⟨s.heap.objs.size,x,I.fresh,rfl,rfl,fun ys hy=>by rw[I.list_inj hy hq];exact hx⟩,⟨⟨_,by simpa using he2⟩,hit1.at fun o q=>(hs2.2 it hei.symm).trans q⟩,fun b hb=>(hf1 b hb).1⟩
 done:=by
   intro X hP hw hK hc i Z s σ H E I hf st hg
   subst hP hw hK
   obtain⟨xs,hq,hx⟩:=hg
   obtain⟨j6,rv,p,hz⟩:=I.list hq
   obtain⟨⟨old,he⟩,hit⟩:=st
   have hl:=rv.length
   exact wpAny_pyNext_enum_end (I.ok.hd hc) he hit p.isList (by simp;omega) fun h' eb=>⟨rfl,I.turnedL (t':=s.toks) (fp:=[e,it]) (fun b o hb q=>eb b o (fun z=>hb (by simp[z])) q) hf⟩
 self:=fun _ _ _ _ _ st h=>wpAny_pyIter_enum st.1.choose_spec h
def zSj {K:jg}{G:Hp}{a:Addr}{vs:List V}{ds:List D}(h:SqL K G a vs)(r:Reps K G ds vs):aU K (Ite K a) G (ds.zipIdx.map fun q=>D.tup [.int (q.2:Nat),q.1]):=by
 intro i G2 H2 s1 s2
 have q:SqL K H2 a vs:=(s1.trans s2).seq h
 refine⟨fun d hd=>?_,fun hi=>⟨vs,q,by rw[←r.length];simpa using hi⟩⟩
 rw[Wa,List.getElem?_zipIdx] at hd
 obtain⟨⟨d0,j⟩,hd2,hd3⟩:=Qy.mp hd
 obtain⟨d1,hd1,e⟩:=Qy.mp hd2
 cases e
 subst hd3
 obtain⟨v,e,rv⟩:=r.get hd1
 refine⟨⟨vs,v,q,e⟩,fun x H3 y=>?_⟩
 obtain⟨p,u,hp,rfl,rfl,y⟩:=y
 have e2:=y vs q
 rw[e] at e2;cases e2
 have s3:=Step.laid (o:=.tup [.int (i:Nat),v]) s2 hp
 refine⟨_,s3,y0.mpr ⟨p,_,rfl,.of yW,zB.mpr ⟨_,_,rfl,zD.mpr jd,zB.mpr ⟨_,_,rfl,(rv.mono s1).mono s3.gg,yR.mpr rfl⟩⟩⟩⟩
section
variable {X:Cx} {a b e:Expr} {es:List Expr} {fa:Ef} {ga gb:Lf} {pos p:Pos}
def numbered (ds:List D):List D:=ds.zipIdx.map fun q=>D.tup [.int (q.2:Nat),q.1]
def zSG (g:Lf):Lf:=fun ρ=>(g ρ).map numbered
def zKa (K:jg)(f:Lf):TE:=fun σ H Q=>∃G0 H0 G ρ ds,Good K G0 H0 G H σ ρ/\f ρ=some ds/\∀a vs H' G',Step G H G' H'->SqL K G' a vs->Reps K G' ds vs->Q (.ref a) H'
def zTp (X:Cx)(e:Expr)(f:Lf):Prop:=PE X e (zKa X.K f)
def nS (h:PFr X e ga):zTp X e ga:=fun Z s σ H Q I q=>h Z s σ H Q I (by
 obtain⟨G0,H0,G,ρ,ds,j2,hf,k⟩:=q
 exact⟨G0,H0,G,ρ,ds,j2,hf,fun p vs H' G' s hn hp gp rs=>k p vs H' (upd G' p (.lst vs)) (s.frz hn hp gp) (.of yW) (rs.mono (Same.new gp))⟩)
def zYZ (h:PF X e fa):zTp X e (iL fa):=fun Z s σ H Q I q=>h Z s σ H Q I (by
 obtain⟨G0,H0,G,ρ,ds,j2,hf,k⟩:=q
 unfold iL at hf
 obtain⟨d,h1,hf⟩:=Qw.mp hf
 cases d with
 | lst es =>
   cases hf
   refine⟨G0,H0,G,ρ,_,j2,h1,fun x H1 G1 s1 r1=>?_⟩
   obtain⟨p,vs,rfl,q,rs⟩:=xB.mp r1
   exact k p vs H1 G1 s1 q rs
 | _=>cases hf)
def zKu {elts:List Expr}{k:Nat}{pos':Pos}(hg:Gl X "enumerate")(hm:X.mg "enumerate"=none)(h:zTp X a ga)(hs:starEach [a] X.env=[(false,eval a X.env)]:=by rfl):PFI X (.Tuple elts k pos') (.Call (.Name "enumerate" p) [a] [] pos) (zSG ga):=by
 intro Z s σ H R I q
 obtain⟨G0,H0,G,ρ,ds,j2,hf,kk⟩:=q
 unfold zSG at hf
 obtain⟨es,h1,rfl⟩:=Qy.mp hf
 have h2:=zE h yO (by rw[hs];rfl) pos Z s σ H (fun vs H'=>∃a us G',vs=[.ref a]/\Step G H G' H'/\SqL X.K G' a us/\Reps X.K G' es us) I ⟨G0,H0,G,ρ,es,j2,h1,fun a us H' G' s' hq rs=>⟨a,us,G',rfl,s',hq,rs⟩⟩
 refine Call_ (oA I hg hm jf (Ei (thn h2 fun us s1 ⟨vs,H1,I1,r1,l,ws,G1,e1,st1,hq,rs⟩=>?_) hs rfl))
 subst e1
 obtain⟨u,rfl,ru⟩:=oG r1
 cases ru
 obtain⟨j6,rv,pl,hz⟩:=I1.list (st1.sub.seq hq)
 refine call_enumerate_list pl.isList fun h' he hit hsz hk=>?_
 have I2:Inv X Z σ H1 { s1 with heap:=h' }:=I1.kept (t':=s1.toks) hk
 refine wpAny_pyIter_enum he ?_
 refine⟨_,[s1.heap.objs.size+1,s1.heap.objs.size],_,_,H1,rfl,I2,zOl l _ _ (Nat.succ_ne_self _),⟨⟨_,he⟩,hit⟩,fun b hb=>?_,kk _ H1 G1 st1 (zSj hq rs)⟩
 have hb':s1.heap.objs.size<=b:=by
   rcases Qh.mp hb with z | z
   · rw[z];exact Yb _
   · rcases Qh.mp z with z | z
     · exact Ik z.symm
     · cases z
 exact I1.fpOk hb' (I1.hok.fresh hb')
def eT (f g:Lf):Lf:=fun ρ=>(f ρ).bind fun xs=>(g ρ).bind fun ys=>okL (xs++ys)
def zW3 (ha:PFr X a ga)(hb:PFr X b gb):PFr X (.BinOp a .Add b pos) (eT ga gb):=by
 refine PE.toR (zXd zHS ha hb) ?_
 rintro σ H Q ⟨G0,H0,G,ρ,d,j2,hf,k⟩
 unfold eT at hf
 obtain⟨xs,h1,hf⟩:=Qw.mp hf
 obtain⟨ys,h2,hf⟩:=Qw.mp hf
 obtain⟨rfl,h3⟩:=zZH hf
 refine⟨G0,H0,G,ρ,_,j2,h1,fun p vs H1 G1 s1 hn hp gp rs=>⟨G0,H0,G1,ρ,_,j2.step s1,h2,fun q us H2 G2 s2 hn2 hq gq rs2=>?_⟩⟩
 refine⟨p,q,vs,us,rfl,rfl,s2.hh _ _ hp,hq,?_,fun l hl=>?_⟩
 · rw[←rs.length,←rs2.length,←Qk];exact Et (uY h3)
 · have s3:=Step.own (o:=.lst (vs++us)) s2.sub hl
   exact k l _ _ G2 ((s1.trans s2).trans s3) ((s1.trans s2).hh.free hl) yW (s2.sub.free hl) ((rs.mono s2.gg).append rs2)
abbrev Of:=List B->Option (Option Int)
def tFO (K:jg)(f:Of):TO:=fun σ H Q=>∃G0 H0 G ρ o,Good K G0 H0 G H σ ρ/\f ρ=some o/\∀H' G',Step G H G' H'->Q o H'
def PFO (X:Cx)(e:Option Expr)(f:Of):Prop:=PO X e (tFO X.K f)
def oNo:Of:=fun _=>some none
def sI (f:Ef):Of:=fun ρ=>(f ρ).bind fun d=>match d with | .int i=>some (some i) | _=>none
def zRK:PFO X none oNo:=fun Z s σ H Q I h=>zKb Z s σ H Q I (by
 obtain⟨G0,H0,G,ρ,o,j2,hf,k⟩:=h
 cases hf
 exact k H G (.refl j2.sub))
def zZd (h:PF X e fa):PFO X (some e) (sI fa):=fun Z s σ H Q I q=>zJG h Z s σ H Q I (by
 obtain⟨G0,H0,G,ρ,o,j2,hf,k⟩:=q
 unfold sI at hf
 obtain⟨d,h1,hf⟩:=Qw.mp hf
 cases d with
 | int i=>cases hf;exact⟨G0,H0,G,ρ,_,j2,h1,fun v H' G' s r=>⟨i,zD.mp r,k H' G' s⟩⟩
 | _=>cases hf)
def zZO (xs:List D)(lo hi:Option Int):List D:=(xs.drop (HT.sIx xs.length 0 lo)).take (HT.sIx xs.length xs.length hi - HT.sIx xs.length 0 lo)
def jX (f:Ef)(lo hi:Of):Lf:=fun ρ=>(f ρ).bind fun d=>(lo ρ).bind fun l=>(hi ρ).bind fun u=>match d with | .lst ds=>some (zZO ds l u) | _=>none
def zWA {lo hi:Option Expr}{fl fh:Of}{p2:Pos}(ha:PF X a fa)(hl:PFO X lo fl)(hh:PFO X hi fh):PFr X (.Subscript a (.Slice lo hi none p2) pos) (jX fa fl fh):=by
 refine PE.toR (zRE zJj ha hl hh) ?_
 rintro σ H Q ⟨G0,H0,G,ρ,d,j2,hf,k⟩
 unfold jX at hf
 obtain⟨x,h1,hf⟩:=Qw.mp hf
 obtain⟨l,h2,hf⟩:=Qw.mp hf
 obtain⟨u,h3,hf⟩:=Qw.mp hf
 cases x with
 | lst ds =>
   cases hf
   refine⟨G0,H0,G,ρ,_,j2,h1,fun v H1 G1 s1 r1=>⟨G0,H0,G1,ρ,_,j2.step s1,h2,fun H2 G2 s2=>⟨G0,H0,G2,ρ,_,(j2.step s1).step s2,h3,fun H3 G3 s3=>?_⟩⟩⟩
   obtain⟨q,vs,rfl,hq,rs⟩:=xB.mp r1
   have s23:=s2.trans s3
   refine⟨q,vs,rfl,s23.hh |> fun z=>(s1.sub.trans z).seq hq,fun p hp=>?_⟩
   have s4:=Step.own (o:=.lst (zXx vs l u)) s23.sub hp
   refine k p _ _ G3 ((s1.trans s23).trans s4) ((s1.trans s23).hh.free hp) yW (s23.sub.free hp) ?_
   unfold zXx zZO
   rw[←rs.length]
   exact((rs.mono s23.gg).drop _).take _
 | _=>cases hf
end
section
variable {prog:Program} {w:World} {A:Around} {E:jh} {s:Shared}
def zZW {it t:Addr}{i:Nat}{j3:jk}{x:Value}{Q:jh}(hit:s.heap.IsTupleIter it t i)(ht:s.heap.IsTuple t j3)(hx:j3[i]?=some x)
   (hQ:∀h',h'.IsTupleIter it t (i+1)->Heap.SameBut it s.heap h'->Q x { s with heap:=h' }):wpAny (model prog w) A (Builtin.SmallTypes.nextOf (.ref it)) Q E s:=by
 obtain⟨o,h1,h2,h3⟩:=id hit
 obtain⟨ot,t1,_,n,t2⟩:=ht
 unfold Builtin.SmallTypes.nextOf
 refine Qe (Ez (name:=Str.ofString "__next__") hit.typeIs F.slot_tuple_iterator_next (Rg F.slot_tuple_iterator_next hit.typeIs F.entry_tuple_iterator_next ?_ (F.args_tuple_iterator_next_1 _)))
 change wpAny _ _ (field (.ref it) 0 >>= _) _ _ s
 refine Qe (Ek h1 h3 (x:=.ref t) rfl ?_)
 change wpAny _ _ (if (Value.ref t==Value.none)=true then _ else _) _ _ s
 rw[Wh (by exact Qj)]
 change wpAny _ _ (field (.ref it) 1 >>= _) _ _ s
 refine Qe (Ek h1 h3 (x:=.int i 0) rfl ?_)
 change wpAny _ _ (seqItems? (.ref t) >>= _) _ _ s
 refine Qe (Ec t1 t2 ?_)
 simp only[Rs,hx]
 refine Qe (wpAny_setField h1 h3 jd (Qd ⟨x,rfl,Qd (hQ _ ⟨_,Ry _ h1 (Obj.isFreed_of_fields (Obj.data_mapFields h3 _)),(Obj.cls_mapFields ..).trans h2,?_⟩ (Heap.SameBut.update ..))⟩))
 rw[Obj.data_mapFields h3]
 simp[rawInt]
def zVd {it t:Addr}{i:Nat}{j3:jk}{Q:jh}(hh:A.handled=none)(hit:s.heap.IsTupleIter it t i)(ht:s.heap.IsTuple t j3)(hx:j3[i]?=none)
   (hE:∀h' e,Heap.ExtBut it s.heap h'->(∃o,h'.get? e=some o/\o.cls = .type "StopIteration")->E (.ref e) { s with heap:=h' }):wpAny (model prog w) A (Builtin.SmallTypes.nextOf (.ref it)) Q E s:=by
 obtain⟨o,h1,h2,h3⟩:=id hit
 obtain⟨ot,t1,_,n,t2⟩:=ht
 unfold Builtin.SmallTypes.nextOf
 refine Qe (Ez (name:=Str.ofString "__next__") hit.typeIs F.slot_tuple_iterator_next (Rg F.slot_tuple_iterator_next hit.typeIs F.entry_tuple_iterator_next ?_ (F.args_tuple_iterator_next_1 _)))
 change wpAny _ _ (field (.ref it) 0 >>= _) _ _ s
 refine Qe (Ek h1 h3 (x:=.ref t) rfl ?_)
 change wpAny _ _ (if (Value.ref t==Value.none)=true then _ else _) _ _ s
 rw[Wh (by exact Qj)]
 change wpAny _ _ (field (.ref it) 1 >>= _) _ _ s
 refine Qe (Ek h1 h3 (x:=.int i 0) rfl ?_)
 change wpAny _ _ (seqItems? (.ref t) >>= _) _ _ s
 refine Qe (Ec t1 t2 ?_)
 simp only[Rs,hx]
 refine Qe (Uz (Qe (wpAny_setField h1 h3 jd ?_)))
 change wpAny _ _ (newExc (.type "StopIteration") [] >>= _) _ _ _
 refine Qe ?_
 simp only[newExc,newTuple]
 refine Qe (Em ?_ (by size_fits))
 refine Qe (m:=firstArgMember _ _) (wpAny_of_eq (a:=Value.none) (by first | rfl | (simp only[firstArgMember];rfl)) ?_)
 refine Em ?_ (by size_fits)
 simp only[raiseNew]
 refine Qe (wpAny_handled ?_)
 first | rw[show A.in1.handled=none from hh] | rw[hh]
 refine Qe (Qd (wpAny_throw ?_))
 exact hE _ _ (((Heap.SameBut.update ..).extBut.push _).push _) ⟨_,Qz _ rfl,rfl⟩
structure ZApart (z TI TO i1 i2 l1 l2:Addr):Prop where
 a1:TI≠z
 a2:TO≠z
 a3:i1≠z
 a4:i2≠z
 a5:TI≠TO
 a6:TI≠i1
 a7:TI≠i2
 a8:TO≠i1
 a9:TO≠i2
 b1:i1≠i2
 b2:l1≠z
 b3:l1≠TO
 b4:l1≠i1
 b5:l1≠i2
 b6:l2≠z
 b7:l2≠TO
 b8:l2≠i1
 b9:l2≠i2
abbrev zT1 (h:Heap)(l1:Addr):Heap:=h.push { cls:=.type "tuple_iterator",data:=.fields #[.ref l1,.int 0 0] }
def zne {n:Nat}(i j:Nat)(h:i≠j):n+i≠n+j:=fun z=>h (Nat.add_left_cancel z)
def sD:List D->List D->List D
 | x::xs,y::ys=>.tup [x,y]::sD xs ys
 | _,_=>[]
def zXe:∀ {xs ys:List D} {i:Nat} {d:D},(sD xs ys)[i]?=some d->∃x y,xs[i]?=some x/\ys[i]?=some y/\d = .tup [x,y]
 | [],_,_,_,h=>by simp[sD] at h
 | _::_,[],_,_,h=>by simp[sD] at h
 | x::xs,y::ys,0,d,h=>by simp[sD] at h;exact⟨x,y,rfl,rfl,h.symm⟩
 | x::xs,y::ys,i+1,d,h=>by
   simp only[sD,Qx] at h
   obtain⟨a,b,h1,h2,h3⟩:=zXe h
   exact⟨a,b,by simpa using h1,by simpa using h2,h3⟩
def zWd:∀(xs ys:List D),(sD xs ys).length=min xs.length ys.length
 | [],_=>by simp[sD]
 | _::_,[]=>by simp[sD]
 | x::xs,y::ys=>by rw[sD,Qo,zWd xs ys,Qo,Qo];omega
def zL6 (f g:Ef):Lf:=fun ρ=>(f ρ).bind fun x=>(g ρ).bind fun y=>match x,y with | .tup xs,.tup ys=>some (sD xs ys) | _,_=>none
end
end L2
set_option maxHeartbeats 4000000
namespace L2
open PySem PySem.Spec PyProof.Rows
def zQh (f:D->D->Option Bool):List D->List D->Option Bool
 | x::xs,y::ys=>(f x y).bind fun a=>(zQh f xs ys).map fun b=>a&&b
 | _,_=>some true
def eqD:Nat->D->D->Option Bool
 | _+1,.int i,.int j=>some (i==j)
 | _+1,.bl i,.bl j=>some (i==j)
 | _+1,.str i,.str j=>some (i==j)
 | _+1,.non,.non=>some true
 | n+1,.tup xs,.tup ys=>(zQh (eqD n) xs ys).map fun b=>b&&xs.length==ys.length
 | n+1,.lst xs,.lst ys=>if xs.length=ys.length then zQh (eqD n) xs ys else some false
 | _,_,_=>none
def fV (f:D->D->Option Bool)(xs ys:List D)(j:Nat):Bool:=match xs[j]?,ys[j]? with | some a,some c=>(f a c).getD true | _,_=>true
def zWp {f:D->D->Option Bool}:∀ {xs ys:List D} {b:Bool},zQh f xs ys=some b->b=(List.range (min xs.length ys.length)).all (fV f xs ys)/\∀(j:Nat) (a c:D),xs[j]?=some a->ys[j]?=some c->f a c=some (fV f xs ys j)
 | [],_,_,h=>by cases h;exact⟨jd,fun j a c e=>by simp at e⟩
 | _::_,[],_,h=>by cases h;exact⟨jd,fun j a c _ e=>by simp at e⟩
 | x::xs,y::ys,b,h=>by
   unfold zQh at h
   obtain⟨a,h1,h⟩:=Qw.mp h
   obtain⟨b',h2,rfl⟩:=Qy.mp h
   obtain⟨e1,e2⟩:=zWp h2
   constructor
   · rw[Qo,Qo,Nat.succ_min_succ,Uy,Yy,Iv,e1]
     congr 1
     simp[fV,h1]
   · intro j p q hp hq
     cases j with
     | zero =>
       simp at hp hq
       subst hp;subst hq
       simp[fV,h1]
     | succ j =>
       have:=e2 j p q (by simpa using hp) (by simpa using hq)
       simpa [fV] using this
section
variable {X:Cx} {Z:ji} {σ:St} {H G:Hp} {s:Shared}
def zRN (I:Inv X Z σ H s)(sub:Same G H):∀(n:Nat) (d d':D) (x:V) (k:Bool),eqD n d d'=some k->Rep X.K G d x->Rep X.K G d' x->k=true:=by
 intro n
 induction n with
 | zero=>intro d d' x k h;cases d<;>cases d'<;>cases h
 | succ n ih =>
   have many:∀(ds es:List D) (vs:List V) (b:Bool),zQh (eqD n) ds es=some b->Reps X.K G ds vs->Reps X.K G es vs->b=true:=by
     intro ds
     induction ds with
     | nil=>intro es vs b h _ _;cases h;rfl
     | cons d r ihr =>
       intro es vs b h r1 r2
       cases es with
       | nil=>cases h;rfl
       | cons e t =>
         unfold zQh at h
         obtain⟨a,h1,h⟩:=Qw.mp h
         obtain⟨b',h2,rfl⟩:=Qy.mp h
         obtain⟨v,vr,rfl,q1,q2⟩:=zB.mp r1
         obtain⟨v',vr',e',q3,q4⟩:=zB.mp r2
         cases e'
         rw[ih d e v a h1 q1 q3,ihr t vr b' h2 q2 q4];rfl
   intro d d' x k h r1 r2
   cases d with
   | int i =>
     cases d' with
     | int j=>cases h;rw[zD] at r1 r2;rw[r1] at r2;cases r2;simp
     | _=>cases h
   | bl i =>
     cases d' with
     | bl j=>cases h;rw[vU] at r1 r2;rw[r1] at r2;cases r2;simp
     | _=>cases h
   | str i =>
     cases d' with
     | str j=>cases h;rw[yG] at r1 r2;rw[r1] at r2;cases r2;simp
     | _=>cases h
   | non =>
     cases d' with
     | non=>cases h;rfl
     | _=>cases h
   | tup ds =>
     cases d' with
     | tup es =>
       unfold eqD at h
       obtain⟨b,h1,rfl⟩:=Qy.mp h
       obtain⟨p,vs,e1,q1,q2⟩:=y0.mp r1
       obtain⟨p',vs',e2,q3,q4⟩:=y0.mp r2
       rw[e1] at e2;cases e2
       have ev:=I.tuple_inj (sub.tup q1) (sub.tup q3)
       subst ev
       rw[many ds es vs b h1 q2 q4,q2.length,q4.length];simp
     | _=>cases h
   | lst ds =>
     cases d' with
     | lst es =>
       unfold eqD at h
       obtain⟨p,vs,e1,q1,q2⟩:=xB.mp r1
       obtain⟨p',vs',e2,q3,q4⟩:=xB.mp r2
       rw[e1] at e2;cases e2
       have ev:=I.list_inj (sub.seq q1) (sub.seq q3)
       subst ev
       rw[Qv (by rw[q2.length,q4.length])] at h
       exact many ds es vs k h q2 q4
     | _=>cases h
   | obj C ns ds=>cases d'<;>cases h
   | exc C ns ds=>cases d'<;>cases h
def zH6 (I:Inv X Z σ H s)(sub:Same G H):∀(n:Nat) (A:Around) (d d':D) (x y:V) (u v:Value) (k:Bool),A.units+n < cLine->eqD n d d'=some k->Rep X.K G d x->Rep X.K G d' y->RelV x u->RelV y v ->
   SeqAt.RcAt A s u v k/\SeqAt.RcNeAt A s u v (!k)/\SeqAt.EqAt A s u v k:=by
 intro n
 induction n with
 | zero=>intro A d d' x y u v k _ h;cases d<;>cases d'<;>cases h
 | succ n ih =>
   intro A d d' x y u v k hu h r1 r2 ru rv
   have hu1:A.units < cLine:=jc
   have hin:A.in1.units+n < cLine:=by show A.units+1+n < cLine;omega
   cases d with
   | int i =>
     cases d' with
     | int j=>cases h;rw[zD] at r1 r2;subst r1;subst r2;obtain⟨t,rfl⟩:=ru;obtain⟨t',rfl⟩:=rv;exact⟨SeqAt.RcAt.int_int _ _ _ _,SeqAt.RcNeAt.int_int _ _ _ _,Ir _ _ _ _⟩
     | _=>cases h
   | bl i =>
     cases d' with
     | bl j=>cases h;rw[vU] at r1 r2;subst r1;subst r2;cases ru;cases rv;exact⟨SeqAt.RcAt.bool_bool _ _,SeqAt.RcNeAt.bool_bool _ _,Uc _ _⟩
     | _=>cases h
   | str i =>
     cases d' with
     | str j=>cases h;rw[yG] at r1 r2;subst r1;subst r2;obtain⟨t,rfl⟩:=ru;obtain⟨t',rfl⟩:=rv;exact⟨SeqAt.RcAt.str_str _ _ _ _,SeqAt.RcNeAt.str_str _ _ _ _,SeqAt.EqAt.str_str _ _ _ _⟩
     | _=>cases h
   | non =>
     cases d' with
     | non=>cases h;rw[tY] at r1 r2;subst r1;subst r2;cases ru;cases rv;exact⟨SeqAt.RcAt.none_none,SeqAt.RcNeAt.none_none,Ya _⟩
     | _=>cases h
   | tup ds =>
     cases d' with
     | tup es =>
       have h0:=h
       unfold eqD at h
       obtain⟨b,h1,rfl⟩:=Qy.mp h
       obtain⟨p,vs,rfl,q1,q2⟩:=y0.mp r1
       obtain⟨p',vs',rfl,q3,q4⟩:=y0.mp r2
       cases ru;cases rv
       obtain⟨j6,w1,t1,_⟩:=I.tuple (sub.tup q1)
       obtain⟨jts,w2,t2,_⟩:=I.tuple (sub.tup q3)
       obtain⟨e1,e2⟩:=zWp h1
       have l1:ds.length=j6.length:=q2.length.trans w1.length
       have l2:es.length=jts.length:=q4.length.trans w2.length
       have he:∀j (a1:j < j6.toArray.size) (a2:j < jts.toArray.size),SeqAt.EqAt A.in1 s j6.toArray[j] jts.toArray[j] (fV (eqD n) ds es j):=fun j a1 a2=>by
         have b1:j < ds.length:=by rw[l1];simpa using a1
         have b2:j < es.length:=by rw[l2];simpa using a2
         obtain⟨v1,f1,g1⟩:=q2.get (Qi b1)
         obtain⟨v2,f2,g2⟩:=q4.get (Qi b2)
         obtain⟨u1,f3,g3⟩:=w1.get f1
         obtain⟨u2,f4,g4⟩:=w2.get f2
         have x1:j6.toArray[j]=u1:=by
           have:=(Ww.mp f3).2
           simpa using this
         have x2:jts.toArray[j]=u2:=by
           have:=(Ww.mp f4).2
           simpa using this
         rw[x1,x2]
         exact(ih A.in1 _ _ v1 v2 u1 u2 _ hin (e2 j _ _ (Qi b1) (Qi b2)) g1 g2 g3 g4).2.2
       have ek:((List.range (min j6.toArray.size jts.toArray.size)).all (fV (eqD n) ds es)&&j6.toArray.size==jts.toArray.size)=(b&&ds.length==es.length):=by
         rw[Qg,Qg,←l1,←l2,e1]
       have R1:=SeqAt.RcAt.tuples t1 t2 hu1 he
       have R2:=SeqAt.RcNeAt.tuples t1 t2 hu1 he
       rw[ek] at R1 R2
       refine⟨R1,R2,?_⟩
       by_cases hp:p=p'
       · subst hp
         have hk:=zRN I sub (n+1) (.tup ds) (.tup es) (.ref p) _ h0 r1 r2
         rw[hk]
         exact Ya _
       · exact .of_refs hp R1
     | _=>cases h
   | lst ds =>
     cases d' with
     | lst es =>
       have h0:=h
       unfold eqD at h
       obtain⟨p,vs,rfl,q1,q2⟩:=xB.mp r1
       obtain⟨p',vs',rfl,q3,q4⟩:=xB.mp r2
       cases ru;cases rv
       obtain⟨j6,w1,t1,_⟩:=I.list (sub.seq q1)
       obtain⟨jts,w2,t2,_⟩:=I.list (sub.seq q3)
       have l1:ds.length=j6.length:=q2.length.trans w1.length
       have l2:es.length=jts.length:=q4.length.trans w2.length
       have fin:SeqAt.RcAt A s (.ref p) (.ref p') k/\SeqAt.RcNeAt A s (.ref p) (.ref p') (!k):=by
         split at h
         · rename_i hl
           obtain⟨e1,e2⟩:=zWp h
           have he:∀j (a1:j < j6.toArray.size) (a2:j < jts.toArray.size),SeqAt.EqAt A.in1 s j6.toArray[j] jts.toArray[j] (fV (eqD n) ds es j):=fun j a1 a2=>by
             have b1:j < ds.length:=by rw[l1];simpa using a1
             have b2:j < es.length:=by rw[l2];simpa using a2
             obtain⟨v1,f1,g1⟩:=q2.get (Qi b1)
             obtain⟨v2,f2,g2⟩:=q4.get (Qi b2)
             obtain⟨u1,f3,g3⟩:=w1.get f1
             obtain⟨u2,f4,g4⟩:=w2.get f2
             have x1:j6.toArray[j]=u1:=by
               have:=(Ww.mp f3).2
               simpa using this
             have x2:jts.toArray[j]=u2:=by
               have:=(Ww.mp f4).2
               simpa using this
             rw[x1,x2]
             exact(ih A.in1 _ _ v1 v2 u1 u2 _ hin (e2 j _ _ (Qi b1) (Qi b2)) g1 g2 g3 g4).2.2
           have hsz:j6.toArray.size=jts.toArray.size:=by rw[Qg,Qg,←l1,←l2,hl]
           have ek:(List.range j6.toArray.size).all (fV (eqD n) ds es)=k:=by
             rw[e1,Qg,←l1,←hl,Nat.min_self]
           have R1:=SeqAt.RcAt.lists t1.isList t2.isList hsz hu1 he
           have R2:=SeqAt.RcNeAt.lists t1.isList t2.isList hsz hu1 he
           rw[ek] at R1 R2
           exact⟨R1,R2⟩
         · rename_i hl
           cases h
           have hsz:(j6.toArray.size != jts.toArray.size)=true:=by
             rw[Qg,Qg,←l1,←l2]
             simpa using hl
           exact⟨SeqAt.RcAt.lists_lengths t1.isList t2.isList hsz hu1,Oh t1.isList t2.isList hsz hu1⟩
       refine⟨fin.1,fin.2,?_⟩
       by_cases hp:p=p'
       · subst hp
         have hk:=zRN I sub (n+1) (.lst ds) (.lst es) (.ref p) _ h0 r1 r2
         rw[hk]
         exact Ya _
       · exact .of_refs hp fin.1
     | _=>cases h
   | obj C ns ds=>cases d'<;>cases h
   | exc C ns ds=>cases d'<;>cases h
variable {a b e:Expr} {ga:Lf} {pos p:Pos} {k:Nat}
def zMe:D->D->Option Bool:=eqD 8
def zN1 (x y:D):Option Bool:=(eqD 8 x y).map (!·)
def zTf (hr:Room k X.A):CmR X .Eq zMe:=by
 refine⟨fun x y H Q=>∃G d d' b,Same G H/\Rep X.K G d x/\Rep X.K G d' y/\eqD 8 d d'=some b/\Q (.bl b) H,?_,fun d d' k G H x y Q h s rx ry q=>⟨G,d,d',k,s,rx,ry,h,q H G (.refl s)⟩⟩
 intro Z s σ H x y v u Q I rx ry ⟨G,d,d',b,sub,r1,r2,h,q⟩
 have hu:=hr.units
 exact(zH6 I sub 8 X.A d d' x y v u b jc h r1 r2 rx ry).1 X.prog X.w X.xe _ ⟨.bl b,H,I,rfl,q⟩
def zUh (hr:Room k X.A):CmR X .NotEq zN1:=by
 refine⟨fun x y H Q=>∃G d d' b,Same G H/\Rep X.K G d x/\Rep X.K G d' y/\eqD 8 d d'=some b/\Q (.bl (!b)) H,?_,fun d d' k G H x y Q h s rx ry q=>?_⟩
 · intro Z s σ H x y v u Q I rx ry ⟨G,d,d',b,sub,r1,r2,h,q⟩
   have hu:=hr.units
   exact(zH6 I sub 8 X.A d d' x y v u b jc h r1 r2 rx ry).2.1 X.prog X.w X.xe _ ⟨.bl (!b),H,I,rfl,q⟩
 · unfold zN1 at h
   obtain⟨b,h1,rfl⟩:=Qy.mp h
   exact⟨G,d,d',b,s,rx,ry,h1,q H G (.refl s)⟩
def zLB:D->Option V
 | .non=>some .non
 | .bl b=>some (.bl b)
 | .int i=>some (.int i)
 | .str x=>some (.str x)
 | _=>none
def zXl:List D->Option (List V)
 | []=>some []
 | d::r=>(zLB d).bind fun v=>(zXl r).map fun vs=>v::vs
def zVv {K:jg}{G:Hp}{d:D}{v x:V}(h:zLB d=some v)(r:Rep K G d x):x=v/\fE v=true:=by
 cases d with
 | non=>cases h;exact⟨tY.mp r,rfl⟩
 | bl b=>cases h;exact⟨vU.mp r,rfl⟩
 | int i=>cases h;exact⟨zD.mp r,rfl⟩
 | str i=>cases h;exact⟨yG.mp r,rfl⟩
 | _=>cases h
def aF {K:jg}{G:Hp}:∀ {ds:List D} {vs xs:List V},zXl ds=some vs->Reps K G ds xs->xs=vs/\vs.all fE=true
 | [],_,_,h,r=>by cases h;rw[yR] at r;exact⟨r,rfl⟩
 | d::t,_,_,h,r=>by
   unfold zXl at h
   obtain⟨v,h1,h⟩:=Qw.mp h
   obtain⟨vs,h2,rfl⟩:=Qy.mp h
   obtain⟨x,xr,rfl,r1,r2⟩:=zB.mp r
   obtain⟨rfl,f1⟩:=zVv h1 r1
   obtain⟨rfl,f2⟩:=aF h2 r2
   exact⟨rfl,by rw[Yy,f1,f2];rfl⟩
def zNn (x y:D):Option Bool:=(zLB x).bind fun v=>match y with
 | .lst ds=>(zXl ds).map fun vs=>inV v vs
 | .tup ds=>(zXl ds).map fun vs=>inV v vs
 | _=>none
def zK2 {K:jg}{G H:Hp}{d d':D}{x y:V}{k:Bool}(h:zNn d d'=some k)(s:Same G H)(rx:Rep K G d x)(ry:Rep K G d' y):∃p xs,y = .ref p/\(SqL K H p xs∨SqT K H p xs)/\fE x=true/\xs.all fE=true/\k=inV x xs:=by
 unfold zNn at h
 obtain⟨v,h1,h⟩:=Qw.mp h
 obtain⟨rfl,f1⟩:=zVv h1 rx
 cases d' with
 | lst ds =>
   obtain⟨vs,h2,rfl⟩:=Qy.mp h
   obtain⟨p,xs,rfl,q1,q2⟩:=xB.mp ry
   obtain⟨rfl,f2⟩:=aF h2 q2
   exact⟨p,_,rfl,.inl (s.seq q1),f1,f2,rfl⟩
 | tup ds =>
   obtain⟨vs,h2,rfl⟩:=Qy.mp h
   obtain⟨p,xs,rfl,q1,q2⟩:=y0.mp ry
   obtain⟨rfl,f2⟩:=aF h2 q2
   exact⟨p,_,rfl,.inr (s.tup q1),f1,f2,rfl⟩
 | _=>cases h
def zMk:CmR X .In zNn:=⟨_,zNQ,fun d d' k G H x y Q h s rx ry q=>by
 obtain⟨p,xs,e1,e2,e3,e4,rfl⟩:=zK2 h s rx ry
 exact⟨p,xs,e1,e2,e3,e4,q H G (.refl s)⟩⟩
def zP8 (x:Int):List Int->List Int
 | []=>[x]
 | y::r=>if x<=y then x::y::r else y::zP8 x r
def zYy:List Int->List Int
 | []=>[]
 | x::r=>zP8 x (zYy r)
def zYT (x:Int):∀l:List Int,(zP8 x l).Perm (x::l)
 | []=>.refl _
 | y::r=>by
   unfold zP8
   split
   · exact .refl _
   · exact(List.Perm.cons y (zYT x r)).trans (List.Perm.swap x y r)
def zZY:∀l:List Int,(zYy l).Perm l
 | []=>.refl _
 | x::r=>(zYT x (zYy r)).trans (.cons x (zZY r))
def zYa (x:Int):∀l:List Int,l.Pairwise (· <= ·)->(zP8 x l).Pairwise (· <= ·)
 | [],_=>by unfold zP8;simp
 | y::r,h=>by
   unfold zP8
   split
   · rename_i hxy
     refine Tx.mpr ⟨fun z hz=>?_,h⟩
     rcases Qh.mp hz with q | q
     · rw[q];exact hxy
     · exact Int.le_trans hxy ((Tx.mp h).1 z q)
   · rename_i hxy
     refine Tx.mpr ⟨fun z hz=>?_,zYa x r (Tx.mp h).2⟩
     rcases Qh.mp ((zYT x r).mem_iff.mp hz) with q | q
     · rw[q];omega
     · exact(Tx.mp h).1 z q
def zZo:∀l:List Int,(zYy l).Pairwise (· <= ·)
 | []=>.nil
 | x::r=>zYa x _ (zZo r)
def zPD {l m:List Int}(hp:l.Perm m)(hl:l.Pairwise (· <= ·))(hm:m.Pairwise (· <= ·)):l=m:=hp.eq_of_pairwise (fun a b _ _ h1 h2=>Int.le_antisymm h1 h2) hl hm
def zSy:List D->Option (List Int)
 | []=>some []
 | .int i::r=>(zSy r).map fun is=>i::is
 | _=>none
def zYD {K:jg}{G:Hp}:∀ {ds:List D} {is:List Int} {vs:List V},zSy ds=some is->Reps K G ds vs->vs=is.map V.int
 | [],_,_,h,r=>by cases h;rw[yR] at r;rw[r];rfl
 | d::t,_,_,h,r=>by
   unfold zSy at h
   split at h
   · rename_i h';cases h'
   · rename_i k t' h'
     cases h'
     obtain⟨v,vr,rfl,r1,r2⟩:=zB.mp r
     obtain⟨ks,h1,rfl⟩:=Qy.mp h
     rw[zYD h1 r2,zD.mp r1];rfl
   · cases h
def zTd:CallR X (.builtin "sorted") (fun xs H Q=>∃(q:Addr) (ns:List Int),xs=[V.ref q]/\SqL X.K H q (ns.map V.int)/\ns.length < 64/\∀l,H l=none->Q (.ref l) (upd H l (.lst ((zYy ns).map V.int)))):=by
 intro Z s σ H xs us Q I r h
 obtain⟨q,ns,rfl,hq,hl,k⟩:=h
 obtain⟨u,rfl,ru⟩:=oG r
 cases ru
 obtain⟨j6,rv,pl,hz⟩:=I.list hq
 have hi:=zQo rv
 have j5:j6.length < 64:=by rw[←rv.length,Qt];exact hl
 refine sorted_ints pl.isList hi j5 fun out ns' a1 a2 a3=>?_
 obtain⟨e,he⟩:=sortedAll_at s.heap j6 out
 have en:ns'=zYy ns:=zPD (a2.trans (zZY ns).symm) a3 (zZo ns)
 subst en
 have hsz:s.heap.objs.size<=s.heap.objs.size+1:=Yb _
 refine⟨.ref (s.heap.objs.size+1),_,I.laid (t':=s.toks) (o:=.lst ((zYy ns).map V.int)) (fun b o e=>sortedAll_old e) hsz ?_,rfl,k _ (I.hok.fresh hsz)⟩
 refine⟨?_,out.toList,e,zYG a1,by simpa [seqObj] using he⟩
 rw[Qt,(zZY ns).length_eq]
 exact Et (uY (by show ns.length<=100000;omega))
def zU1 {K:jg}{G:Hp}:∀ns:List Int,Reps K G (ns.map .int) (ns.map V.int)
 | []=>yR.mpr rfl
 | n::r=>zB.mpr ⟨_,_,rfl,zD.mpr rfl,zU1 r⟩
def zSU (g:Lf):Lf:=fun ρ=>(g ρ).bind fun ds=>(zSy ds).bind fun ns=>if ns.length < 64 then some ((zYy ns).map .int) else none
def zND (hg:Gl X "sorted")(hm:X.mg "sorted"=none)(h:zTp X a ga)(hs:starEach [a] X.env=[(false,eval a X.env)]:=by rfl):PFr X (.Call (.Name "sorted" p) [a] [] pos) (zSU ga):=by
 refine PE.toR (pP zTd hg hm jf (zE h yO (by rw[hs];rfl)) jb jb (by rw[hs];rfl) jf) ?_
 rintro σ H Q ⟨G0,H0,G,ρ,d,j2,hf,k⟩
 unfold zSU at hf
 obtain⟨ds,h1,hf⟩:=Qw.mp hf
 obtain⟨ns,h2,hf⟩:=Qw.mp hf
 split at hf
 · rename_i hl
   cases hf
   refine⟨G0,H0,G,ρ,_,j2,h1,fun q vs H1 G1 s1 hq rs=>?_⟩
   have e:=zYD h2 rs
   subst e
   refine⟨q,ns,rfl,s1.sub.seq hq,hl,fun l hl'=>?_⟩
   exact k l _ _ G1 (s1.trans (Step.own s1.sub hl')) (s1.hh.free hl') yW (s1.sub.free hl') (zU1 _)
 · cases hf
end
def Its (x:Str):It:=⟨fun i _=>i < x.cps.size,fun i H y H'=>H'=H/\∃c,x.cps[i]?=some c/\y = .str ⟨#[c]⟩,fun i _=>x.cps.size<=i⟩
def zMG {P:Program}{w:World}{K:jg}{tg:Expr}(it:Addr)(ty:String)(hty:ty="str_ascii_iterator"∨ty="str_iterator")(x:Str)(t:Tok):Turn P w K tg (Its x) [it] it (fun i h=>h.IsStrIter it ty x t i) where
 mem:=jd
 obj:=fun i h st b hb=>by
   have e:b=it:=by simpa using hb
   subst e
   obtain⟨o,e,c,d⟩:=st
   exact⟨o,e,fun v z=>by rw[d] at z;cases z⟩
 keep:=fun i h h' st k=>by
   obtain⟨o,e,r⟩:=st
   exact⟨o,k it jd o e,r⟩
 item:=by
   intro X hP hw hK hc i Z s σ H E I hf st hg
   subst hP hw hK
   obtain⟨f0,f1,f2,f3,f4,f5⟩:=hf it jd
   have hg:i < x.cps.size:=hg
   have hx:x.cps[i]?=some x.cps[i]:=by simp[hg]
   rcases hty with rfl | rfl
   · refine wpAny_pyNext_ascii_item st hx fun h' st' sb=>?_
     have I1:Inv X Z σ H { s with heap:=h',toks:=s.toks+1 }:=I.turned (t':=s.toks+1) (fun b o hb e=>(sb.2 b hb).trans e) f0 f1 f3 f4 f5
     obtain⟨o,e,c,d⟩:=id st'
     exact⟨_,rfl,zS1 (s:={ s with heap:=h',toks:=s.toks+1 }) e c d jb ⟨.str ⟨#[x.cps[i]]⟩,H,I1,⟨_,rfl⟩,⟨rfl,_,hx,rfl⟩,st',fun b hb=>(hf b hb).1⟩⟩
   · refine wpAny_pyNext_wide_item st hx fun h' st' sb=>?_
     have I1:Inv X Z σ H { s with heap:=h',toks:=s.toks+1 }:=I.turned (t':=s.toks+1) (fun b o hb e=>(sb.2 b hb).trans e) f0 f1 f3 f4 f5
     obtain⟨o,e,c,d⟩:=id st'
     exact⟨_,rfl,zS1 (s:={ s with heap:=h',toks:=s.toks+1 }) e c d jb ⟨.str ⟨#[x.cps[i]]⟩,H,I1,⟨_,rfl⟩,⟨rfl,_,hx,rfl⟩,st',fun b hb=>(hf b hb).1⟩⟩
 done:=by
   intro X hP hw hK hc i Z s σ H E I hf st hg
   subst hP hw hK
   obtain⟨f0,f1,f2,f3,f4,f5⟩:=hf it jd
   have hg:x.cps.size<=i:=hg
   have hx:x.cps[i]?=none:=by simp[hg]
   rcases hty with rfl | rfl
   · exact wpAny_pyNext_ascii_end (I.ok.hd hc) st hx fun h' eb=>⟨rfl,I.turned (t':=s.toks) (fun b o hb e=>eb b o hb e) f0 f1 f3 f4 f5⟩
   · exact wpAny_pyNext_wide_end (I.ok.hd hc) st hx fun h' eb=>⟨rfl,I.turned (t':=s.toks) (fun b o hb e=>eb b o hb e) f0 f1 f3 f4 f5⟩
 self:=fun _ _ _ _ _ st h=>by
   rcases hty with rfl | rfl
   · exact wpAny_pyIter_striter_ascii st h
   · exact wpAny_pyIter_striter_wide st h
def hZ (x:Str):List D:=x.cps.toList.map fun c=>.str ⟨#[c]⟩
def zQE {K:jg}{G:Hp}{x:Str}:aU K (Its x) G (hZ x):=by
 intro i G2 H2 s1 s2
 have hl:(hZ x).length=x.cps.size:=by simp[hZ]
 refine⟨fun d hd=>?_,fun hi=>by rw[hl] at hi;exact hi⟩
 have hi:i < x.cps.size:=by rw[←hl];exact(Ww.mp hd).1
 refine⟨hi,fun y H3 q=>?_⟩
 obtain⟨rfl,c,hc,rfl⟩:=q
 unfold hZ at hd
 rw[Wa,Array.getElem?_toList,hc] at hd
 cases hd
 exact⟨G2,.refl s2,yG.mpr rfl⟩
section
variable {X:Cx} {a b c e tg:Expr} {fa fb fc:Ef} {pos:Pos} {st:Stmt}
def zFA (tl:TE):TI:=fun σ H R=>tl σ H fun x H1=>∃z,x = .str z/\R (Its z) H1
def zJS {l:Expr}{tl:TE}(hl:PE X l tl):PI X tg l (zFA tl):=by
 intro Z s σ H R I h
 refine thn (hl Z s σ H _ I h) fun v s1 ⟨x,H1,I1,r1,q1⟩=>?_
 obtain⟨z,e,q⟩:=q1
 subst e
 obtain⟨t,rfl⟩:=r1
 have fin:∀(o:Obj) (ty:String),(ty="str_ascii_iterator"∨ty="str_iterator")->(s1.heap.push o).IsStrIter s1.heap.objs.size ty z t 0->PIE X Z σ tg R (.ref s1.heap.objs.size) { s1 with heap:=s1.heap.push o }:=fun o ty hty st=>by
   refine⟨s1.heap.objs.size,[s1.heap.objs.size],_,_,H1,rfl,I1.kept (t':=s1.toks) fun b o e=>Qr _ e,zMG _ ty hty z t,st,fun b hb=>?_,q⟩
   have e:b=s1.heap.objs.size:=by simpa using hb
   subst e
   exact I1.fpOk (Ql _) (I1.hok.fresh (Ql _))
 cases ha:z.cps.all (· < 128)
 · exact wpAny_pyIter_wide ha (fin _ _ (.inr rfl) ⟨_,Qz _ rfl,rfl,rfl⟩)
 · exact wpAny_pyIter_ascii ha (fin _ _ (.inl rfl) ⟨_,Qz _ rfl,rfl,rfl⟩)
def iS (f:Ef):Lf:=fun ρ=>(f ρ).bind fun d=>match d with | .str x=>some (hZ x) | _=>none
def zJ4 (h:PF X e fa):PFI X tg e (iS fa):=by
 refine PI.to (zJS h) ?_
 rintro σ H R ⟨G0,H0,G,ρ,ds,j2,hf,k⟩
 unfold iS at hf
 obtain⟨d,h1,hf⟩:=Qw.mp hf
 cases d with
 | str x =>
   cases hf
   refine⟨G0,H0,G,ρ,_,j2,h1,fun v H1 G1 s1 r1=>?_⟩
   exact⟨x,yG.mp r1,k _ H1 G1 s1 zQE⟩
 | _=>cases hf
def gIn:D->D->Option Bool | .str i,.str j=>some (!(Builtin.Str.occurrences j i 0 j.length 1).isEmpty) | _,_=>none
def zGb:CmR X .In gIn:=⟨_,zNH,fun d d' k G H x y Q h s rx ry q=>by
 unfold gIn at h
 split at h
 · cases h;exact⟨_,_,yG.mp rx,yG.mp ry,q H G (.refl s)⟩
 · cases h⟩
def eB3 (g g':D->D->Option Bool)(fa fb fc:Ef):Tf:=fun ρ=>(fa ρ).bind fun x=>(fb ρ).bind fun y=>(g x y).bind fun k=>if k=true then(fc ρ).bind fun z=>g' y z else some false
def zMR {op op':CmpOp}{g g':D->D->Option Bool}(hc1:CmR X op g)(hc2:CmR X op' g')(ha:PF X a fa)(hb:PF X b fb)(hc:PF X c fc)(hm:lastMarks [op,op'] [b,c]=false:=by with_unfolding_all rfl):PF X (.Compare a [op,op'] [b,c] pos) (uZ (eB3 g g' fa fb fc)):=by
 obtain⟨r,ho,hr⟩:=hc1
 obtain⟨r',ho',hr'⟩:=hc2
 refine PE.to (zLp ho ho' ha hb hc hm) ?_
 rintro σ H Q ⟨G0,H0,G,ρ,d,j2,hf,k⟩
 obtain⟨b',hf2,rfl⟩:=zW1 hf
 unfold eB3 at hf2
 obtain⟨x,h1,hf2⟩:=Qw.mp hf2
 obtain⟨y,h2,hf2⟩:=Qw.mp hf2
 obtain⟨kk,h3,hf2⟩:=Qw.mp hf2
 refine⟨G0,H0,G,ρ,_,j2,h1,fun u H1 G1 s1 r1=>⟨G0,H0,G1,ρ,_,j2.step s1,h2,fun v H2 G2 s2 r2=>?_⟩⟩
 refine hr x y kk G2 H2 u v _ h3 s2.sub (r1.mono s2.gg) r2 fun H3 G3 s3=>⟨kk,rfl,?_⟩
 split at hf2
 · rename_i hk
   rw[Qv hk]
   obtain⟨z,h4,hf3⟩:=Qw.mp hf2
   refine⟨G0,H0,G3,ρ,_,((j2.step s1).step s2).step s3,h4,fun w' H4 G4 s4 r4=>?_⟩
   exact hr' y z b' G4 H4 v w' Q hf3 s4.sub ((r2.mono s3.gg).mono s4.gg) r4 fun H5 G5 s5=>k _ _ G5 ((((s1.trans s2).trans s3).trans s4).trans s5) (vU.mpr rfl)
 · rename_i hk
   rw[Wh hk];cases hf2
   exact k _ _ G3 ((s1.trans s2).trans s3) (vU.mpr rfl)
def zHE:D->D->Option D
 | .int i,.int j=>some (.int (i+j))
 | .str i,.str j=>if i.length+j.length<=lim then some (.str (i++j)) else none
 | _,_=>none
def xW (fa fb:Ef):Ef:=fun ρ=>(fa ρ).bind fun x=>(fb ρ).bind fun y=>zHE x y
def xA (ha:PF X a fa)(hb:PF X b fb):PF X (.BinOp a .Add b pos) (xW fa fb):=by
 refine PE.to (zXd (zLS.or zQ8) ha hb) ?_
 rintro σ H Q ⟨G0,H0,G,ρ,d,j2,hf,k⟩
 unfold xW at hf
 obtain⟨x,h1,hf⟩:=Qw.mp hf
 obtain⟨y,h2,hf⟩:=Qw.mp hf
 refine⟨G0,H0,G,ρ,_,j2,h1,fun u H1 G1 s1 r1=>⟨G0,H0,G1,ρ,_,j2.step s1,h2,fun v H2 G2 s2 r2=>?_⟩⟩
 have r1:=r1.mono s2.gg
 unfold zHE at hf
 split at hf
 · cases hf;exact .inl ⟨_,_,zD.mp r1,zD.mp r2,k _ _ G2 (s1.trans s2) (zD.mpr rfl)⟩
 · split at hf
   · rename_i hz;cases hf;exact .inr ⟨_,_,yG.mp r1,yG.mp r2,Et (uY hz),k _ _ G2 (s1.trans s2) (yG.mpr rfl)⟩
   · cases hf
 · cases hf
def zIX:V->List V->Hp->VK->Prop:=fun x vs H Q=>∃a b,x = .str a/\vs=[.str b]/\Q (.int (Txt.find a b)) H
def zUw:MtR X "str.find" zIX:=by
 intro Z s σ H x xs v us Q I rx rv h
 obtain⟨a,b,rfl,rfl,q⟩:=h
 obtain⟨t,rfl⟩:=rx
 obtain⟨u,rfl,t',rfl⟩:=rv.one
 exact SC.find ⟨.int _,H,I.tok _,⟨_,rfl⟩,q⟩
def zSx (fa fb:Ef):Ef:=fun ρ=>(fa ρ).bind fun x=>(fb ρ).bind fun y=>match x,y with | .str a,.str b=>some (.int (Txt.find a b)) | _,_=>none
def zUb (ht:PE X c (tBM X.K "str" zIX (tF X.K fa) (zWw (tF X.K fb) zQR))):PF X c (zSx fa fb):=by
 refine PE.to ht ?_
 rintro σ H Q ⟨G0,H0,G,ρ,d,j2,hf,k⟩
 unfold zSx at hf
 obtain⟨x,h1,hf⟩:=Qw.mp hf
 obtain⟨y,h2,hf⟩:=Qw.mp hf
 split at hf
 · cases hf
   refine⟨G0,H0,G,ρ,_,j2,h1,fun u H1 G1 s1 r1=>?_⟩
   have r1:=yG.mp r1
   subst r1
   refine⟨rfl,G0,H0,G1,ρ,_,j2.step s1,h2,fun v H2 G2 s2 r2=>?_⟩
   have r2:=yG.mp r2
   subst r2
   exact⟨_,_,rfl,rfl,k _ _ G2 (s1.trans s2) (zD.mpr rfl)⟩
 · cases hf
end
section
variable {X:Cx} {a b c e:Expr} {fa fb:Ef} {ga gb:Lf} {pos p:Pos}
def wB (f:Ef):Ef:=fun ρ=>(f ρ).bind fun d=>match d with | .int i=>if i.natAbs.log2 < 1920 then some (.str (Str.ofString (toString i))) else none | _=>none
def qF (hg:Gl X "str")(hm:X.mg "str"=none)(h:PF X a fa)(hs:starEach [a] X.env=[(false,eval a X.env)]:=by rfl):PF X (.Call (.Name "str" p) [a] [] pos) (wB fa):=by
 refine PE.to (pF zZr hg hm jf (zE h yO (by rw[hs];rfl)) jb jb (by rw[hs];rfl) jf) ?_
 rintro σ H Q ⟨G0,H0,G,ρ,d,j2,hf,k⟩
 unfold wB at hf
 obtain⟨x,h1,hf⟩:=Qw.mp hf
 refine⟨G0,H0,G,ρ,_,j2,h1,fun v H1 G1 s1 r1=>?_⟩
 cases x with
 | int i =>
   dsimp only at hf
   split at hf
   · rename_i hz
     cases hf
     exact⟨i,by rw[zD.mp r1],hz,k _ _ G1 s1 (yG.mpr rfl)⟩
   · cases hf
 | _=>cases hf
def zMZ:CallR X (.type "int") (fun xs H Q=>∃x n,xs=[.str x]/\x.length<=640/\PySem.intText? x=some n/\Q (.int n) H):=by
 intro Z s σ H xs us Q I r h
 obtain⟨x,n,rfl,hl,hn,q⟩:=h
 obtain⟨u,rfl,t,rfl⟩:=oG r
 exact PySem.W.KIN.call_text hn hl ⟨.int n,H,I.tok _,⟨_,rfl⟩,q⟩
def zKA:D->Option D
 | .int i=>some (.int i)
 | .bl k=>some (.int (if k then 1 else 0))
 | .str x=>if x.length<=640 then(PySem.intText? x).map .int else none
 | _=>none
def sB (f:Ef):Ef:=fun ρ=>(f ρ).bind zKA
def dM (hg:Gl X "int")(hm:X.mg "int"=none)(h:PF X a fa)(hs:starEach [a] X.env=[(false,eval a X.env)]:=by rfl):PF X (.Call (.Name "int" p) [a] [] pos) (sB fa):=by
 refine PE.to (pF (zNu.or zMZ) hg hm jf (zE h yO (by rw[hs];rfl)) jb jb (by rw[hs];rfl) jf) ?_
 rintro σ H Q ⟨G0,H0,G,ρ,d,j2,hf,k⟩
 unfold sB at hf
 obtain⟨x,h1,hf⟩:=Qw.mp hf
 refine⟨G0,H0,G,ρ,_,j2,h1,fun v H1 G1 s1 r1=>?_⟩
 unfold zKA at hf
 split at hf
 · cases hf;exact .inl (.inl ⟨_,by rw[zD.mp r1],k _ _ G1 s1 (zD.mpr rfl)⟩)
 · cases hf;exact .inl (.inr ⟨_,by rw[vU.mp r1],k _ _ G1 s1 (zD.mpr rfl)⟩)
 · split at hf
   · rename_i hz
     obtain⟨n,h2,rfl⟩:=Qy.mp hf
     exact .inr ⟨_,n,by rw[yG.mp r1],hz,h2,k _ _ G1 s1 (zD.mpr rfl)⟩
   · cases hf
 · cases hf
def zJ6 (fa fb:Ef):Ef:=fun ρ=>(fa ρ).bind fun x=>(fb ρ).bind fun y=>match x,y with | .int i,.int j=>some (.int (if j > i then j else i)) | _,_=>none
def zHj (hc:X.calm=true)(hg:Gl X "max")(hm:X.mg "max"=none)(ha:PF X a fa)(hb:PF X b fb)(hs:starEach [a,b] X.env=[(false,eval a X.env),(false,eval b X.env)]:=by rfl)(hs2:starEach [b] X.env=[(false,eval b X.env)]:=by rfl) :
   PF X (.Call (.Name "max" p) [a,b] [] pos) (zJ6 fa fb):=by
 refine PE.to (pP (zO3 hc) hg hm jf (zE ha (zE hb yO (by rw[hs2];rfl)) (by rw[hs,hs2])) jb jb (by rw[hs,hs2]) (by rw[hs2];rfl)) ?_
 rintro σ H Q ⟨G0,H0,G,ρ,d,j2,hf,k⟩
 unfold zJ6 at hf
 obtain⟨x,h1,hf⟩:=Qw.mp hf
 obtain⟨y,h2,hf⟩:=Qw.mp hf
 refine⟨G0,H0,G,ρ,_,j2,h1,fun u H1 G1 s1 r1=>⟨G0,H0,G1,ρ,_,j2.step s1,h2,fun v H2 G2 s2 r2=>?_⟩⟩
 split at hf
 · cases hf
   exact⟨_,_,by rw[zD.mp r1,zD.mp r2],k _ _ G2 (s1.trans s2) (zD.mpr rfl)⟩
 · cases hf
def zJK:OpR X (binaryOp .Add) (fun x y H Q=>∃l b xs zs,x = .ref l/\y = .ref b/\SqL X.K H l xs/\SqL X.K H b zs/\xs.length+zs.length<=sizeLine/\∀p,H p=none->Q (.ref p) (upd H p (.lst (xs++zs)))):=by
 intro Z s σ H x y v u Q I rx ry h
 obtain⟨l,b,xs,zs,rfl,rfl,hH,hB,hz,q⟩:=h
 cases rx
 cases ry
 obtain⟨j6,r,pl,_⟩:=I.list hH
 obtain⟨its2,r2,pl2,_⟩:=I.list hB
 obtain⟨⟨cls,dd,data,sl⟩,ho,hc,n,hd⟩:=pl.isList
 obtain⟨⟨cls2,dd2,data2,sl2⟩,ho2,hc2,n2,hd2⟩:=pl2.isList
 simp only at hc hd hc2 hd2
 subst hc hd hc2 hd2
 have hl:=r.length
 have hl2:=r2.length
 have e:j6.toArray++its2.toArray=(j6++its2).toArray:=jd
 refine Ix ⟨_,ho,rfl⟩ ⟨_,ho2,rfl⟩ noFill_list_add seq_list_add PySem.F.slot_list_add PySem.F.entry_list_add (PySem.F.args_list_add_2 _ _) (list_addW l b j6.toArray its2.toArray n n2 dd dd2 sl sl2 (by rw[Qg,Qg];omega)) ⟨ho,ho2,?_⟩
 rw[e]
 exact⟨.ref _,_,I.lnew (t':=s.toks) (r.append r2) (by rw[Qk];omega),rfl,q _ I.fresh⟩
def zT6 (ha:zTp X a ga)(hb:zTp X b gb):PFr X (.BinOp a .Add b pos) (eT ga gb):=by
 refine PE.toR (zXd zJK ha hb) ?_
 rintro σ H Q ⟨G0,H0,G,ρ,d,j2,hf,k⟩
 unfold eT at hf
 obtain⟨xs,h1,hf⟩:=Qw.mp hf
 obtain⟨ys,h2,hf⟩:=Qw.mp hf
 obtain⟨rfl,h3⟩:=zZH hf
 refine⟨G0,H0,G,ρ,_,j2,h1,fun p vs H1 G1 s1 hq rs=>⟨G0,H0,G1,ρ,_,j2.step s1,h2,fun q us H2 G2 s2 hq2 rs2=>?_⟩⟩
 refine⟨p,q,vs,us,rfl,rfl,(s1.sub.trans s2.hh).seq hq,s2.sub.seq hq2,?_,fun l hl=>?_⟩
 · rw[←rs.length,←rs2.length,←Qk];exact Et (uY h3)
 · have s3:=Step.own (o:=.lst (vs++us)) s2.sub hl
   exact k l _ _ G2 ((s1.trans s2).trans s3) ((s1.trans s2).hh.free hl) yW (s2.sub.free hl) ((rs.mono s2.gg).append rs2)
def zVj:List D->Option (List Str)
 | []=>some []
 | .str x::r=>(zVj r).map fun xs=>x::xs
 | _=>none
def zVm {K:jg}{G:Hp}:∀ {ds:List D} {ys:List Str} {vs:List V},zVj ds=some ys->Reps K G ds vs->vs=ys.map V.str
 | [],_,_,h,r=>by cases h;rw[yR] at r;rw[r];rfl
 | d::t,_,_,h,r=>by
   unfold zVj at h
   split at h
   · rename_i h';cases h'
   · rename_i k t' h'
     cases h'
     obtain⟨v,vr,rfl,r1,r2⟩:=zB.mp r
     obtain⟨ks,h1,rfl⟩:=Qy.mp h
     rw[zVm h1 r2,yG.mp r1];rfl
   · cases h
def zPK {ns:List Str}:∀ {us:jj},Vals (ns.map V.str) us->StrsAre us ns:=by
 induction ns with
 | nil=>intro us r;rw[Wz] at r;cases r;exact .nil
 | cons n ns ih =>
   intro us r
   rw[Qu] at r
   cases r with
   | cons r1 r2 =>
     obtain⟨t,e⟩:=r1
     subst e
     exact .cons n t (ih r2)
def zIQ (K:jg):V->List V->Hp->VK->Prop:=fun x vs H Q=>∃z p ys,x = .str z/\vs=[.ref p]/\SqL K H p (ys.map V.str)/\(ys.map (·.length)).sum+ys.length*z.length<=16777216/\Q (.str (Txt.join z ys)) H
def sM:MtR X "str.join" (zIQ X.K):=by
 intro Z s σ H x xs v us Q I rx rv h
 obtain⟨z,p,ys,rfl,rfl,hq,hz,q⟩:=h
 obtain⟨t,rfl⟩:=rx
 obtain⟨u,rfl,ru⟩:=rv.one
 cases ru
 obtain⟨j6,r,pl,_⟩:=I.list hq
 exact join_list pl.isList (by simpa using zPK r) hz fun t' k=>⟨.str _,H,I.tok k,⟨t',rfl⟩,q⟩
def vB (fa:Ef)(ga:Lf):Ef:=fun ρ=>(fa ρ).bind fun x=>(ga ρ).bind fun ds=>match x with | .str z=>(zVj ds).bind fun ys=>if (ys.map (·.length)).sum+ys.length*z.length<=100000 then some (.str (Txt.join z ys)) else none | _=>none
def sO (ht:PE X c (tBM X.K "str" (zIQ X.K) (tF X.K fa) (zWw (zKa X.K ga) zQR))):PF X c (vB fa ga):=by
 refine PE.to ht ?_
 rintro σ H Q ⟨G0,H0,G,ρ,d,j2,hf,k⟩
 unfold vB at hf
 obtain⟨x,h1,hf⟩:=Qw.mp hf
 obtain⟨ds,h2,hf⟩:=Qw.mp hf
 cases x with
 | str z =>
   dsimp only at hf
   obtain⟨ys,h3,hf⟩:=Qw.mp hf
   split at hf
   · rename_i hz
     cases hf
     refine⟨G0,H0,G,ρ,_,j2,h1,fun u H1 G1 s1 r1=>?_⟩
     have r1:=yG.mp r1
     subst r1
     refine⟨rfl,G0,H0,G1,ρ,_,j2.step s1,h2,fun q vs H2 G2 s2 hq rs=>?_⟩
     have e:=zVm h3 rs
     subst e
     exact⟨z,q,ys,rfl,rfl,s2.sub.seq hq,Ep hz jb,k _ _ G2 (s1.trans s2) (yG.mpr rfl)⟩
   · cases hf
 | _=>cases hf
structure FunD (K:jg)(x qual:Str)(st:Stmt)(f:Addr)(fd:FuncData):Prop where
 ex:∃(oc:Value) (od:Option Addr) (dV kV doc pm:Value) (an:Option Addr) (j9 ct:Value) (osl:Array (Option Value)),
   fd=PySem.W.fnOf x qual (uT st) (wH st) (zS st) dV kV doc pm an j9 ct/\K.lookup f=some ⟨oc,od,.func fd,osl⟩/\PySem.W.codeIn K j9 qual=true
 kp:PySem.W.keepIn K (.ref f)=true
variable {P:Program} {w:World} {K:jg} {mg:Str->Option Value} {base:Heap} {x qual:Str} {st:Stmt} {f:Addr} {fd:FuncData} {N ps:List Str} {k:Nat}
def zIF {body:Sf}(F:FunD K x qual st f fd)(S:FnScope N ps (zS st))
   (hb:∀(j9:Value) (A:Around) (outer:List Env) (s:Shared) (H:Hp) (E:XK),Room k (A.deeper (envOfC qual (zS st) s.heap.objs.size f j9))->bU (zXn CX0 P w K mg base N qual (zS st) f j9 A outer s H E).nox (wH st) body) :
   FnOk P w K mg base CX0 (k+1) f fd ps (spF K ps.length (fnF N.length body)):=by
 obtain⟨oc,od,dV,kV,doc,pm,an,j9,ct,osl,rfl,lk,hcd⟩:=F.ex
 refine zIT lk hcd S (fun vs H Q E h=>?_) fun A outer s H vs Q E hr h=>?_
 · obtain⟨G,ds,d,sub,rs,hl,_⟩:=h
   rw[←rs.length];exact hl
 · obtain⟨G,ds,d,sub,rs,hl,hf,k⟩:=h
   unfold fnF at hf
   obtain⟨o,h1,h2⟩:=Qw.mp hf
   refine⟨_,PSs.nox (hb j9 A outer s H E hr),G,H,G,_,o,aP sub rs,h1,?_⟩
   cases o with
   | nx ρ=>cases h2;exact fun σ' H' G' s' g'=>k .non H' G' g'.st (tY.mpr rfl)
   | rt e=>cases h2;exact fun v H' G' s' r=>k v H' G' s' r
   | rl es=>cases h2;exact fun p us H' G' s' hn hp gp r=>k _ H' (upd G' p (.lst us)) (s'.frz hn hp gp) (xB.mpr ⟨p,us,rfl,.of yW,r.mono (Same.new gp)⟩)
   | bk ρ=>cases h2
   | ct ρ=>cases h2
variable {es:List Expr}
def zSK {k n m:Nat}{fad:Addr}{fd:FuncData}{ps:List Str}{x:Str}{fD:jv}(gD:jv)(F:FnOk X.prog X.w X.K X.mg X.base CX0 k fad fd ps (spF X.K n fD))(hgD:∀ds,gD ds=fD (ds++[.non]))(hr:Room k X.A)(hm:X.mg x=some (.ref fad))(hk:PySem.W.keepIn X.K (.ref fad)=true)(hb:Binds X.K fd ps [.none])(hg:Gl X x)
   (ha:PFA X (e::es) ga) (hn:n=m+1) (hdb:(x==("__debug__":Str))=false:=by decide) (he:starEach (e::es) X.env=(false,eval e X.env)::starEach es X.env:=by rfl) (hpl:(backTo pos (starEach es X.env)).any (·.1)=false:=by rfl) :
   PF X (.Call (.Name x p) (e::es) [] pos) (zN m gD ga):=by
 refine PE.to (zT8 (E:=E0) F hr hg hm hk hb (dvs:=[.non]) (.cons rfl .nil) zRd ha hdb he hpl) ?_
 rintro σ H Q ⟨G0,H0,G,ρ,d,j2,hf,k⟩
 unfold zN at hf
 obtain⟨ds,h1,hf⟩:=Qw.mp hf
 split at hf
 · rename_i hl
   refine⟨G0,H0,G,ρ,_,j2,h1,fun vs H1 G1 s1 r1=>?_⟩
   exact⟨G1,ds++[.non],d,s1.sub,r1.snoc (tY.mpr rfl),by rw[Qk,hl,hn];rfl,by rw[←hgD];exact hf,fun v H' G' s r=>k v H' G' (s1.trans s) r⟩
 · cases hf
end
def zXg {K:jg}{G:Hp}{f:Str}{d:D}:∀ {ns:List Str} {ds:List D} {vs:List V},ns.length=ds.length->Reps K G ds vs->(ns.zip ds).lookup f=some d->∃u,(ns.zip vs).lookup f=some u/\Rep K G d u
 | [],_,_,_,_,h=>by simp at h
 | n::ns,[],_,hl,_,_=>by simp at hl
 | n::ns,e::ds,_,hl,r,h=>by
   obtain⟨v,vr,rfl,r1,r2⟩:=zB.mp r
   rw[List.zip_cons_cons,Ed] at h ⊢
   cases hq:f==n with
   | true=>rw[hq] at h;cases h;exact⟨v,rfl,r1⟩
   | false=>rw[hq] at h;exact zXg (by simpa using hl) r2 h
section
variable {X:Cx} {a c e:Expr} {fa:Ef} {pos p:Pos} {st:Stmt}
def yB (c f:Str)(fa:Ef):Ef:=fun ρ=>(fa ρ).bind fun d=>match d with | .obj c' ns ds=>if c'=c then(ns.zip ds).lookup f else none | _=>none
def xP {C:Addr}{c f:Str}(hC:ClsAt X.K c C)(hcl:Cls X.K C)(hn:NoAttr X.K C f)(ha:PF X a fa)(hb:attributeBase a f X.env (eval a X.env)=eval a X.env:=by rfl):PF X (.Attribute a f pos) (yB c f fa):=by
 refine PE.to (zIA ha hb) ?_
 rintro σ H Q ⟨G0,H0,G,ρ,d,j2,hf,k⟩
 unfold yB at hf
 obtain⟨x,h1,hf2⟩:=Qw.mp hf
 cases x with
 | obj c' ns ds =>
   dsimp only at hf2
   by_cases hc:c'=c
   · rw[Qv hc] at hf2
     subst hc
     refine⟨G0,H0,G,ρ,_,j2,h1,fun v H1 G1 s1 r1=>?_⟩
     obtain⟨C',q,dx,vs,e0,rfl,e1,e2,e3⟩:=zZf.mp r1
     have ec:=hC.one e0
     subst ec
     obtain⟨u,e4,e5⟩:=zXg e2 e3 hf2
     exact⟨q,_,dx,ns.zip vs,u,rfl,s1.sub _ _ e1,hcl,hn,e4,k _ _ G1 s1 e5⟩
   · rw[Wh hc] at hf2;cases hf2
 | _=>cases hf2
def zZ7 {f:Str}{y:V}:∀ {ns:List Str} {vs:List V},ns.length=vs.length->f∉ns->iH f y (ns.zip vs)=(ns++[f]).zip (vs++[y])
 | [],[],_,_=>rfl
 | [],_::_,h,_=>by simp at h
 | _::_,[],h,_=>by simp at h
 | n::ns,v::vs,h,hf=>by
   show(if n=f then _ else(n,v)::iH f y (ns.zip vs))=_
   rw[Wh (fun z=>hf (by rw[z];exact Qf)),zZ7 (by simpa using h) (fun z=>hf (Qa _ z))]
   rfl
def zJL (K:jg)(C:Addr)(ns:List Str)(g:Lf):TS:=fun DD σ H=>∃(G0 H0 G:Hp) (ρ:List B) (p dx:Addr) (pre:List Str) (us:List V) (xs ds:List D),
 Good K G0 H0 G H σ ρ/\zWf ρ/\σ[0]?=some (some (.ref p))/\H p=some (.ins C dx (pre.zip us))/\G p=none/\H0 p=none/\pre.length=us.length/\(pre++ns).Nodup/\(pre++ns).length<=900/\Reps K G xs us/\g ρ=some ds /\
 ∀H' G' vs,Step G0 H0 G' H'->H' p=some (.ins C dx ((pre++ns).zip vs))->G' p=none->Reps K G' (xs++ds) vs->DD.nx σ H'
def zT4 {C:Addr}:PSs X [] (zJL X.K C [] zR):=by
 intro Z s σ H D I h
 refine zST Z s σ H D I ?_
 obtain⟨G0,H0,G,ρ,p,dx,pre,us,xs,ds,j2,now,hs,hp,gp,h0,hl,nd,hz,rs,hg,k⟩:=h
 cases hg
 rw[Wx] at k
 exact k H G us j2.st (by rw[Wx] at *;exact hp) gp (by rw[Wx];exact rs)
def sZ {C:Addr}{f x:Str}{ns:List Str}{g:Lf}{rest:List Stmt}{pos' p1:Pos}(hcl:Cls X.K C)(hn:NoAttr X.K C f)(hself:X.N[0]?=some x)(hvis:Vis X.env.scope x)(he:PF X e fa)(hr:PSs X rest (zJL X.K C ns g))(hd:(x==("__debug__":Str))=false:=by decide)(hcd:(x==("__classdict__":Str))=false:=by decide)
   (hs:swapsWith e (some (.Attribute (.Name x p1) f pos')) pos.line X.env=pure false:=by rfl):PSs X (.Assign [.Attribute (.Name x p1) f pos'] e pos::rest) (zJL X.K C (f::ns) (zY fa g)):=by
 intro Z s σ H D I h
 refine zZq (zPG (pX hself hvis hd hcd) he hs) hr Z s σ H D I ?_
 obtain⟨G0,H0,G,ρ,p,dx,pre,us,xs,ds,j2,now,hself,hp,gp,h0,hl,nd,hz,rs,hg,k⟩:=h
 obtain⟨d,dr,h1,h2,rfl⟩:=zYX hg
 have hlp:pre.length < 1000:=by rw[Qk] at hz;omega
 have hnp:f∉pre:=fun z=>(Tp.mp nd).2.2 f z f Qf rfl
 have e1:pre++f::ns=(pre++[f])++ns:=jd
 refine⟨G0,H0,G,ρ,d,j2,h1,fun v H1 G1 s1 r1=>⟨.ref p,hself,p,C,dx,pre.zip us,rfl,s1.hh _ _ hp,hcl,hn,?_,?_⟩⟩
 · rw[Oa];omega
 · have hne:H p≠none:=by rw[hp];exact fun z=>nomatch z
   have gp1:G1 p=none:=(s1.new p hne).trans gp
   refine⟨G0,H0,G1,ρ,p,dx,pre++[f],us++[v],xs++[d],dr,(j2.step s1).wrX now gp1 h0,now,hself,?_,gp1,h0,by rw[Qk,Qk,hl];rfl,by rw[←e1];exact nd,by rw[←e1];exact hz,(rs.mono s1.gg).snoc r1,h2,fun H' G' vs st q1 q2 q3=>?_⟩
   · rw[yW,zZ7 hl hnp]
   · refine k H' G' vs st (by rw[e1];exact q1) q2 ?_
     rw[show xs++d::dr=(xs++[d])++dr by simp]
     exact q3
end
def spI (K:jg)(C:Addr)(ns:List Str)(n:Nat)(f:List D->Option (List D)):Sp:=fun vs H Q _=>∃(p dx:Addr) (rest:List V) (G H0:Hp) (ds xs:List D),vs = .ref p::rest/\H=upd (upd H0 dx (.own p)) p (.ins C dx [])/\H0 p=none/\H0 dx=none/\dx≠p/\Same G H0/\Reps K G ds rest/\ds.length=n/\f ds=some xs /\
 ∀H' G' us,Step G H0 G' H'->H' p=some (.ins C dx (ns.zip us))->G' p=none->Reps K G' xs us->Q .non H'
def zYH {K:jg}{G H0 H:Hp}(m:Nat):∀ {ds:List D} {vs:List V},Reps K G ds vs->Paired (RB K H0 G H) (vs.map some++List.replicate m none) (ds.map .fz++List.replicate m .no)
 | [],_,h=>by
   rw[yR] at h;subst h
   show Paired _ (List.replicate m none) (List.replicate m B.no)
   induction m with
   | zero=>exact .nil
   | succ n ih=>rw[Wl,Wl];exact .cons .no ih
 | d::r,_,h=>by
   obtain⟨v,vr,rfl,h1,h2⟩:=zB.mp h
   exact .cons (.fz h1) (zYH m h2)
def zXI (m:Nat)(ds:List D):zWf (.no::(ds.map B.fz++List.replicate m B.no)):=by
 constructor
 all_goals
   intro j es h
   cases j with
   | zero=>cases h
   | succ j =>
     rw[Qx] at h
     by_cases hi:j < ds.length
     · rw[Es (by simpa using hi),Wa] at h
       obtain⟨k,_,h⟩:=Qy.mp h
       cases h
     · rw[Ew (by simpa using hi),Ro] at h
       split at h<;>cases h
def lG (N:Nat)(ds:List D):List B:=.no::(ds.map .fz++List.replicate (N - (ds.length+1)) .no)
section
variable {P:Program} {w:World} {K:jg} {mg:Str->Option Value} {base:Heap} {x qual:Str} {st:Stmt} {f C:Addr} {fd:FuncData} {N ps ns:List Str} {k:Nat} {sf:Str}
def zT5 {g:Lf}(F:Fun K x qual st f fd)(S:FnScope N (sf::ps) (zS st))(hnd:ns.Nodup)(j5:ns.length<=900)
   (hb:∀(j9:Value) (A:Around) (outer:List Env) (s:Shared) (H:Hp) (E:XK),Room k (A.deeper (envOfC qual (zS st) s.heap.objs.size f j9))->PSs (zXn CX0 P w K mg base N qual (zS st) f j9 A outer s H E).nox (wH st) (zJL K C ns g)) :
   FnOk P w K mg base CX0 (k+1) f fd (sf::ps) (spI K C ns ps.length fun ds=>g (lG N.length ds)):=by
 refine F.ok S (fun vs H Q E h=>?_) (fun j9 A outer s H vs Q E hr h=>⟨_,hb j9 A outer s H E hr,?_⟩)
 · obtain⟨p,dx,rest,G,H0,ds,xs,rfl,_,_,_,_,_,rs,hl,_⟩:=h
   rw[Qo,Qo,←rs.length,hl]
 · obtain⟨p,dx,rest,G,H0,ds,xs,rfl,rfl,h1,h2,h3,sub,rs,hl,hf,k⟩:=h
   have hne:p≠dx:=h3.symm
   have hp1:(upd H0 dx (.own p)) p=none:=by rw[yL hne];exact h1
   have st1:Step G H0 G (upd H0 dx (.own p)):=Step.own sub h2
   have st2:Step G H0 G (upd (upd H0 dx (.own p)) p (.ins C dx [])):=st1.trans (Step.own st1.sub hp1)
   have j2:Good K G H0 G (upd (upd H0 dx (.own p)) p (.ins C dx [])) (nQ N (.ref p::rest)) (lG N.length ds):=by
     refine⟨st2,?_,fun i j a es es' q1=>absurd q1 ((zXI _ ds).1 i es)⟩
     unfold nQ lG
     rw[Qu,Qo,Re,←rs.length]
     exact .cons .no (zYH _ rs)
   refine⟨G,H0,G,_,p,dx,[],[],[],xs,j2,zXI _ ds,rfl,yW,sub.free h1,h1,rfl,hnd,j5,yR.mpr rfl,hf,fun H' G' us s' q1 q2 q3=>k H' G' us s' q1 q2 q3⟩
variable {X:Cx} {a b c e:Expr} {es:List Expr} {fb:Ef} {ga:Lf} {pos p:Pos}
def dW (c:Str)(ns:List Str)(n:Nat)(f:List D->Option (List D))(g:Lf):Ef:=fun ρ=>(g ρ).bind fun ds=>if ds.length=n then(f ds).bind fun xs=>if ns.length=xs.length then some (.obj c ns xs) else none else none
def zZ1 {k n:Nat}{C fI:Addr}{fd:FuncData}{ps ns:List Str}{c:Str}{f:List D->Option (List D)}(hC:ClsAt X.K c C)(M:Mk X.K C fI)(F:FnOk X.prog X.w X.K X.mg X.base CX0 k fI fd ps (spI X.K C ns n f))(hr:Room (k+1) X.A)(hm:X.mg c=some (.ref C))(hb:Binds X.K fd ps [])(hg:Gl X c)
   (ha:PFA X (e::es) ga) (hdb:(c==("__debug__":Str))=false:=by decide) (he:starEach (e::es) X.env=(false,eval e X.env)::starEach es X.env:=by rfl) (hpl:(backTo pos (starEach es X.env)).any (·.1)=false:=by rfl) :
   PF X (.Call (.Name c p) (e::es) [] pos) (dW c ns n f ga):=by
 refine PE.to (zOA (E:=E0) M F hr hg hm hb .nil zRd ha hdb he hpl) ?_
 rintro σ H Q ⟨G0,H0,G,ρ,d,j2,hf,k⟩
 unfold dW at hf
 obtain⟨ds,h1,hf⟩:=Qw.mp hf
 split at hf
 · rename_i hl
   obtain⟨xs,h2,hf⟩:=Qw.mp hf
   split at hf
   · rename_i hn
     cases hf
     refine⟨G0,H0,G,ρ,_,j2,h1,fun vs H1 G1 s1 r1 x dx hx hdx hne=>?_⟩
     refine⟨x,dx,vs++[],G1,H1,ds,xs,rfl,rfl,hx,hdx,hne,s1.sub,by rw[Wx];exact r1,hl,h2,fun H' G' us s' q1 q2 q3=>⟨rfl,?_⟩⟩
     exact k _ _ _ (s1.trans (s'.frz hx q1 q2)) (zZf.mpr ⟨C,x,dx,us,hC,rfl,yW,hn,q3.mono (Same.new q2)⟩)
   · cases hf
 · cases hf
def eR:D->D->Option Bool
 | d,.non=>some (oH d)
 | .bl x,.bl y=>some (x==y)
 | .non,.bl _=>some false
 | .int _,.bl _=>some false
 | .str _,.bl _=>some false
 | .tup _,.bl _=>some false
 | .lst _,.bl _=>some false
 | .obj _ _ _,.bl _=>some false
 | .exc _ _ _,.bl _=>some false
 | _,_=>none
def zI2:OpR X (compareOp .Is) (fun x y H Q=>∃k,y = .bl k/\Q (.bl (decide (x = .bl k))) H):=by
 intro Z s σ H x y v u Q I rx ry h
 obtain⟨k,rfl,q⟩:=h
 cases ry
 cases x with
 | bl z=>cases rx;refine is_bool (xT I q ?_);rw[zTY]
 | non=>cases rx;refine Ts jf (by intro z;cases z) (xT I q jd)
 | int i=>obtain⟨t,rfl⟩:=rx;refine Ts jf (by intro z;cases z) (xT I q jd)
 | str i=>obtain⟨t,rfl⟩:=rx;refine Ts jf (by intro z;cases z) (xT I q jd)
 | byt i=>obtain⟨t,rfl⟩:=rx;refine Ts jf (by intro z;cases z) (xT I q jd)
 | flt i=>obtain⟨t,rfl⟩:=rx;refine Ts jf (by intro z;cases z) (xT I q jd)
 | ref i=>cases rx;refine Ts jf (by intro z;cases z) (xT I q jd)
 | ty i=>cases rx;refine Ts jf (by intro z;cases z) (xT I q jd)
def nY:CmR X .Is eR:=⟨_,zHW.or zI2,fun d d' k G H x y Q h s rx ry q=>by
 have fin:∀(z:Bool) (v:V),d' = .bl z->x=v->k=decide (v = .bl z)->(fun x y H Q=>y=V.non/\Q (.bl (decide (x = .non))) H) x y H Q∨(∃k,y = .bl k/\Q (.bl (decide (x = .bl k))) H):=fun z v e1 e2 e3=>by
   subst e1;subst e2
   exact .inr ⟨z,vU.mp ry,by rw[←e3];exact q H G (.refl s)⟩
 cases d' with
 | non =>
   have hk:oH d=k:=by cases d<;>(cases h;rfl)
   refine .inl ⟨tY.mp ry,?_⟩
   rw[zVb rx,hk];exact q H G (.refl s)
 | bl z =>
   cases d with
   | bl w=>cases h;exact fin z _ rfl (vU.mp rx) (by rw[zTY])
   | non=>cases h;exact fin z _ rfl (tY.mp rx) jd
   | int i=>cases h;exact fin z _ rfl (zD.mp rx) jd
   | str i=>cases h;exact fin z _ rfl (yG.mp rx) jd
   | tup ds=>cases h;obtain⟨p,_,e,_⟩:=y0.mp rx;exact fin z _ rfl e jd
   | lst ds=>cases h;obtain⟨p,_,e,_⟩:=xB.mp rx;exact fin z _ rfl e jd
   | obj _ _ ds=>cases h;obtain⟨_,p,_,_,_,e,_⟩:=zZf.mp rx;exact fin z _ rfl e jd
   | exc _ _ ds=>cases h;obtain⟨_,p,_,_,_,e,_⟩:=zOQ.mp rx;exact fin z _ rfl e jd
 | _=>cases d<;>cases h⟩
def zIa (g:Lf)(f:Ef):Lf:=fun ρ=>(g ρ).bind fun ds=>(f ρ).bind fun n=>match n with | .int k=>if decide (0<=k)&&decide (k<=1000)&&decide (ds.length<=90) then some (List.replicate k.toNat ds).flatten else none | _=>none
def zSf {K:jg}{G:Hp}{ds:List D}{vs:List V}(h:Reps K G ds vs):∀k:Nat,Reps K G (List.replicate k ds).flatten (List.replicate k vs).flatten
 | 0=>yR.mpr rfl
 | k+1=>by
   rw[Wl,Wl,To,To]
   exact h.append (zSf h k)
def zHv (ha:PFr X a ga)(hb:PF X b fb):PFr X (.BinOp a .Mult b pos) (zIa ga fb):=by
 refine PE.toR (zXd zHL ha hb) ?_
 rintro σ H Q ⟨G0,H0,G,ρ,d,j2,hf,k⟩
 unfold zIa at hf
 obtain⟨xs,h1,hf⟩:=Qw.mp hf
 obtain⟨n,h2,hf⟩:=Qw.mp hf
 cases n with
 | int m =>
   dsimp only at hf
   split at hf
   · rename_i hc
     cases hf
     simp only[Qc,Wb] at hc
     refine⟨G0,H0,G,ρ,_,j2,h1,fun p vs H1 G1 s1 hn hp gp rs=>⟨G0,H0,G1,ρ,_,j2.step s1,h2,fun q H2 G2 s2 r2=>?_⟩⟩
     have hne:H1 p≠none:=by rw[hp];exact fun z=>nomatch z
     refine⟨p,m,vs,rfl,zD.mp r2,s2.hh _ _ hp,jc,jc,?_,fun l hl=>?_⟩
     · rw[←rs.length]
       have:xs.length*m.toNat<=90*1000:=Nat.mul_le_mul hc.2 jc
       exact Ep this jb
     · have s3:=Step.own (o:=.lst (List.replicate m.toNat vs).flatten) s2.sub hl
       exact k l _ _ G2 ((s1.trans s2).trans s3) ((s1.trans s2).hh.free hl) yW (s2.sub.free hl) (zSf (rs.mono s2.gg) _)
   · cases hf
 | _=>cases hf
def zYE (i:Nat):Tf:=fun ρ=>match ρ[i]? with | some (.ow ds)=>some (!ds.isEmpty) | _=>none
def zMB (hu:X.A.units < cLine):OpR X (compareOp .NotEq) (fun x y H Q=>∃l m xs,x = .ref l/\y = .ref m/\SqL X.K H l xs/\SqL X.K H m []/\Q (.bl (!xs.isEmpty)) H):=by
 intro Z s σ H x y v u Q I rx ry h
 obtain⟨l,m,xs,rfl,rfl,hl,hm,q⟩:=h
 cases rx
 cases ry
 obtain⟨j6,w1,t1,_⟩:=I.list hl
 obtain⟨jts,w2,t2,_⟩:=I.list hm
 cases w2
 cases xs with
 | nil =>
   cases w1
   have R:=SeqAt.RcNeAt.lists (A:=X.A) (s:=s) (e:=fun _=>true) t1.isList t2.isList rfl hu (fun j h1=>absurd h1 jd)
   exact R X.prog X.w X.xe _ ⟨.bl false,H,I,rfl,q⟩
 | cons x r =>
   cases w1 with
   | cons r1 r2 =>
     have R:=Oh (A:=X.A) (s:=s) t1.isList t2.isList jd hu
     exact R X.prog X.w X.xe _ ⟨.bl true,H,I,rfl,q⟩
def zLm {k:Nat}(i:Nat)(hr:Room k X.A){x:Str}{p1 p2:Pos}(hN:X.N[i]?=some x:=by rfl)(hv:Vis X.env.scope x:=by first | exact Or.inl rfl | exact Or.inr (Or.inl rfl) | exact Or.inr (Or.inr rfl))(hd:(x==("__debug__":Str))=false:=by decide)(hcd:(x==("__classdict__":Str))=false:=by decide) :
   PFT X (.Compare (.Name x p1) [.NotEq] [.List [] p2] pos) (zYE i):=by
 refine PT.to (zZT (zMB hr.units0) (pX hN hv hd hcd) (zLk yO) (zYC _)) ?_
 rintro σ H Q ⟨G0,H0,G,ρ,b,j2,hf,k⟩
 unfold zYE at hf
 split at hf
 · rename_i ds hi
   cases hf
   obtain⟨q,vs,e1,e2,e3,e4,e5⟩:=j2.addr hi
   refine⟨.ref q,e1,Th _,fun z hz=>⟨q,z,vs,rfl,rfl,.of (by rw[yL (xH e2 hz)];exact e2),.of yW,_,rfl,?_⟩⟩
   have e:(!vs.isEmpty) = !ds.isEmpty:=by
     have hl:=e5.length
     cases vs with
     | nil=>cases ds with
       | nil=>rfl
       | cons _ _=>simp at hl
     | cons _ _=>cases ds with
       | nil=>simp at hl
       | cons _ _=>rfl
   rw[e]
   exact k _ G (Step.own j2.sub hz)
 · cases hf
variable {l:Addr} {j6:jk} {n:Nat} {dd:Option Addr} {sl:Array (Option Value)} {y:Value} {q:Nat->Bool} {top:Int} {j:Nat}
def zOC (hj:j < j6.size)(ht:(j:Int) < top)(hq:q j=true):∀(k i:Nat),j - i=k->i<=j->(∀m,i<=m->m < j->q m=false)->Meets (Builtin.«list.index.loop» ⟨[.ref l,y,rawInt i,rawInt top],[]⟩)
   (fun A R s=>s.heap.get? l=some { cls:=.type "list",dict:=dd,data:=.seq j6 n,slots:=sl }/\(∀m (h:m < j6.size),SeqAt.EqAt A.in1 s j6[m] y (q m))/\R (.ok (.ret (.int j s.toks))) { s with toks:=s.toks+1 })
 | 0,i,hk,hi,_=>by
   have e:i=j:=jc
   subst e
   intro P w A R s hyp
   obtain⟨hp,g,d,tk,os⟩:=s
   obtain⟨at_,eqs,fin⟩:=hyp
   wp_walk using wpAny_loadPart' at_
   rw[show(if (i:Int) < top then j6[((i:Nat):Int).toNat]? else none)=some j6[i] by simp[ht,hj]]
   refine Qe (eqs i hj P w _ _ ?_)
   rw[hq]
   wp_walk
   exact fin
 | k+1,i,hk,hi,hno=>by
   intro P w A R s hyp
   obtain⟨hp,g,d,tk,os⟩:=s
   obtain⟨at_,eqs,fin⟩:=hyp
   have lt:i < j6.size:=jc
   have lt2:(i:Int) < top:=jc
   wp_walk using wpAny_loadPart' at_
   rw[show(if (i:Int) < top then j6[((i:Nat):Int).toNat]? else none)=some j6[i] by simp[lt2,lt]]
   refine Qe (eqs i lt P w _ _ ?_)
   rw[hno i (Ql _) jc]
   wp_walk
   rw[show((i:Int)+1)=((i+1:Nat):Int) by push_cast;rfl]
   exact⟨Rm Td _,Rb Ol (by
     rw[Rw Td _]
     exact zOC hj ht hq k (i+1) jc jc (fun m h1 h2=>hno m jc h2) P w A R _ ⟨at_,eqs,fin⟩)⟩
def zMx (hj:j < j6.size)(hs:(j:Int) < 2^63 - 1)(hq:q j=true)(hno:∀m,m < j->q m=false):Meets (Builtin.«list.index» ⟨[.ref l,y],[]⟩)
   (fun A R s=>s.heap.get? l=some { cls:=.type "list",dict:=dd,data:=.seq j6 n,slots:=sl }/\(∀m (h:m < j6.size),SeqAt.EqAt A.in1 s j6[m] y (q m))/\R (.ok (.ret (.int j s.toks))) { s with toks:=s.toks+1 }):=by
 intro P w A R s hyp
 obtain⟨hp,g,d,tk,os⟩:=s
 obtain⟨at_,eqs,fin⟩:=hyp
 wp_walk using wpAny_loadPart' at_
 rw[show((fun i:Int=>if i < 0 then max 0 (i+(j6.size:Int)) else i) ((none:Option Int).getD 0))=((0:Nat):Int) by simp,
   show((fun i:Int=>if i < 0 then max 0 (i+(j6.size:Int)) else i) ((none:Option Int).getD (2^63 - 1)))=2^63 - 1 by simp]
 exact⟨Rm Td _,Rb Ol (by
   rw[Rw Td _]
   exact zOC hj hs hq _ 0 rfl (Th _) (fun m _ h2=>hno m h2) P w A R _ ⟨at_,eqs,fin⟩)⟩
end
def ixD (d:D):List D->Option Nat
 | []=>none
 | x::r=>(eqD 8 x d).bind fun b=>if b=true then(if (r.all fun z=>(eqD 8 z d).isSome) then some 0 else none) else(ixD d r).map (· + 1)
def zRO {d:D}:∀ {ds:List D} {j:Nat},ixD d ds=some j->j < ds.length/\(∀(m:Nat) (x:D),ds[m]?=some x->∃b,eqD 8 x d=some b/\(m < j->b=false)/\(m=j->b=true))
 | [],_,h=>by cases h
 | x::r,j,h=>by
   unfold ixD at h
   obtain⟨b,h1,h⟩:=Qw.mp h
   split at h
   · rename_i hb
     split at h
     · rename_i ha
       cases h
       refine⟨jd,fun m z hz=>?_⟩
       cases m with
       | zero=>cases hz;exact⟨b,h1,fun q=>absurd q (Wk _),fun _=>hb⟩
       | succ m =>
         rw[Qx] at hz
         have:=Qn.mp ha z (Ta hz)
         obtain⟨b',hb'⟩:=Eb.mp this
         exact⟨b',hb',fun q=>jc,fun q=>jc⟩
     · cases h
   · rename_i hb
     obtain⟨i,h2,rfl⟩:=Qy.mp h
     obtain⟨h3,h4⟩:=zRO h2
     refine⟨by rw[Qo];omega,fun m z hz=>?_⟩
     cases m with
     | zero=>cases hz;exact⟨b,h1,fun _=>by simpa using hb,fun q=>jc⟩
     | succ m =>
       rw[Qx] at hz
       obtain⟨b',q1,q2,q3⟩:=h4 m z hz
       exact⟨b',q1,fun q=>q2 jc,fun q=>q3 jc⟩
section
variable {X:Cx} {b c:Expr} {fb:Ef} {ga:Lf}
def zMs (X:Cx):V->List V->Hp->VK->Prop:=fun x vs H Q=>∃l y G ds ws d j,x = .ref l/\vs=[y]/\Same G H/\SqL X.K H l ws/\Reps X.K G ds ws/\Rep X.K G d y/\ixD d ds=some j/\ds.length<=100000/\Q (.int (j:Nat)) H
def zLM {k:Nat}(hr:Room k X.A):MtR X "list.index" (zMs X):=by
 intro Z s σ H x xs v us Q I rx rv h
 obtain⟨l,y,G,ds,ws,d,j,rfl,rfl,sub,hq,rs,rd,hj,hl,q⟩:=h
 cases rx
 obtain⟨u,rfl,ru⟩:=rv.one
 obtain⟨j6,r,pl,_⟩:=I.list hq
 obtain⟨⟨cls,dd,data,sl⟩,ho,hc,n,hd⟩:=pl.isList
 simp only at hc hd
 subst hc hd
 obtain⟨h1,h2⟩:=zRO hj
 have l1:=rs.length
 have l2:=r.length
 have hun:=hr.units
 have bs:∀m,∃b:Bool,(m < j->b=false)/\(m=j->b=true)/\∀(h:m < j6.toArray.size),SeqAt.EqAt X.A.in1 s j6.toArray[m] u b:=fun m=>by
   by_cases hm:m < ds.length
   · obtain⟨b,q1,q2,q3⟩:=h2 m _ (Qi hm)
     refine⟨b,q2,q3,fun h=>?_⟩
     obtain⟨v1,f1,g1⟩:=rs.get (Qi hm)
     obtain⟨u1,f3,g3⟩:=r.get f1
     have x1:j6.toArray[m]=u1:=by
       have:=(Ww.mp f3).2
       simpa using this
     rw[x1]
     exact(zH6 I sub 8 X.A.in1 _ _ v1 y u1 u _ (by show X.A.units+1+8 < cLine;omega) q1 g1 rd g3 ru).2.2
   · exact⟨decide (m=j),fun z=>Qb jc,fun z=>Qp z,fun h=>absurd h (by rw[Qg,←l2,←l1];exact hm)⟩
 have hjs:j < j6.toArray.size:=by rw[Qg,←l2,←l1];exact h1
 refine Yi F.slot_list_index ⟨_,ho,rfl⟩ F.entry_list_index (F.args_list_index_2 _ _) (zMx (l:=l) (j6:=j6.toArray) (n:=n) (dd:=dd) (sl:=sl) (y:=u) (q:=fun m=>(bs m).choose) (j:=j) hjs jc ((bs j).choose_spec.2.1 rfl) (fun m hm=>(bs m).choose_spec.1 hm)) ⟨ho,fun m h=>(bs m).choose_spec.2.2 h,?_⟩
 exact⟨.int (j:Nat),H,I.tok _,⟨_,rfl⟩,q⟩
def zQu (g:Lf)(f:Ef):Ef:=fun ρ=>(g ρ).bind fun ds=>(f ρ).bind fun d=>if ds.length<=100000 then(ixD d ds).map fun j=>.int (j:Nat) else none
def zMJ {k:Nat}(hr:Room k X.A)(ht:PE X c (tBM X.K "list" (zMs X) (zKa X.K ga) (zWw (tF X.K fb) zQR))):PF X c (zQu ga fb):=by
 refine PE.to ht ?_
 rintro σ H Q ⟨G0,H0,G,ρ,d,j2,hf,k⟩
 unfold zQu at hf
 obtain⟨ds,h1,hf⟩:=Qw.mp hf
 obtain⟨y,h2,hf⟩:=Qw.mp hf
 split at hf
 · rename_i hl
   obtain⟨j,h3,rfl⟩:=Qy.mp hf
   refine⟨G0,H0,G,ρ,_,j2,h1,fun q vs H1 G1 s1 hq rs=>⟨.inl ⟨rfl,vs,s1.sub.seq hq⟩,G0,H0,G1,ρ,_,j2.step s1,h2,fun v H2 G2 s2 r2=>?_⟩⟩
   exact⟨q,v,G2,ds,vs,y,j,rfl,rfl,s2.sub,(s1.sub.trans s2.hh).seq hq,rs.mono s2.gg,r2,h3,hl,k _ _ G2 (s1.trans s2) (zD.mpr rfl)⟩
 · cases hf
end
end L2
namespace L2
open PySem PySem.Spec PyProof.Rows
section
variable {prog:Program} {w:World} {A:Around} {E:jh} {s:Shared}
def zN4 {M:Model}{a:Addr}{Q:Option Obj->Shared->Prop}(h:Q (s.heap.get? a) s):wpAny M A (loadIfAlive a) Q E s :=
 fun Γ p _=>by show Sem.wp M Γ (.loadIfAlive a .pure) _ _ p s;rw[Sem.wp_loadIfAlive];exact h
abbrev zVI (h:Heap)(z TI TO T:Addr)(b:Bool):Prop:=h.get? z=some { cls:=.type "zip",dict:=none,data:=.fields #[rawInt T,.bool b,.bool false,.ref TI,.ref TO],slots:=#[] }
def zUD {z TI TO T:Addr}{b:Bool}{o:Obj}{Q:Bool->Shared->Prop}(hz:zVI s.heap z TI TO T b)(hT:s.heap.get? T=some o)(hQ:∀h',zVI h' z TI TO T true->(∀c u,c≠z->s.heap.get? c=some u->h'.get? c=some u)->h'.objs.size=s.heap.objs.size->Q false { s with heap:=h' }) :
   wpAny (model prog w) A (Builtin.SmallTypes.ownedTupleIsFree (.ref z)) Q E s:=by
 unfold Builtin.SmallTypes.ownedTupleIsFree
 refine Qe (Ek hz rfl (x:=rawInt T) rfl ?_)
 change wpAny _ _ (loadIfAlive (Int.toNat (T:Int)) >>= _) _ _ _
 refine Qe (zN4 ?_)
 rw[Rs,hT]
 change wpAny _ _ (field (.ref z) 1 >>= _) _ _ _
 refine Qe (Ek hz rfl (x:=.bool b) rfl ?_)
 cases b with
 | false =>
   change wpAny _ _ (setField (.ref z) 1 (.bool true) >>= fun _=>pure false) _ _ _
   refine Qe (Rk hz jd fun h' q1 q2=>Qd (hQ h' q1 (fun c u hc e=>q2.extBut _ _ hc e) q2.1))
 | true =>
   change wpAny _ _ (pure false) _ _ _
   exact Qd (hQ s.heap hz (fun _ _ _ e=>e) rfl)
def zO1 {z TI TO i1 i2 l1 l2 T:Addr}{b:Bool}{o:Obj}{k:Nat}{xs ys:jk}{x y:Value}{Q:jh}(D:ZipApart z TI TO i1 i2 l1 l2)
   (hz:zVI s.heap z TI TO T b) (hT:s.heap.get? T=some o) (hTI:IsPair s.heap TI (.ref i1) (.ref i2))
   (h1:s.heap.IsListIter i1 l1 k) (h2:s.heap.IsListIter i2 l2 k) (hl1:s.heap.IsList l1 xs) (hl2:s.heap.IsList l2 ys) (hx:xs[k]?=some x) (hy:ys[k]?=some y)
   (hQ:∀h',zVI h' z TI TO T true->h'.IsListIter i1 l1 (k+1)->h'.IsListIter i2 l2 (k+1)->IsPair h' s.heap.objs.size x y ->
     (∀c o,c≠z->c≠i1->c≠i2->s.heap.get? c=some o->h'.get? c=some o)->Q (.ref s.heap.objs.size) { s with heap:=h' }) :
   wpAny (model prog w) A (Builtin.«zip.__next__» ⟨[.ref z],[]⟩) (fun fin s'=>∃v,fin = .done (.ret v)/\Q v s') E s:=by
 change wpAny _ _ (field (.ref z) 2 >>= _) _ _ _
 refine Qe (Ek hz rfl (x:=.bool false) rfl ?_)
 change wpAny _ _ (field (.ref z) 3 >>= _) _ _ _
 refine Qe (Ek hz rfl (x:=.ref TI) rfl (Qe (Ec hTI rfl ?_)))
 change wpAny _ _ (Builtin.SmallTypes.ownedTupleIsFree (.ref z) >>= _) _ _ _
 refine Qe (zUD hz hT fun g1 z1 k1 e1=>?_)
 simp only[Wg,Rp]
 refine Qe ?_
 simp only[←Yj,Ys,Ub]
 refine Qe (Qe (Ri ?_))
 change wpAny _ _ (Builtin.SmallTypes.nextOf (.ref i1) >>= _) _ _ _
 refine Qe (Yw (h1.at fun o e=>k1 _ o D.i1z e) (hl1.at fun o e=>k1 _ o D.l1z e) hx fun g2 u1 t2=>Qd (Qd (Qe (Qe (Ri ?_)))))
 change wpAny _ _ (Builtin.SmallTypes.nextOf (.ref i2) >>= _) _ _ _
 refine Qe (Yw ((h2.at fun o e=>k1 _ o D.i2z e).extBut t2.extBut D.i12.symm) ((hl2.at fun o e=>k1 _ o D.l2z e).extBut t2.extBut D.l2i1) hy fun g3 u2 t3=>Qd (Qd (Qd ?_)))
 have esz:g3.objs.size=s.heap.objs.size:=by rw[t3.1,t2.1,e1]
 refine Qe (wpAny_newTuple ?_ (by show 2<=sizeLine;exact Et (uY jb)))
 refine Qd ⟨_,rfl,?_⟩
 have z3:zVI g3 z TI TO T true:=t3.extBut _ _ D.i2z.symm (t2.extBut _ _ D.i1z.symm z1)
 have w1:=u1.extBut t3.extBut D.i12
 change Q (.ref g3.objs.size) { s with heap:=g3.push { cls:=.type "tuple",data:=.seq #[x,y] } }
 have n3:IsPair (g3.push { cls:=.type "tuple",data:=.seq #[x,y] }) g3.objs.size x y:=Qz _ rfl
 rw[esz] at n3 ⊢
 exact hQ _ (Qr _ z3) (w1.at fun o e=>Qr _ e) (u2.at fun o e=>Qr _ e) n3
   fun c o c1 c2 c3 e=>Qr _ (t3.extBut _ _ c3 (t2.extBut _ _ c2 (k1 _ _ c1 e)))
def zMn {z TI TO i1 i2 l1 l2 T:Addr}{b:Bool}{o:Obj}{k:Nat}{xs ys:jk}{Q:Fin->Shared->Prop}(hh:A.handled=none)(D:ZipApart z TI TO i1 i2 l1 l2)
   (hz:zVI s.heap z TI TO T b) (hT:s.heap.get? T=some o) (hTI:IsPair s.heap TI (.ref i1) (.ref i2))
   (h1:s.heap.IsListIter i1 l1 k) (h2:s.heap.IsListIter i2 l2 k) (hl1:s.heap.IsList l1 xs) (hl2:s.heap.IsList l2 ys) (hend:xs[k]?=none∨ys[k]?=none)
   (hE:∀h' e,(∀c o,c≠z->c≠i1->c≠i2->s.heap.get? c=some o->h'.get? c=some o)->(∃o,h'.get? e=some o/\o.cls = .type "StopIteration")->E (.ref e) { s with heap:=h' }) :
   wpAny (model prog w) A (Builtin.«zip.__next__» ⟨[.ref z],[]⟩) Q E s:=by
 change wpAny _ _ (field (.ref z) 2 >>= _) _ _ _
 refine Qe (Ek hz rfl (x:=.bool false) rfl ?_)
 change wpAny _ _ (field (.ref z) 3 >>= _) _ _ _
 refine Qe (Ek hz rfl (x:=.ref TI) rfl (Qe (Ec hTI rfl ?_)))
 change wpAny _ _ (Builtin.SmallTypes.ownedTupleIsFree (.ref z) >>= _) _ _ _
 refine Qe (zUD hz hT fun g1 z1 k1 e1=>?_)
 simp only[Wg,Rp]
 refine Qe ?_
 simp only[←Yj,Ys,Ub]
 refine Qe (Qe (Ri ?_))
 change wpAny _ _ (Builtin.SmallTypes.nextOf (.ref i1) >>= _) _ _ _
 cases hx:xs[k]? with
 | none=>exact Qe (Us hh (h1.at fun o e=>k1 _ o D.i1z e) (hl1.at fun o e=>k1 _ o D.l1z e) hx fun g2 e t2 he=>hE g2 e (fun c o c1 c2 _ q=>t2 _ _ c2 (k1 _ _ c1 q)) he)
 | some x =>
   have hy:ys[k]?=none:=by rcases hend with q | q;rw[hx] at q;cases q;exact q
   refine Qe (Yw (h1.at fun o e=>k1 _ o D.i1z e) (hl1.at fun o e=>k1 _ o D.l1z e) hx fun g2 u1 t2=>Qd (Qd (Qe (Qe (Ri ?_)))))
   change wpAny _ _ (Builtin.SmallTypes.nextOf (.ref i2) >>= _) _ _ _
   exact Qe (Us hh ((h2.at fun o e=>k1 _ o D.i2z e).extBut t2.extBut D.i12.symm) ((hl2.at fun o e=>k1 _ o D.l2z e).extBut t2.extBut D.l2i1) hy fun g3 e t3 he=>hE g3 e (fun c o c1 c2 c3 q=>t3 _ _ c3 (t2.extBut _ _ c2 (k1 _ _ c1 q))) he)
def zWD {z TI TO i1 i2 l1 l2 T:Addr}{b:Bool}{o:Obj}{k:Nat}{xs ys:jk}{x y:Value}{Q:Option Value->Shared->Prop}(D:ZipApart z TI TO i1 i2 l1 l2)
   (hz:zVI s.heap z TI TO T b) (hT:s.heap.get? T=some o) (hTI:IsPair s.heap TI (.ref i1) (.ref i2))
   (h1:s.heap.IsListIter i1 l1 k) (h2:s.heap.IsListIter i2 l2 k) (hl1:s.heap.IsList l1 xs) (hl2:s.heap.IsList l2 ys) (hx:xs[k]?=some x) (hy:ys[k]?=some y)
   (hQ:∀h',zVI h' z TI TO T true->h'.IsListIter i1 l1 (k+1)->h'.IsListIter i2 l2 (k+1)->IsPair h' s.heap.objs.size x y ->
     (∀c o,c≠z->c≠i1->c≠i2->s.heap.get? c=some o->h'.get? c=some o)->Q (some (.ref s.heap.objs.size)) { s with heap:=h' }):wpAny (model prog w) A (pyNext (.ref z)) Q E s:=by
 have hT':s.TypeIs (.ref z) "zip":=⟨_,hz,rfl⟩
 unfold pyNext
 exact Qe (Iy (Ez (name:=Str.ofString "__next__") hT' F.slot_zip_next (Rg F.slot_zip_next hT' F.entry_zip_next (zO1 D hz hT hTI h1 h2 hl1 hl2 hx hy fun h' a1 a2 a3 a4 a5=>Qd (hQ h' a1 a2 a3 a4 a5)) (F.args_zip_next_1 _))))
def zVB {z TI TO i1 i2 l1 l2 T:Addr}{b:Bool}{o:Obj}{k:Nat}{xs ys:jk}{Q:Option Value->Shared->Prop}(hh:A.handled=none)(D:ZipApart z TI TO i1 i2 l1 l2)
   (hz:zVI s.heap z TI TO T b) (hT:s.heap.get? T=some o) (hTI:IsPair s.heap TI (.ref i1) (.ref i2))
   (h1:s.heap.IsListIter i1 l1 k) (h2:s.heap.IsListIter i2 l2 k) (hl1:s.heap.IsList l1 xs) (hl2:s.heap.IsList l2 ys) (hend:xs[k]?=none∨ys[k]?=none)
   (hQ:∀h',(∀c o,c≠z->c≠i1->c≠i2->s.heap.get? c=some o->h'.get? c=some o)->Q none { s with heap:=h' }):wpAny (model prog w) A (pyNext (.ref z)) Q E s:=by
 have hT':s.TypeIs (.ref z) "zip":=⟨_,hz,rfl⟩
 unfold pyNext
 refine Qe (Iy (Ez (name:=Str.ofString "__next__") hT' F.slot_zip_next (Rg F.slot_zip_next hT' F.entry_zip_next (zMn hh D hz hT hTI h1 h2 hl1 hl2 hend fun h' e hk he=>?_) (F.args_zip_next_1 _))))
 obtain⟨o,q1,q2⟩:=he
 exact Qe (Ur (T:="StopIteration") (b:=true) ⟨o,q1,q2⟩ isSubtype_stop (Qd (hQ _ hk)))
end
def ZSt (h:Heap)(n a b S:Addr)(i:Nat):Prop :=
 ((IsZip h (n+4) (n+2) (n+3) .none/\∃p q,IsPair h (n+3) p q)∨∃T f o,zVI h (n+4) (n+2) (n+3) T f/\T∉[n+4,n+2,n+3,n,n+1]/\T≠S/\h.get? T=some o)/\IsPair h (n+2) (.ref n) (.ref (n+1))/\h.IsListIter n a i/\h.IsListIter (n+1) b i
def ZSt.keep {h h':Heap}{n a b S:Addr}{i:Nat}(z:ZSt h n a b S i)(k:∀c u,c≠S->h.get? c=some u->h'.get? c=some u)(hS:S∉[n+4,n+2,n+3,n,n+1])(hS3:(n+3)≠S):ZSt h' n a b S i:=by
 have ne:∀c∈[n+4,n+2,n+3,n,n+1],c≠S:=fun c hc z=>hS (z ▸ hc)
 obtain⟨z1,z2,z3,z4⟩:=z
 refine⟨?_,k _ _ (ne _ jd) z2,z3.at fun o e=>k _ o (ne _ jd) e,z4.at fun o e=>k _ o (ne _ jd) e⟩
 rcases z1 with⟨q1,p,q,q2⟩ | ⟨T,f,o,q1,q2,q3,q4⟩
 · exact .inl ⟨k _ _ (ne _ jd) q1,p,q,k _ _ hS3 q2⟩
 · exact .inr ⟨T,f,o,k _ _ (ne _ jd) q1,q2,q3,k _ _ q3 q4⟩
def zKC {X:Cx}{Z:ji}{σ:St}{H:Hp}{s:Shared}(I:Inv X Z σ H s){c d:Addr}{v:List V}(hf:lD X Z H c)(hd:SqL X.K H d v):d≠c:=fun z=>by
 have e:=hf.1
 rcases hd with(hd | ⟨ob,hd⟩) | hd
 · rw[z,e] at hd;cases hd
 · rw[z,e] at hd;cases hd
 · obtain⟨ob,_,_,hk,_⟩:=hd
   have e3:=I.ok.mod.kin d ob hk
   obtain⟨_,q1,_,q3,_⟩:=hf
   rcases q3 with q3 | q3
   · exact I.ok.noex d ob e3 (z ▸ q3)
   · exact absurd (Wp (Qs (I.ok.bs d ob e3).1) (z ▸ q3)) (Wk _)
def zMM {X:Cx}{Z:ji}{σ:St}{A:Around}(hh:A.handled=none){n a b S:Addr}{G0 H0:Hp}{ds es:List D}{us ws:List V}{res:Value}{R:Result->Shared->Prop}
   (ha:SqL X.K G0 a us) (ra:Reps X.K G0 ds us) (hb:SqL X.K G0 b ws) (rb:Reps X.K G0 es ws) (hS:S∉[n+4,n+2,n+3,n,n+1]) (j5:(sD ds es).length<=1000) :
   ∀(k i:Nat) (s:Shared) (H G:Hp) (j7:jk) (c:Nat) (vs:List V),Inv X Z σ H s->(∀d∈S::[n+4,n+2,n+3,n,n+1],lD X Z H d)->Step G0 H0 G H->Reps X.K G ((sD ds es).take i) vs->ZSt s.heap n a b S i ->
     s.heap.get? S=some { cls:=.type "list",dict:=none,data:=.seq j7 c,slots:=#[] }->Vals vs j7.toList->i+k=(sD ds es).length ->
     (∀s' H' G' acc' c' vs',Inv X Z σ H' s'->Step G0 H0 G' H'->Reps X.K G' (sD ds es) vs'->Vals vs' acc'.toList->s'.heap.get? S=some { cls:=.type "list",dict:=none,data:=.seq acc' c',slots:=#[] }->R (.ok (.ret res)) s') ->
     codeAny (model X.prog X.w) A (.builtin "list.extend.loop" ⟨[.ref S,.ref (n+4),res],[]⟩) R s:=by
 intro k
 have neS:∀c∈[n+4,n+2,n+3,n,n+1],c≠S:=fun c hc z=>hS (z ▸ hc)
 induction k with
 | zero =>
   intro i s H G j7 c vs I hf st rv z hs hv hi hR
   refine Rb F.entry_extend_loop ?_
   rw[Rw F.plain_extend_loop _]
   show wpAny _ A.in1 (pyNext (.ref (n+4)) >>= _) _ _ s
   have hqa:=st.sub.seq (st.gg.seq ha)
   have hqb:=st.sub.seq (st.gg.seq hb)
   obtain⟨j6,rva,pa,_⟩:=I.list hqa
   obtain⟨jts,rvb,pb,_⟩:=I.list hqb
   have hl:=zWd ds es
   have la:=ra.length
   have lb:=rb.length
   have lva:=rva.length
   have lvb:=rvb.length
   have hend:j6.toArray[i]?=none∨jts.toArray[i]?=none:=by
     rcases Nat.lt_or_ge i j6.length with q | q
     · exact .inr (by simp;omega)
     · exact .inl (by simp;omega)
   have ap:∀c∈[n+4,n+2,n+3,n,n+1],∀v d,SqL X.K H d v->d≠c:=fun c hc v d q=>zKC I (hf c (Qa _ hc)) q
   have D:ZipApart (n+4) (n+2) (n+3) n (n+1) a b:=⟨zne 2 4 jb,zne 3 4 jb,zne 0 4 jb,zne 1 4 jb,zne 2 3 jb,zne 2 0 jb,zne 2 1 jb,zne 3 0 jb,zne 3 1 jb,zne 0 1 jb,ap _ jd us a hqa,ap _ jd us a hqa,ap _ jd us a hqa,ap _ jd us a hqa,ap _ jd ws b hqb,ap _ jd ws b hqb,ap _ jd ws b hqb,ap _ jd ws b hqb⟩
   have fin:∀h':Heap,(∀c o,c∉[n+4,n+2,n+3,n,n+1]->s.heap.get? c=some o->h'.get? c=some o)->R (.ok (.ret res)) { s with heap:=h' }:=fun h' kk=>by
     have I2:Inv X Z σ H { s with heap:=h' }:=I.turnedL (t':=s.toks) kk fun d hd=>hf d (Qa _ hd)
     rw[show(sD ds es).take i=sD ds es from List.take_of_length_le jc] at rv
     exact hR _ H G j7 c vs I2 st rv hv (kk _ _ hS hs)
   obtain⟨z1,z2,z3,z4⟩:=z
   refine Qe ?_
   rcases z1 with⟨q1,p,q,q2⟩ | ⟨T,f,o,q1,q2,q3,q4⟩
   · exact wpAny_pyNext_zip_end hh D q1 z2 q2 z3 z4 pa.isList pb.isList hend fun h' hk=>Qd (fin h' fun c o hc e=>hk c o (fun z=>hc (by simp[z])) (fun z=>hc (by simp[z])) (fun z=>hc (by simp[z])) (fun z=>hc (by simp[z])) e)
   · exact zVB hh D q1 q4 z2 z3 z4 pa.isList pb.isList hend fun h' hk=>Qd (fin h' fun c o hc e=>hk c o (fun z=>hc (by simp[z])) (fun z=>hc (by simp[z])) (fun z=>hc (by simp[z])) e)
 | succ k ih =>
   intro i s H G j7 c vs I hf st rv z hs hv hi hR
   refine Rb F.entry_extend_loop ?_
   rw[Rw F.plain_extend_loop _]
   show wpAny _ A.in1 (pyNext (.ref (n+4)) >>= _) _ _ s
   have hqa:=st.sub.seq (st.gg.seq ha)
   have hqb:=st.sub.seq (st.gg.seq hb)
   obtain⟨j6,rva,pa,_⟩:=I.list hqa
   obtain⟨jts,rvb,pb,_⟩:=I.list hqb
   have ap:∀c∈[n+4,n+2,n+3,n,n+1],∀v d,SqL X.K H d v->d≠c:=fun c hc v d q=>zKC I (hf c (Qa _ hc)) q
   have D:ZipApart (n+4) (n+2) (n+3) n (n+1) a b:=⟨zne 2 4 jb,zne 3 4 jb,zne 0 4 jb,zne 1 4 jb,zne 2 3 jb,zne 2 0 jb,zne 2 1 jb,zne 3 0 jb,zne 3 1 jb,zne 0 1 jb,ap _ jd us a hqa,ap _ jd us a hqa,ap _ jd us a hqa,ap _ jd us a hqa,ap _ jd ws b hqb,ap _ jd ws b hqb,ap _ jd ws b hqb,ap _ jd ws b hqb⟩
   have hlt:i < (sD ds es).length:=jc
   obtain⟨x,y,e1,e2,e3⟩:=zXe (Qi hlt)
   obtain⟨v,f1,r1⟩:=ra.get e1
   obtain⟨u,f2,r2⟩:=rb.get e2
   obtain⟨v',g1,q1⟩:=rva.get f1
   obtain⟨u',g2,q2⟩:=rvb.get f2
   have lac:j7.size=i:=by
     have h1:=hv.length;have h2:=rv.length;rw[Yt] at h2;have h3:j7.toList.length=j7.size:=Ev;omega
   have fin:∀h':Heap,IsPair h' s.heap.objs.size v' u'->ZSt h' n a b S (i+1)->(∀c o,c∉[n+4,n+2,n+3,n,n+1]->s.heap.get? c=some o->h'.get? c=some o)->∀c',(h'.update S (Obj.mapSeq (·.push (.ref s.heap.objs.size)))).get? S=some { cls:=.type "list",dict:=none,data:=.seq (j7.push (.ref s.heap.objs.size)) c',slots:=#[] } ->
       codeAny (model X.prog X.w) A (.builtin "list.extend.loop" ⟨[.ref S,.ref (n+4),res],[]⟩) R { s with heap:=h'.update S (Obj.mapSeq (·.push (.ref s.heap.objs.size))) }:=fun h' p zz kk c' eS=>by
     have I1:Inv X Z σ (upd H s.heap.objs.size (.tup [v,u])) { s with heap:=h' }:=I.turnedNew (t':=s.toks) kk (fun d hd=>hf d (Qa _ hd)) (Ql _) ⟨by show 2<=sizeLine;exact Et (uY jb),[v',u'],.cons q1 (.cons q2 .nil),⟨_,p,rfl,_,rfl⟩⟩
     have lt:∀d∈S::[n+4,n+2,n+3,n,n+1],d < s.heap.objs.size:=fun d hd=>by
       obtain⟨z1,z2,⟨o3,z3,_⟩,⟨o4,z4,_⟩⟩:=z
       simp only[Qh,Wf,Ra] at hd
       rcases hd with q | q | q | q | q | q
       · rw[q];exact Qs hs
       · rw[q]
         rcases z1 with⟨q1,_⟩ | ⟨T,f,o,q1,_⟩
         · exact Qs q1
         · exact Qs q1
       · rw[q];exact Qs z2
       · rw[q];exact Nat.lt_of_succ_lt (show n+4 < _ from by
           rcases z1 with⟨q1,_⟩ | ⟨T,f,o,q1,_⟩
           · exact Qs q1
           · exact Qs q1)
       · rw[q];exact Qs z3
       · rw[q];exact Qs z4
     have hf1:∀d∈S::[n+4,n+2,n+3,n,n+1],lD X Z (upd H s.heap.objs.size (.tup [v,u])) d:=fun d hd=>⟨by rw[yL (Er (lt d hd))];exact(hf d hd).1,(hf d hd).2⟩
     have oth:∀c o,c≠S->h'.get? c=some o->(h'.update S (Obj.mapSeq (·.push (.ref s.heap.objs.size)))).get? c=some o:=fun c o hc e=>(Rf _ _ (Ne.symm hc)).trans e
     have I2:Inv X Z σ (upd H s.heap.objs.size (.tup [v,u])) { s with heap:=h'.update S (Obj.mapSeq (·.push (.ref s.heap.objs.size))) }:=Inv.turnedL (s:={ s with heap:=h' }) (h':=h'.update S (Obj.mapSeq (·.push (.ref s.heap.objs.size)))) (t':=s.toks) (fp:=[S]) I1 (fun c o hc e=>oth c o (fun z=>hc (by simp[z])) e) fun d hd=>hf1 d (by
       rw[Wm] at hd;rw[hd];exact Qf)
     have st1:=Step.laid (o:=.tup [v,u]) st.sub I.fresh
     have st2:=st.trans st1
     have r3:Rep X.K (upd G s.heap.objs.size (.tup [v,u])) (.tup [x,y]) (.ref s.heap.objs.size):=y0.mpr ⟨_,_,rfl,.of yW,zB.mpr ⟨_,_,rfl,r1.mono st2.gg,zB.mpr ⟨_,_,rfl,r2.mono st2.gg,yR.mpr rfl⟩⟩⟩
     have r4:Reps X.K (upd G s.heap.objs.size (.tup [v,u])) ((sD ds es).take (i+1)) (vs++[.ref s.heap.objs.size]):=by
       rw[List.take_succ_eq_append_getElem hlt,e3]
       exact(rv.mono st1.gg).snoc r3
     exact ih (i+1) _ _ _ _ _ _ I2 hf1 st2 r4 (zz.keep oth hS (neS _ jd)) eS (by rw[Array.toList_push];exact hv.snoc rfl) jc hR
   have lsz:j7.size<=1000:=jc
   have hsl:1001<=sizeLine:=Et (uY jb)
   obtain⟨z1,z2,z3,z4⟩:=z
   refine Qe ?_
   have nT:∀d∈S::[n+4,n+2,n+3,n,n+1],∀u,s.heap.get? d=some u->d≠s.heap.objs.size:=fun d _ u e=>Er (Qs e)
   rcases z1 with⟨q1,p,q,q2⟩ | ⟨T,f,o,q1,q2,q3,q4⟩
   · refine wpAny_pyNext_zip_item D q1 z2 q2 z3 z4 pa.isList pb.isList (by simpa using g1) (by simpa using g2) fun h' a1 a2 a3 a4 a5 a6 hk=>?_
     have kk:∀c o,c∉[n+4,n+2,n+3,n,n+1]->s.heap.get? c=some o->h'.get? c=some o:=fun c o hc e=>hk c o (fun z=>hc (by simp[z])) (fun z=>hc (by simp[z])) (fun z=>hc (by simp[z])) (fun z=>hc (by simp[z])) e
     have hS':=kk _ _ hS hs
     have zz:ZSt h' n a b S (i+1):=by
       refine⟨.inr ⟨s.heap.objs.size,false,_,a1,fun hm=>?_,fun z=>?_,a5⟩,hk _ _ D.TIz D.TITO D.TIi1 D.TIi2 z2,a3,a4⟩
       · obtain⟨o3,e3,_⟩:=z3
         obtain⟨o4,e4,_⟩:=z4
         simp only[Qh,Wf,Ra] at hm
         rcases hm with z | z | z | z | z
         · exact absurd (z ▸ Qs q1) (Wk _)
         · exact absurd (z ▸ Qs z2) (Wk _)
         · exact absurd (z ▸ Qs q2) (Wk _)
         · exact absurd (z ▸ Qs e3) (Wk _)
         · exact absurd (z ▸ Qs e4) (Wk _)
       · exact absurd (z ▸ Qs hs) (Wk _)
     show wpAny _ A.in1 (updateSeq S (·.push (.ref s.heap.objs.size)) >>= _) _ _ _
     refine Qe (Yd hS' rfl (Qd ⟨Rm F.plain_extend_loop _,fin h' a5 zz kk _ (Ry _ hS' rfl)⟩) ?_ ?_)
     · show j7.size<=sizeLine;omega
     · show(j7.push _).size<=sizeLine+1;rw[Array.size_push];omega
   · refine zWD D q1 q4 z2 z3 z4 pa.isList pb.isList (by simpa using g1) (by simpa using g2) fun h' a1 a2 a3 a4 hk=>?_
     have kk:∀c o,c∉[n+4,n+2,n+3,n,n+1]->s.heap.get? c=some o->h'.get? c=some o:=fun c o hc e=>hk c o (fun z=>hc (by simp[z])) (fun z=>hc (by simp[z])) (fun z=>hc (by simp[z])) e
     have hS':=kk _ _ hS hs
     have zz:ZSt h' n a b S (i+1):=⟨.inr ⟨T,true,_,a1,q2,q3,kk _ _ q2 q4⟩,hk _ _ D.TIz D.TIi1 D.TIi2 z2,a2,a3⟩
     show wpAny _ A.in1 (updateSeq S (·.push (.ref s.heap.objs.size)) >>= _) _ _ _
     refine Qe (Yd hS' rfl (Qd ⟨Rm F.plain_extend_loop _,fin h' a4 zz kk _ (Ry _ hS' rfl)⟩) ?_ ?_)
     · show j7.size<=sizeLine;omega
     · show(j7.push _).size<=sizeLine+1;rw[Array.size_push];omega
theorem zQ9:typeLookup (.type "zip") "__len__"=pure none:=by rw[Ud,Ye];kernel_rfl
theorem zSJ:typeLookup (.type "zip") "__length_hint__"=pure none:=by rw[Ud,Ye];kernel_rfl
def zRD {X:Cx}{Z:ji}{σ:St}{A:Around}{E:jh}{s:Shared}{Q:List Value->Shared->Prop}(hh:A.handled=none){n a b:Addr}{G0 H0:Hp}{ds es:List D}{us ws:List V}
   (ha:SqL X.K G0 a us) (ra:Reps X.K G0 ds us) (hb:SqL X.K G0 b ws) (rb:Reps X.K G0 es ws) (j5:(sD ds es).length<=1000) (I:Inv X Z σ H0 s) (hs:Same G0 H0) (hf:∀d∈[n+4,n+2,n+3,n,n+1],lD X Z H0 d)
   (z1:IsZip s.heap (n+4) (n+2) (n+3) .none) (z2:IsPair s.heap (n+2) (.ref n) (.ref (n+1))) (z3:IsPair s.heap (n+3) .none .none) (z4:s.heap.IsListIter n a 0) (z5:s.heap.IsListIter (n+1) b 0)
   (hQ:∀(s':Shared) (H' G':Hp) (j7:jk) (vs:List V),Inv X Z σ H' s'->Step G0 H0 G' H'->Reps X.K G' (sD ds es) vs->Vals vs j7.toList->Q j7.toList s'):wpAny (model X.prog X.w) A (collect (.ref (n+4))) Q E s:=by
 have lt:∀d∈[n+4,n+2,n+3,n,n+1],d < s.heap.objs.size:=fun d hd=>by
   obtain⟨o4,e4,_⟩:=z4
   obtain⟨o5,e5,_⟩:=z5
   simp only[Qh,Wf,Ra] at hd
   rcases hd with q | q | q | q | q
   · rw[q];exact Qs z1
   · rw[q];exact Qs z2
   · rw[q];exact Qs z3
   · rw[q];exact Qs e4
   · rw[q];exact Qs e5
 have hS:s.heap.objs.size∉[n+4,n+2,n+3,n,n+1]:=fun hm=>Wk _ (lt _ hm)
 have hSI:s.heap.objs.size≠n+4:=fun e=>hS (by rw[e];simp)
 have hT:∀h':Heap,IsZip h' (n+4) (n+2) (n+3) .none->Shared.TypeIs { s with heap:=h' } (.ref (n+4)) "zip":=fun h' q=>⟨_,q,rfl⟩
 unfold collect
 refine Qe (wpAny_runValue (Rb F.entry_proto_collect ?_))
 rw[Rw F.plain_proto_collect _]
 show wpAny _ A.in1 (newList [] >>= fun l=>again (.builtin "list.__iadd__" ⟨[l,.ref (n+4)],[]⟩)) _ _ s
 refine Qe (Em ?_)
 refine Qd ⟨Rm F.plain_list_iadd _,Rb F.entry_list_iadd ?_⟩
 rw[Rw F.plain_list_iadd _]
 show wpAny _ A.in1 (Builtin.List.listExtendWith (.ref s.heap.objs.size) (.ref (n+4)) (.ref s.heap.objs.size)) _ _ _
 have y1:IsZip (s.heap.push { cls:=.type "list",data:=.seq ([]:jj).toArray }) (n+4) (n+2) (n+3) .none:=Qr _ z1
 unfold Builtin.List.listExtendWith
 refine Qe (Yh (hT _ y1) ?_)
 have h1:Builtin.List.listSameRef (.ref s.heap.objs.size) (.ref (n+4))=false:=by simp[Builtin.List.listSameRef,hSI]
 have h2:(Value.type "zip"==Value.type "list")=false:=jb
 have h3:(Value.type "zip"==Value.type "tuple")=false:=jb
 simp only[h1,h2,h3,Bool.or_false,Wg,Rp]
 refine Qe (Ow y1 ?_)
 refine Qe (Ri ?_)
 unfold Builtin.List.listLengthHint
 refine Qe (Yf (hT _ y1) zQ9 ?_)
 show wpAny _ A.in1 (specialOf (Value.ref (n+4)) (Str.ofString "__length_hint__") >>= _) _ _ _
 refine Qe (Yf (hT _ y1) zSJ ?_)
 refine Qd ?_
 show wpAny _ A.in1 (rule "list.extend.makes-room" >>= fun _=>Builtin.List.listTouch (.ref s.heap.objs.size) >>= fun _ =>
   again (.builtin "list.extend.loop" ⟨[.ref s.heap.objs.size,.ref (n+4),.ref s.heap.objs.size],[]⟩)) _ _ _
 refine Qe (Uz ?_)
 have hS₁:(s.heap.push { cls:=.type "list",data:=.seq ([]:jj).toArray }).get? s.heap.objs.size=some { cls:=.type "list",data:=.seq ([]:jj).toArray }:=Qz _ rfl
 refine Qe ?_
 show wpAny _ A.in1 (updateSeq s.heap.objs.size (·.push .none) >>= fun _=>updateSeq s.heap.objs.size (·.pop)) _ _ _
 refine Qe (Yd hS₁ rfl ?_)
 have hS₂:=Ry (Obj.mapSeq (·.push Value.none)) hS₁ rfl
 refine Yd hS₂ rfl ?_
 have hS₃ := Ry (Obj.mapSeq (·.pop)) hS₂ rfl
 have oth:∀b o,b≠s.heap.objs.size->s.heap.get? b=some o ->
     (((s.heap.push { cls:=.type "list",data:=.seq ([]:jj).toArray }).update s.heap.objs.size (Obj.mapSeq (·.push Value.none))).update s.heap.objs.size (Obj.mapSeq (·.pop))).get? b=some o :=
   fun b o hb e=>(Rf _ _ (Ne.symm hb)).trans ((Rf _ _ (Ne.symm hb)).trans (Qr _ e))
 have oth':∀b o,s.heap.get? b=some o->_:=fun b o e=>oth b o (Er (Qs e)) e
 have I3:Inv X Z σ H0 { s with heap:=((s.heap.push { cls:=.type "list",data:=.seq ([]:jj).toArray }).update s.heap.objs.size (Obj.mapSeq (·.push Value.none))).update s.heap.objs.size (Obj.mapSeq (·.pop)) }:=I.kept (t':=s.toks) oth'
 refine Qd ⟨Rm F.plain_extend_loop _,zMM (S:=s.heap.objs.size) (A:=A) hh ha ra hb rb hS j5 _ 0 _ H0 G0 _ _ [] I3 (fun d hd=>?_) (Step.refl hs) (yR.mpr rfl) ⟨.inl ⟨oth' _ _ z1,_,_,oth' _ _ z3⟩,oth' _ _ z2,z4.at fun o e=>oth' _ o e,z5.at fun o e=>oth' _ o e⟩ hS₃ .nil (Nat.zero_add _) fun s' H' G' acc' c' vs' J st rv hv hg=>?_⟩
 · rcases Qh.mp hd with q | q
   · rw[q];exact I.fpOk (Ql _) (I.hok.fresh (Ql _))
   · exact hf d q
 · show wpAny _ A (load s.heap.objs.size >>= _) _ _ s'
   refine Qe (wpAny_load hg ?_)
   exact Qd (hQ s' H' G' acc' vs' J st rv hv)
open AutoSeq1 (wpAny_loadPart') in
def zRH {X:Cx}{Z:ji}{σ:St}{A:Around}{E:jh}{s:Shared}{Q:jh}(hh:A.handled=none){n a b:Addr}{G0 H0:Hp}{ds es:List D}{us ws:List V}
   (ha:SqL X.K G0 a us) (ra:Reps X.K G0 ds us) (hb:SqL X.K G0 b ws) (rb:Reps X.K G0 es ws) (j5:(sD ds es).length<=1000) (I:Inv X Z σ H0 s) (hs:Same G0 H0) (hf:∀d∈[n+4,n+2,n+3,n,n+1],lD X Z H0 d)
   (z1:IsZip s.heap (n+4) (n+2) (n+3) .none) (z2:IsPair s.heap (n+2) (.ref n) (.ref (n+1))) (z3:IsPair s.heap (n+3) .none .none) (z4:s.heap.IsListIter n a 0) (z5:s.heap.IsListIter (n+1) b 0)
   (hQ:∀(s':Shared) (H' G':Hp) (j7:jk) (vs:List V),Inv X Z σ H' s'->Step G0 H0 G' H'->Reps X.K G' (sD ds es) vs->Vals vs j7.toList->Q (.ref s'.heap.objs.size) { s' with heap:=s'.heap.push { cls:=.type "tuple",data:=.seq j7 } }) :
   codeAny (model X.prog X.w) A (.call (.builtin "tuple.__new__") ⟨[.type "tuple",.ref (n+4)],[]⟩) (wants Q E) s:=by
 refine codeAny_of_tree ?_
 show wpAny _ A.in1 (do checkBuiltinCall "tuple.__new__" ⟨[.type "tuple",.ref (n+4)],[]⟩;again (.builtin "tuple.__new__" ⟨[.type "tuple",.ref (n+4)],[]⟩)) _ _ s
 refine Qe (wpAny_of_eq (F.newCall_tuple_1 _) (Qd ⟨Rm F.plain_tuple_new _,Rb F.entry_tuple_new ?_⟩))
 rw[Rw F.plain_tuple_new _]
 have hsub:=sub_tuple_self
 have hinit:=init_tuple_lookup
 have hmh:=madeHere_tuple
 have hTI:s.TypeIs (.ref (n+4)) "zip":=⟨_,z1,rfl⟩
 have hh1:A.in1.handled=none:=by simp[hh]
 wp_walk using Yh hTI,zRD (A:=A.in1) hh1 ha ra hb rb j5 I hs hf z1 z2 z3 z4 z5
 intro s' H' G' j7 vs J st rv hv
 show wpAny _ _ (Builtin.Tuple.tupleExact j7.toList.toArray >>= fun v=>ret v) _ _ _
 unfold Builtin.Tuple.tupleExact
 have hsl:1001<=sizeLine:=Et (uY jb)
 have h1:=hv.length
 have h2:=rv.length
 have h3:j7.toList.length=j7.size:=Ev
 refine Qe (Em ?_ (by show j7.toList.toArray.size<=sizeLine;simp only[Array.toArray_toList];omega))
 refine Qd ?_
 have e:j7.toList.toArray=j7:=jd
 rw[e]
 exact hQ s' H' G' j7 vs J st rv hv
def zSo {X:Cx}{Z:ji}{σ:St}{A:Around}{E:jh}{s:Shared}{Q:jh}(hh:A.handled=none){n a b:Addr}{G0 H0:Hp}{ds es:List D}{us ws:List V}
   (ha:SqL X.K G0 a us) (ra:Reps X.K G0 ds us) (hb:SqL X.K G0 b ws) (rb:Reps X.K G0 es ws) (j5:(sD ds es).length<=1000) (I:Inv X Z σ H0 s) (hs:Same G0 H0) (hf:∀d∈[n+4,n+2,n+3,n,n+1],lD X Z H0 d)
   (z1:IsZip s.heap (n+4) (n+2) (n+3) .none) (z2:IsPair s.heap (n+2) (.ref n) (.ref (n+1))) (z3:IsPair s.heap (n+3) .none .none) (z4:s.heap.IsListIter n a 0) (z5:s.heap.IsListIter (n+1) b 0)
   (hQ:∀(s':Shared) (H' G':Hp) (j7:jk) (vs:List V),Inv X Z σ H' s'->Step G0 H0 G' H'->Reps X.K G' (sD ds es) vs->Vals vs j7.toList->Q (.ref s'.heap.objs.size) { s' with heap:=s'.heap.push { cls:=.type "tuple",data:=.seq j7 } }) :
   wpAny (model X.prog X.w) A (call (.type "tuple") [.ref (n+4)]) Q E s:=by
 refine callType_codes (Q₁:=fun obj s₁=>s₁.TypeIs obj "tuple"/\Q obj s₁) F.called_tuple (F.typeCall_tuple_1 _) F.entry_object_init
   (zRH (by simp[hh]) ha ra hb rb j5 I hs hf z1 z2 z3 z4 z5 fun s' H' G' j7 vs J st rv hv=>⟨⟨_,Qz _ rfl,rfl⟩,hQ s' H' G' j7 vs J st rv hv⟩) fun obj s₁ h₁=>?_
 exact⟨h₁.1,F.args_object_init_2 obj _,object_init_meets F.called_tuple.init.lookup F.called_tuple.made jb X.prog X.w A.in1 _ s₁ ⟨h₁.1,rfl,h₁.2⟩⟩
section
variable {X:Cx} {a b e:Expr} {fa fb:Ef} {pos p p2:Pos} {st:Stmt}
def zTG (f g:Ef):Ef:=fun ρ=>(f ρ).bind fun x=>(g ρ).bind fun y=>match x,y with | .lst xs,.lst ys=>if (sD xs ys).length<=1000 then some (.tup (sD xs ys)) else none | _,_=>none
def zNL {pos':Pos}(hc:X.calm=true)(hg:Gl X "tuple")(hm:X.mg "tuple"=none)(hg':Gl X "zip")(hm':X.mg "zip"=none)(ha:PF X a fa)(hb:PF X b fb)(hs:starEach [a,b] X.env=[(false,eval a X.env),(false,eval b X.env)]:=by rfl)(hs2:starEach [b] X.env=[(false,eval b X.env)]:=by rfl)
   (hs3:starEach [Expr.Call (.Name "zip" p2) [a,b] [] pos'] X.env=[(false,eval (.Call (.Name "zip" p2) [a,b] [] pos') X.env)]:=by rfl) :
   PF X (.Call (.Name "tuple" p) [.Call (.Name "zip" p2) [a,b] [] pos'] [] pos) (zTG fa fb):=by
 intro Z s σ H Q I q
 obtain⟨G0,H0,G,ρ,d,j2,hf,kk⟩:=q
 unfold zTG at hf
 obtain⟨x,h1,hf⟩:=Qw.mp hf
 obtain⟨y,h2,hf⟩:=Qw.mp hf
 cases x with
 | lst xs =>
   cases y with
   | lst ys =>
     dsimp only at hf
     split at hf
     · rename_i hz
       cases hf
       have hA:=zE ha (zE hb yO (by rw[hs2];rfl)) (by rw[hs,hs2]) pos' Z s σ H (fun vs H'=>∃a b us ws G',vs=[.ref a,.ref b]/\Step G H G' H'/\SqL X.K G' a us/\Reps X.K G' xs us/\SqL X.K G' b ws/\Reps X.K G' ys ws) I
         ⟨G0,H0,G,ρ,_,j2,h1,fun v H1 G1 s1 r1=>⟨G0,H0,G1,ρ,_,j2.step s1,h2,fun u H2 G2 s2 r2=>by
           obtain⟨a,us,rfl,q1,q2⟩:=xB.mp (r1.mono s2.gg)
           obtain⟨b,ws,rfl,q3,q4⟩:=xB.mp r2
           exact⟨a,b,us,ws,G2,rfl,s1.trans s2,q1,q2,q3,q4⟩⟩⟩
       refine Call_ (oA I hg hm jf (Ei (rest:=[]) ?_ (by rw[hs3];rfl) jf))
       rw[hs3]
       refine Ie (Call_ (oA I hg' hm' jf (Ei (thn hA fun us s1 ⟨vs,H1,I1,r1,l1,l2,ws,zs,G1,e1,st1,q1,q2,q3,q4⟩=>?_) (by rw[hs,hs2]) (by rw[hs2];rfl))))
       subst e1
       obtain⟨u,u',rfl,ru,ru'⟩:=zRn r1
       cases ru
       cases ru'
       obtain⟨j6,rv,p1,_⟩:=I1.list (st1.sub.seq q1)
       obtain⟨jts,rv',p2,_⟩:=I1.list (st1.sub.seq q3)
       refine call_zip_2 p1.isList p2.isList fun h' z1 z2 z3 z4 z5 _ hk=>?_
       have I2:Inv X Z σ H1 { s1 with heap:=h' }:=I1.kept (t':=s1.toks) hk
       refine Ig ?_
       refine zSo (I.ok.hd hc) q1 q2 q3 q4 hz I2 st1.sub (fun d hd=>?_) z1 z2 z3 z4 z5 fun s' H' G' j7 vs J st rv hv=>?_
       · have hb':s1.heap.objs.size<=d:=by
           simp only[Qh,Wf,Ra] at hd
           rcases hd with z | z | z | z | z<;>(rw[z];first | exact Ql _ | exact Nat.le_add_right _ _)
         exact I1.fpOk hb' (I1.hok.fresh hb')
       · have hl:=rv.length
         have hsl:1001<=sizeLine:=Et (uY jb)
         have I3:Inv X Z σ (upd H' s'.heap.objs.size (.tup vs)) { s' with heap:=s'.heap.push { cls:=.type "tuple",data:=.seq j7 } } :=
           J.laid (t':=s'.toks) (fun b o e=>Qr _ e) (Ql _) (show ObjOk X.prog X.w _ _ _ (.tup vs) from⟨jc,j7.toList,hv,by have:=IsTup.new s'.heap j7;simpa using this⟩)
         have fr:H' s'.heap.objs.size=none:=J.hok.fresh (Ql _)
         have s4:=Step.laid (o:=.tup vs) st.sub fr
         exact⟨.ref s'.heap.objs.size,_,I3,rfl,kk _ _ _ ((st1.trans st).trans s4) (y0.mpr ⟨_,_,rfl,.of yW,rv.mono s4.gg⟩)⟩
     · cases hf
   | _=>cases hf
 | _=>cases hf
def zRj (x:Str)(l:Int):Str:=⟨((Builtin.Str.strSliceIndices (some l) none 2 x.length).filterMap (x.cps[·]?)).toArray⟩
def zOJ (f fl fs:Ef):Ef:=fun ρ=>(f ρ).bind fun d=>(sI fl ρ).bind fun l=>(sI fs ρ).bind fun k=>match d,l,k with | .str x,some i,some j=>if j=2/\(zRj x i).length<=lim then some (.str (zRj x i)) else none | _,_,_=>none
def zRp {lo st:Expr}{fl fs:Ef}(ha:PF X a fa)(hl:PF X lo fl)(hst:PF X st fs):PF X (.Subscript a (.Slice (some lo) none (some st) p2) pos) (zOJ fa fl fs):=by
 intro Z s σ H Q I q
 obtain⟨G0,H0,G,ρ,d,j2,hf,kk⟩:=q
 unfold zOJ at hf
 obtain⟨x,h1,hf⟩:=Qw.mp hf
 obtain⟨l,h2,hf⟩:=Qw.mp hf
 obtain⟨k,h3,hf⟩:=Qw.mp hf
 cases x with
 | str z=>cases l with
  | none=>cases hf
  | some i=>cases k with
   | none=>cases hf
   | some j =>
    dsimp only at hf
    split at hf
    · rename_i hj
      obtain⟨rfl,hz⟩:=hj
      cases hf
      refine Subscript_ (thn (ha Z s σ H (fun v H1=>∃G1,Step G H G1 H1/\v = .str z) I ⟨G0,H0,G,ρ,_,j2,h1,fun v H1 G1 s1 r1=>⟨G1,s1,yG.mp r1⟩⟩) fun v s1 ⟨x,H1,I1,r1,G1,st1,e1⟩=>?_)
      subst e1
      obtain⟨t,rfl⟩:=r1
      refine wpAny_Slice (thn (zZd hl Z s1 σ H1 (fun o H2=>∃G2,Step G H G2 H2/\o=some i) I1 ⟨G0,H0,G1,ρ,_,j2.step st1,h2,fun H2 G2 s2=>⟨G2,st1.trans s2,rfl⟩⟩) fun vl s2 ⟨l',H2,I2,pl,G2,st2,e2⟩=>?_)
      subst e2
      rw[evalPart_none]
      refine Qd (thn (zZd hst Z s2 σ H2 (fun o H3=>∃G3,Step G H G3 H3/\o=some 2) I2 ⟨G0,H0,G2,ρ,_,j2.step st2,h3,fun H3 G3 s3=>⟨G3,st2.trans s3,rfl⟩⟩) fun vk s3 ⟨k',H3,I3,pk,G3,st3,e3⟩=>?_)
      subst e3
      cases pl with
      | int _ ti =>
        cases pk with
        | int _ tk =>
          have I4:Inv X Z σ H3 { s3 with heap:=s3.heap.push { cls:=.type "slice",data:=.fields #[.int i ti,.none,.int 2 tk] } }:=I3.kept (t':=s3.toks) fun b ob q=>Qr _ q
          have fin:∀t' k,EP X Z σ Q (.str (zRj z i) t') { ({ s3 with heap:=s3.heap.push { cls:=.type "slice",data:=.fields #[.int i ti,.none,.int 2 tk] } }:Shared) with toks:=k }:=fun t' k=>⟨.str (zRj z i),H3,I4.tok k,⟨t',rfl⟩,kk _ _ _ st3 (yG.mpr rfl)⟩
          show wpAny (model X.prog X.w) X.A (subscriptTail a (.Slice (some lo) none (some st) p2) (.str z t) (.ref s3.heap.objs.size)) (EP X Z σ Q) X.xe _
          refine Oi (ops:=[.ref s3.heap.objs.size,.str z t]) (T:="str") (Ul _ z t) F.slot_str_getitem.lookup ?_ (by with_unfolding_all rfl)
          exact wpAny_getItem_str_slice (l:=some (i,ti)) (u:=none) (st:=some (2,tk)) ⟨_,Qz _ rfl,rfl,rfl⟩ rfl (show((Made.str (zRj z i)).post _ _) from⟨Et (uY hz),fin _ _⟩)
    · cases hf
 | _=>cases hf
end
end L2
namespace L2
open PySem PySem.Spec PyProof.Rows
open PySem.W
end L2
namespace L2
open PySem PySem.Spec PySem.W
end L2
namespace L2
open PySem PySem.Spec PySem.W
open Builtin Builtin.ObjectAttr
def zRo:List Value->Bool
 | []=>false
 | v::r=>(v::r)==[.type "ValueError",.type "Exception",.type "BaseException",.type "object"]||match v with | .ref _=>zRo r | _=>false
end L2
namespace L2
open PySem PySem.Spec PyProof.Rows
structure XKit (K:jg)(C:Addr):Prop where
 cl:(PySem.W.clsIn K C).isSome=true
 ga:PySem.W.findIn K (.ref C) "__getattribute__"=some (some (.builtin "BaseException.__getattribute__"))
 gt:PySem.W.findIn K (.ref C) "__getattr__"=some none
 gc:PySem.W.findIn K (.ref C) "__class__"=some (some (.builtin "object.__class__"))
 so:PySem.W.subIn K (.ref C) (.type "object")=some true
 sb:PySem.W.subIn K (.ref C) (.type "BaseException")=some true
def zGv (K:jg)(C:Addr):Prop:=∃nm q N bs bm sn sub ab col dd k0 k1 k2 k3 k5,K.lookup C=some (excClassObj nm q C N bs bm true sn sub ab col dd k0 k1 k2 k3 k5 "ValueError.__new__")/\zRo bm=true
section
structure XSt (K:jg)(C:Addr):Prop where
 kit:XKit K C
 ob:zGv K C
 sa:PySem.W.findIn K (.ref C) "__setattr__"=some (some (.builtin "object.__setattr__"))
end
structure XMk (K:jg)(C f:Addr):Prop where
 ob:zGv K C
 init:PySem.W.findIn K (.ref C) "__init__"=some (some (.ref f))
 fn:PySem.W.isFn K (.ref f)=true
 kp:PySem.W.keepIn K (.ref C)=true
def zMg (h:Heap)(e:Addr)(v:Value):Prop:=v = .none∨∃T oT ts,v = .ref T/\T≠e/\h.get? T=some oT/\oT.data = .fields ts/\ts[3]?=some .none
structure Flew (fs:List Addr)(e:Addr)(c:Value)(od:Option Addr)(vs:jk)(sl:Array (Option Value))(h h':Heap):Prop where
 obj:h'.get? e=some { cls:=c,dict:=od,data:=.fields (vs.setIfInBounds 1 (.ref h.objs.size)),slots:=sl }
 ne:h.objs.size≠e
 head:∃oT ts,h'.get? h.objs.size=some oT/\oT.data = .fields ts/\ts[3]?=some .none
 keep:∀b o,h.get? b=some o->b≠e->b∉fs->some (Value.ref b)≠vs[1]?->h'.get? b=some o
 slot:∀b o,h.get? b=some o->b≠e->b∈fs->some (Value.ref b)≠vs[1]?->∃z,h'.get? b=some { o with slots:=z }
structure Fly (h:Heap)(H:Hp)(h0:Heap)(C a:Addr):Prop where
 ob:∃vs v,h.get? a=some { cls:=.ref C,dict:=none,data:=.fields vs,slots:=#[] }/\vs[1]?=some v/\zMg h a v/\∀T,v = .ref T->H T=none/\h0.get? T=none
 free:H a=none
 new:h0.get? a=none
section
structure Z3 (z TI TO i1 i2 i3 l1 l2 l3:Addr):Prop where
 TIz:TI≠z
 TOz:TO≠z
 i1z:i1≠z
 i2z:i2≠z
 i3z:i3≠z
 TITO:TI≠TO
 TIi1:TI≠i1
 TIi2:TI≠i2
 TIi3:TI≠i3
 TOi1:TO≠i1
 TOi2:TO≠i2
 TOi3:TO≠i3
 i12:i1≠i2
 i13:i1≠i3
 i23:i2≠i3
 a1:l1≠z
 a2:l1≠TO
 a3:l1≠i1
 a4:l1≠i2
 a5:l1≠i3
 b1:l2≠z
 b2:l2≠TO
 b3:l2≠i1
 b4:l2≠i2
 b5:l2≠i3
 c1:l3≠z
 c2:l3≠TO
 c3:l3≠i1
 c4:l3≠i2
 c5:l3≠i3
end
end L2
namespace L2
open PySem PySem.Spec PyProof.Rows
section
variable {X:Cx} {a b:Expr} {fa fb:Ef} {pos p:Pos}
def zKB (fa fb:Ef):Ef:=fun ρ=>(fa ρ).bind fun x=>(fb ρ).bind fun y=>match x,y with | .int i,.int j=>some (.int (if j < i then j else i)) | _,_=>none
def zIG (hc:X.calm=true)(hg:Gl X "min")(hm:X.mg "min"=none)(ha:PF X a fa)(hb:PF X b fb)(hs:starEach [a,b] X.env=[(false,eval a X.env),(false,eval b X.env)]:=by rfl)(hs2:starEach [b] X.env=[(false,eval b X.env)]:=by rfl) :
   PF X (.Call (.Name "min" p) [a,b] [] pos) (zKB fa fb):=by
 refine PE.to (pP (zO2 hc) hg hm jf (zE ha (zE hb yO (by rw[hs2];rfl)) (by rw[hs,hs2])) jb jb (by rw[hs,hs2]) (by rw[hs2];rfl)) ?_
 rintro σ H Q ⟨G0,H0,G,ρ,d,j2,hf,k⟩
 unfold zKB at hf
 obtain⟨x,h1,hf⟩:=Qw.mp hf
 obtain⟨y,h2,hf⟩:=Qw.mp hf
 split at hf
 · rename_i i j _h
   cases hf
   exact⟨G0,H0,G,ρ,_,j2,h1,fun v H1 G1 s1 r1=>⟨G0,H0,G1,ρ,_,j2.step s1,h2,fun u H2 G2 s2 r2=>⟨i,j,by rw[zD.mp r1,zD.mp r2],k _ _ G2 (s1.trans s2) (zD.mpr rfl)⟩⟩⟩
 · cases hf
def zU7:∀ {ns:List Int} {j6:jj},Vals (ns.map V.int) j6->∃ps:List (Int×Tok),j6=ps.map (fun p=>Value.int p.1 p.2)/\ps.map (·.1)=ns
 | [],_,h=>by cases h;exact⟨[],rfl,rfl⟩
 | n::ns,_,h=>by
   cases h with
   | cons h1 h2 =>
     obtain⟨t,rfl⟩:=h1
     obtain⟨ps,rfl,rfl⟩:=zU7 h2
     exact⟨(n,t)::ps,rfl,rfl⟩
end
section
variable {prog:Program} {w:World} {A:Around} {E:jh} {s:Shared}
def zLc {t b:Addr}{vs ws:jj}{Q:jh}(ht:IsTup s.heap t vs.toArray)(hb:IsTup s.heap b ws.toArray)(hv:vs=[])(h:Q (.ref b) s):wpAny (model prog w) A (binaryOp .Add (.ref t) (.ref b)) Q E s:=by
 obtain⟨⟨cls,dd,data,sl⟩,ho,hc,n,hd⟩:=id ht
 obtain⟨⟨cls2,dd2,data2,sl2⟩,ho2,hc2,n2,hd2⟩:=id hb
 simp only at hc hd hc2 hd2
 subst hc hd hc2 hd2
 exact Ix ⟨_,ho,rfl⟩ ⟨_,ho2,rfl⟩ Im seq_tuple_add Ut Yn (Yx _ _)
     (tuple_addW0 t b vs.toArray ws.toArray n n2 dd dd2 sl sl2 (by simp[hv])) ⟨ho,ho2,h⟩
open HT in
def bS {t sl:Addr}{j3:jk}{vl vu:Value}{lo hi:Option Int}{Q:jh}(ht:IsTup s.heap t j3)(hs:s.heap.IsSliceOf sl vl vu .none)(pl:IsPart vl lo)(pu:IsPart vu hi)
   (hw:sIx j3.size 0 lo=0/\sIx j3.size j3.size hi=j3.size)
   (h:Q (.ref t) s):wpAny (model prog w) A (getItem (.ref t) (.ref sl)) Q E s:=by
 obtain⟨os,hos,hcs,hds⟩:=id hs
 have hTs:s.TypeIs (.ref sl) "slice":=⟨os,hos,hcs⟩
 unfold getItem
 try with_reducible refine Ri ?_
 first | refine Qe (Qd ?_) | skip
 refine Qe (wpAny_sequenceKey ht.typeIs jb ?_)
 refine Qe (Ez (name:=Str.ofString "__getitem__") ht.typeIs Rv
   (Rg Rv ht.typeIs entry_tuple_getitem ?_ (args_tuple_getitem _ _)))
 show wpAny _ _ (Builtin.Tuple.tupleItemsOf (.ref t) >>= _) _ _ s
 refine Qe (tupleItemsOf_ ht ?_)
 refine Qe (Yh hTs ?_)
 rw[Qv jb]
 refine Qe (jF hs pl pu ?_)
 show wpAny _ _ (if (((sIx j3.size 0 lo:Nat):Int)==0&&(1:Int)==1&&(sIx j3.size j3.size hi - sIx j3.size 0 lo)==j3.size)=true then _ else _) _ _ s
 rw[Qv (by rw[hw.1,hw.2];simp)]
 unfold Builtin.Tuple.tupleIsExact
 refine Qe (Qe (Yh ht.typeIs (Qd ?_)))
 rw[Qv jb]
 refine Qe (Uz ?_)
 exact Qd ⟨_,rfl,Qd h⟩
end
section
variable {X:Cx} {a b e:Expr} {fa fb:Ef} {pos p:Pos}
def zJn:OpR X (binaryOp .Add) (fun x y H Q=>∃a b ys,x = .ref a/\y = .ref b/\SqT X.K H a []/\SqT X.K H b ys/\Q (.ref b) H):=by
 intro Z s σ H x y v u Q I rx ry h
 obtain⟨a,b,ys,rfl,rfl,ha,hb,q⟩:=h
 cases rx
 cases ry
 obtain⟨j6,r1,p1,_⟩:=I.tuple ha
 obtain⟨its2,r2,p2,_⟩:=I.tuple hb
 exact zLc p1 p2 (r1.nil_iff.mpr rfl) ⟨.ref b,H,I,rfl,q⟩
def zYf (fa fb:Ef):Ef:=fun ρ=>(fa ρ).bind fun x=>(fb ρ).bind fun y=>match x,y with | .tup xs,.tup ys=>if xs.length+ys.length<=1000 then some (.tup (xs++ys)) else none | _,_=>none
def zTS (ha:PF X a fa)(hb:PF X b fb):PF X (.BinOp a .Add b pos) (zYf fa fb):=by
 refine PE.to (zXd (zJp.or zJn) ha hb) ?_
 rintro σ H Q ⟨G0,H0,G,ρ,d,j2,hf,k⟩
 unfold zYf at hf
 obtain⟨x,h1,hf⟩:=Qw.mp hf
 obtain⟨y,h2,hf⟩:=Qw.mp hf
 split at hf
 · rename_i xs ys _h
   split at hf
   · rename_i hl
     cases hf
     refine⟨G0,H0,G,ρ,_,j2,h1,fun v H1 G1 s1 r1=>⟨G0,H0,G1,ρ,_,j2.step s1,h2,fun u H2 G2 s2 r2=>?_⟩⟩
     obtain⟨q,vs,rfl,q1,q2⟩:=y0.mp (r1.mono s2.gg)
     obtain⟨t,us,rfl,t1,t2⟩:=y0.mp r2
     have s3:=s1.trans s2
     cases xs with
     | nil =>
       rw[yR] at q2
       subst q2
       exact .inr ⟨q,t,us,rfl,rfl,s2.sub.tup q1,s2.sub.tup t1,k _ _ G2 s3 (y0.mpr ⟨t,us,rfl,t1,t2⟩)⟩
     | cons d0 xr =>
       have hsl:1001<=sizeLine:=Et (uY jb)
       have e1:=q2.length
       have e2:=t2.length
       refine .inl ⟨q,t,vs,us,rfl,rfl,s2.sub.tup q1,s2.sub.tup t1,fun z=>by rw[z] at e1;simp at e1,by rw[←e1,←e2];omega,fun z=>?_,fun z p hp=>?_⟩
       · subst z
         have z2:ys=[]:=List.length_eq_zero_iff.mp (by rw[e2];rfl)
         subst z2
         rw[Wx] at k
         exact k _ _ G2 s3 (y0.mpr ⟨q,vs,rfl,q1,q2⟩)
       · have s4:=Step.laid (o:=.tup (vs++us)) s2.sub hp
         exact k _ _ _ (s3.trans s4) (y0.mpr ⟨p,_,rfl,.of yW,(q2.mono s4.gg).append (t2.mono s4.gg)⟩)
   · cases hf
 · cases hf
def zJo:SlR X (fun x lo hi H Q=>∃a xs,x = .ref a/\SqT X.K H a xs/\(HT.sIx xs.length 0 lo=0/\HT.sIx xs.length xs.length hi=xs.length)/\Q (.ref a) H):=by
 intro Z s σ H x v vl vu lo hi sl Q I rx hs pl pu h
 obtain⟨a,xs,rfl,hx,hw,q⟩:=h
 cases rx
 obtain⟨j6,r,ht,hz⟩:=I.tuple hx
 have j5:j6.toArray.size=xs.length:=by rw[Qg];exact r.length.symm
 refine⟨"tuple",_,Rv.lookup,ht.typeIs,?_⟩
 exact bS ht hs pl pu (by rw[j5];exact hw) ⟨.ref a,H,I,rfl,q⟩
def zZg (f:Ef)(lo hi:Of):Ef:=fun ρ=>(f ρ).bind fun d=>(lo ρ).bind fun l=>(hi ρ).bind fun u=>match d with | .tup ds=>some (.tup (zZO ds l u)) | _=>none
def zTE {lo hi:Option Expr}{fl fh:Of}{p2:Pos}(ha:PF X a fa)(hl:PFO X lo fl)(hh:PFO X hi fh):PF X (.Subscript a (.Slice lo hi none p2) pos) (zZg fa fl fh):=by
 refine PE.to (zRE (zHi.or zJo) ha hl hh) ?_
 rintro σ H Q ⟨G0,H0,G,ρ,d,j2,hf,k⟩
 unfold zZg at hf
 obtain⟨x,h1,hf⟩:=Qw.mp hf
 obtain⟨l,h2,hf⟩:=Qw.mp hf
 obtain⟨u,h3,hf⟩:=Qw.mp hf
 cases x with
 | tup ds =>
   cases hf
   refine⟨G0,H0,G,ρ,_,j2,h1,fun v H1 G1 s1 r1=>⟨G0,H0,G1,ρ,_,j2.step s1,h2,fun H2 G2 s2=>⟨G0,H0,G2,ρ,_,(j2.step s1).step s2,h3,fun H3 G3 s3=>?_⟩⟩⟩
   obtain⟨q,vs,rfl,hq,rs⟩:=y0.mp r1
   have s23:=s2.trans s3
   have hqq:SqT X.K H3 q vs:=(s1.sub.trans s23.hh).tup hq
   by_cases hw:HT.sIx vs.length 0 l=0/\HT.sIx vs.length vs.length u=vs.length
   · refine .inr ⟨q,vs,rfl,hqq,hw,?_⟩
     have e:zZO ds l u=ds:=by
       unfold zZO
       rw[rs.length,hw.1,hw.2,List.drop_zero,Nat.sub_zero,←rs.length,List.take_length]
     rw[e] at k
     exact k _ _ G3 (s1.trans s23) (y0.mpr ⟨q,vs,rfl,s23.gg.tup hq,rs.mono s23.gg⟩)
   · refine .inl ⟨q,vs,rfl,hqq,hw,fun p hp=>?_⟩
     have s4:=Step.laid (o:=.tup (zXx vs l u)) s23.sub hp
     have e:Reps X.K G3 (zZO ds l u) (zXx vs l u):=by
       unfold zXx zZO
       rw[←rs.length]
       exact((rs.mono s23.gg).drop _).take _
     exact k _ _ _ ((s1.trans s23).trans s4) (y0.mpr ⟨p,_,rfl,.of yW,e.mono s4.gg⟩)
 | _=>cases hf
def zNt (i:Nat)(fb:Ef):Ef:=fun ρ=>match ρ[i]? with | some (.ow ds)=>(fb ρ).bind (fun y=>match y with | .int k=>atI ds k | _=>none) | _=>none
def zPI (i:Nat){x:Str}{p1:Pos}(hb:PF X b fb)(hN:X.N[i]?=some x:=by rfl)(hv:Vis X.env.scope x:=by first | exact Or.inl rfl | exact Or.inr (Or.inl rfl) | exact Or.inr (Or.inr rfl))(hd:(x==("__debug__":Str))=false:=by decide)(hcd:(x==("__classdict__":Str))=false:=by decide)(hs:cH b:=by exact fun _ _=>rfl) :
   PF X (.Subscript (.Name x p1) b pos) (zNt i fb):=by
 refine PE.to (zRv zP4 (pX hN hv hd hcd) hb hs) ?_
 rintro σ H Q ⟨G0,H0,G,ρ,d,j2,hf,k⟩
 unfold zNt at hf
 split at hf
 · rename_i ds hi
   obtain⟨q,vs,e1,e2,e3,e4,e5⟩:=j2.addr hi
   obtain⟨y,h2,hf⟩:=Qw.mp hf
   cases y with
   | int m =>
     refine⟨.ref q,e1,G0,H0,G,ρ,_,j2,h2,fun v H2 G2 s2 r2=>?_⟩
     obtain⟨w,e,rw'⟩:=zW9 (e5.mono s2.gg) hf
     exact⟨q,vs,m,w,rfl,zD.mp r2,.of (s2.hh _ _ e2),e,k _ _ G2 s2 rw'⟩
   | _=>cases hf
 · cases hf
end
end L2
namespace L2
open PySem PySem.Spec PyProof.Rows
section
variable {prog:Program} {w:World} {A:Around} {E:jh} {s:Shared}
theorem zQq:typeLookup (.type "list_reverseiterator") "__len__"=pure none:=by rw[Ud,Ye];kernel_rfl
theorem zKL:typeLookup (.type "list_reverseiterator") "__length_hint__"=pure (some (.builtin "list_reverseiterator.__length_hint__")):=by rw[Ud,Ye];kernel_rfl
theorem zL9 {it l:Addr}{i:Int}{Q:Bool->Shared->Prop}(hit:s.heap.IsRevIter it l i)(h:Q false s):wpAny (model prog w) A (Builtin.List.listLengthHint (.ref it)) Q E s:=by
 unfold Builtin.List.listLengthHint
 refine Qe (Yf hit.typeIs zQq ?_)
 refine Tc (fun hab=>absurd hab jb) (fun _=>?_)
 refine Tc (fun hab=>absurd hab jb) (fun _=>?_)
 refine Qe (Yf hit.typeIs zKL ?_)
 generalize hid:("list_reverseiterator.__length_hint__":String)=id0
 wp_delta
 rw[show splitId id0=some ("list_reverseiterator","__length_hint__") from by subst hid;decide +kernel]
 subst hid
 refine Qe (Ur (T:="list_reverseiterator") (b:=true) hit.typeIs (by rw[isSubtype_type];kernel_rfl) ?_)
 refine Tc (fun hab=>absurd hab jb) (fun _=>?_)
 refine Tc (fun _=>?_) (fun hab=>absurd ja hab)
 refine Tc (fun hab=>absurd hab ja) (fun _=>?_)
 exact Qd h
def zQB {R:Result->Shared->Prop}{it l S:Addr}{j3:jk}{res:Value}{c₀:Nat}(hh:A.handled=none)(hit:s.heap.IsRevIter it l ((j3.size:Int) - 1))(hl:s.heap.IsList l j3)(hli:l≠it)(hSi:S≠it)(hSl:S≠l)(j5:j3.size<=sizeLine)
   (hS:s.heap.get? S=some { cls:=.type "list",data:=.seq #[] c₀ })
   (hR:∀h' tk acc' c',(∀b o,b≠S->b≠it->s.heap.get? b=some o->h'.get? b=some o)->h'.get? S=some { cls:=.type "list",dict:=none,data:=.seq acc' c',slots:=#[] } ->
     ItemsOf (fun i v=>j3[j3.size - 1 - i]?=some v) acc' j3.size->R (.ok (.ret res)) { s with heap:=h',toks:=tk }) :
   wpAny (model prog w) A.in1 (Builtin.List.listExtendWith (.ref S) (.ref it) res)
     (fun fin s'=>match fin with | .done f=>R (.ok f) s' | .again c'=>c'.quiet=true/\codeAny (model prog w) A c' R s') (fun e s'=>R (.error e) s') s:=by
 have hSf:S∉[it,l]:=fun hm=>by
   rcases Qh.mp hm with e | hm
   · exact hSi e
   · exact hSl (Wm.mp hm)
 have W:=(Walks.listRev (prog:=prog) (w:=w) (A:=A.in1) hh it l hli j3).toS
 unfold Builtin.List.listExtendWith
 refine Qe (Yh hit.typeIs ?_)
 have h1:Builtin.List.listSameRef (.ref S) (.ref it)=false:=by simp[Builtin.List.listSameRef,hSi]
 have h2:(Value.type "list_reverseiterator"==Value.type "list")=false:=jb
 have h3:(Value.type "list_reverseiterator"==Value.type "tuple")=false:=jb
 simp only[h1,h2,h3,Bool.or_false,Wg,Rp]
 refine Qe (wpAny_pyIter_revIter hit ?_)
 refine Qe (Ri (zL9 hit ?_))
 refine Tc (fun hab=>absurd hab ja) (fun _=>Qd ⟨Rm F.plain_extend_loop _,?_⟩)
 refine codeAny_extend_loopS W j5 S hSf res j3.size 0 _ #[] c₀ rfl (Th _) ⟨Th _,by simpa using hit,hl⟩ hS (ItemsOf.nil _) fun s' acc' c' hm hS' hacc=>?_
 rw[Moved.eq_with hm]
 refine hR s'.heap s'.toks acc' c' (fun b o hb hb' e=>hm.heap b o (fun hmem=>?_) e) hS' hacc
 rcases Qh.mp hmem with e' | hmem
 · exact hb e'
 · exact hb' (Wm.mp hmem)
def zV5 {R:Result->Shared->Prop}{it l S:Addr}{j3:jk}(hh:A.handled=none)(hit:s.heap.IsRevIter it l ((j3.size:Int) - 1))(hl:s.heap.IsList l j3)(hli:l≠it)(hSi:S≠it)(hSl:S≠l)(j5:j3.size<=sizeLine)
   (hS:s.heap.get? S=some { cls:=.type "list",data:=.seq #[] })
   (hR:∀h' tk acc' c',(∀b o,b≠S->b≠it->s.heap.get? b=some o->h'.get? b=some o)->h'.get? S=some { cls:=.type "list",dict:=none,data:=.seq acc' c',slots:=#[] } ->
     ItemsOf (fun i v=>j3[j3.size - 1 - i]?=some v) acc' j3.size->R (.ok (.ret .none)) { s with heap:=h',toks:=tk }) :
   wpAny (model prog w) A.in1 (Builtin.«list.__init__» ⟨[.ref S,.ref it],[]⟩)
     (fun fin s'=>match fin with | .done f=>R (.ok f) s' | .again c'=>c'.quiet=true/\codeAny (model prog w) A c' R s') (fun e s'=>R (.error e) s') s:=by
 show wpAny _ _ (do let old ←Builtin.List.listItems (.ref S);Builtin.List.listUpdate (.ref S) (fun _=>#[]);letGo old.toList.reverse;Builtin.List.listExtendWith (.ref S) (.ref it) .none) _ _ s
 refine Qe ?_
 unfold Builtin.List.listItems
 refine Qe (Ec hS rfl (Qd ?_))
 show wpAny _ _ (updateSeq S (fun _=>#[]) >>= fun _=>letGo (#[]:jk).toList.reverse >>= fun _=>Builtin.List.listExtendWith (.ref S) (.ref it) .none) _ _ s
 refine Qe (Yd hS rfl ?_)
 have hS₂:=Ry (Obj.mapSeq (fun _=>(#[]:jk))) hS rfl
 have oth:∀b o,b≠S->s.heap.get? b=some o->(s.heap.update S (Obj.mapSeq (fun _=>(#[]:jk)))).get? b=some o :=
   fun b o hb e=>(Rf _ _ (Ne.symm hb)).trans e
 refine Qe (Os ?_)
 refine zQB hh (hit.at fun o e=>oth _ _ (Ne.symm hSi) e) (hl.at fun o e=>oth _ _ (Ne.symm hSl) e) hli hSi hSl j5 hS₂ fun h' tk acc' c' hk hS' hacc=>?_
 exact hR h' tk acc' c' (fun b o hb hb' e=>hk b o hb hb' (oth b o hb e)) hS' hacc
def zV2 {Q:jh}{it l:Addr}{j3:jk}(hh:A.handled=none)(hit:s.heap.IsRevIter it l ((j3.size:Int) - 1))(hl:s.heap.IsList l j3)(hli:l≠it)(j5:j3.size<=sizeLine)
   (hQ:∀h' tk acc' c',(∀b o,b≠it->s.heap.get? b=some o->h'.get? b=some o) ->
     h'.get? s.heap.objs.size=some { cls:=.type "list",dict:=none,data:=.seq acc' c',slots:=#[] }->ItemsOf (fun i v=>j3[j3.size - 1 - i]?=some v) acc' j3.size->Q (.ref s.heap.objs.size) { s with heap:=h',toks:=tk }) :
   wpAny (model prog w) A (call (.type "list") [.ref it]) Q E s:=by
 refine callType_codes (Q₁:=fun obj s₁=>obj = .ref s.heap.objs.size/\s₁={ s with heap:=s.heap.push { cls:=.type "list",data:=.seq #[] } }) F.called_list (F.typeCall_list_1 _) F.entry_list_init
   (code_list_new _ ⟨rfl,rfl⟩) fun obj s₁ h₁=>?_
 obtain⟨rfl,rfl⟩:=h₁
 have hS:(s.heap.push { cls:=.type "list",data:=.seq #[] }).get? s.heap.objs.size=some { cls:=.type "list",data:=.seq #[] }:=Qz _ rfl
 have n1:s.heap.objs.size≠it:=fun z=>by obtain⟨o,e,_⟩:=hit;exact absurd (Qs e) (by rw[z];exact Wk _)
 have n2:s.heap.objs.size≠l:=fun z=>by obtain⟨o,e,_⟩:=hl;exact absurd (Qs e) (by rw[z];exact Wk _)
 refine⟨⟨_,hS,rfl⟩,F.args_list_init_2 _ _,zV5 (A:=A.in1) hh (hit.at fun o e=>Qr _ e) (hl.at fun o e=>Qr _ e) hli n1 n2 j5 hS fun h' tk acc' c' hk hS' hacc=>?_⟩
 exact⟨rfl,hQ h' tk acc' c' (fun b o hb e=>hk b o (Er (Qs e)) hb (Qr _ e)) hS' hacc⟩
def zOh {j6 j7:jj}(h:ItemsOf (fun i v=>j6.toArray[j6.toArray.size - 1 - i]?=some v) j7.toArray j6.toArray.size):j7=j6.reverse:=by
 obtain⟨h1,h2⟩:=h
 simp only[Qg] at h1 h2
 refine List.ext_getElem (by rw[h1,List.length_reverse]) fun i hi hi'=>?_
 have q:=h2 i j7[i] (by simp[hi])
 rw[List.getElem_reverse]
 simp only[List.getElem?_toArray] at q
 rw[Qi jc] at q
 exact(Eg q).symm
def Reps.reverse {K:jg}{G:Hp}:∀ {ds:List D} {vs:List V},Reps K G ds vs->Reps K G ds.reverse vs.reverse
 | [],_,h=>by rw[yR] at h;subst h;exact yR.mpr rfl
 | d::r,_,h=>by
   obtain⟨v,vr,rfl,h1,h2⟩:=zB.mp h
   rw[Yc,Yc]
   exact h2.reverse.snoc h1
variable {X:Cx} {a b e:Expr} {es:List Expr} {ga:Lf} {pos p:Pos}
def zQc (g:Lf):Lf:=fun ρ=>(g ρ).map List.reverse
def zQM {p2 pos':Pos}(hc:X.calm=true)(hg:Gl X "list")(hm:X.mg "list"=none)(hg':Gl X "reversed")(hm':X.mg "reversed"=none)(h:zTp X a ga)(hs:starEach [a] X.env=[(false,eval a X.env)]:=by rfl)
   (hs3:starEach [Expr.Call (.Name "reversed" p2) [a] [] pos'] X.env=[(false,eval (.Call (.Name "reversed" p2) [a] [] pos') X.env)]:=by rfl) :
   PFr X (.Call (.Name "list" p) [.Call (.Name "reversed" p2) [a] [] pos'] [] pos) (zQc ga):=by
 intro Z s σ H Q I q
 obtain⟨G0,H0,G,ρ,es,j2,hf,kk⟩:=q
 unfold zQc at hf
 obtain⟨ds,h1,rfl⟩:=Qy.mp hf
 have hA:=zE h yO (by rw[hs];rfl) pos' Z s σ H (fun vs H'=>∃l us G',vs=[.ref l]/\Step G H G' H'/\SqL X.K G' l us/\Reps X.K G' ds us) I
   ⟨G0,H0,G,ρ,_,j2,h1,fun l us H1 G1 s1 q1 q2=>⟨l,us,G1,rfl,s1,q1,q2⟩⟩
 refine Call_ (oA I hg hm jf (Ei (rest:=[]) ?_ (by rw[hs3];rfl) jf))
 rw[hs3]
 refine Ie (Call_ (oA I hg' hm' jf (Ei (thn hA fun us s1 ⟨vs,H1,I1,r1,l,ws,G1,e1,st1,q1,q2⟩=>?_) (by rw[hs];rfl) jf)))
 subst e1
 obtain⟨u,rfl,ru⟩:=oG r1
 cases ru
 obtain⟨j6,rv,p1,hz⟩:=I1.list (st1.sub.seq q1)
 have hll:l < s1.heap.objs.size:=by obtain⟨o,e,_⟩:=p1.isList;exact Qs e
 refine call_reversed_list p1.isList ?_
 refine Ig ?_
 have hrev:(s1.heap.push (revObj l ((j6.toArray.size:Int) - 1))).IsRevIter s1.heap.objs.size l ((j6.toArray.size:Int) - 1):=⟨_,Qz _ rfl,rfl,rfl⟩
 refine zV2 (I.ok.hd hc) hrev (p1.isList.at fun o e=>Qr _ e) (Er hll) (by rw[Qg];exact rv.length ▸ hz) fun h' tk j7 c' hk hS hacc=>?_
 have hsz:(s1.heap.push (revObj l ((j6.toArray.size:Int) - 1))).objs.size=s1.heap.objs.size+1:=Tt ..
 have hacc':j7.toList=j6.reverse:=zOh (j7:=j7.toList) (by simpa using hacc)
 have hT:s1.heap.objs.size<=(s1.heap.push (revObj l ((j6.toArray.size:Int) - 1))).objs.size:=by rw[hsz];exact Yb _
 have fr:H1 (s1.heap.push (revObj l ((j6.toArray.size:Int) - 1))).objs.size=none:=I1.hok.fresh hT
 have I3:=I1.laid (t':=tk) (h':=h') (a:=(s1.heap.push (revObj l ((j6.toArray.size:Int) - 1))).objs.size) (o:=.lst ws.reverse) (fun b o e=>hk b o (Er (Qs e)) (Qr _ e)) hT
   (show ObjOk X.prog X.w _ h' _ (.lst ws.reverse) from⟨by rw[List.length_reverse];exact hz,j7.toList,c',by rw[hacc'];exact rv.reverse,hS⟩)
 exact⟨.ref _,_,I3,rfl,kk _ ws.reverse _ G1 (st1.trans (Step.own st1.sub fr)) (st1.hh.free fr) yW (st1.sub.free fr) q2.reverse⟩
end
section
variable {X:Cx}
def tQ {st:Stmt}:PFS X st (fun _=>none):=by
 intro Z s σ H D I q
 obtain⟨G0,H0,G,ρ,o,j2,hf,k⟩:=q
 cases hf
end
end L2
namespace Att
open PySem PySem.W PySem.Spec PyProof.Rows
def zRb {ns:List Int}(h:WData.layableAll [WData.list (ns.map WData.int)]=true):∀n∈ns,Builtin.Int.intBits n<=1048576:=by
 unfold WData.layableAll WData.layable at h
 rw[Yy,List.all_nil,Ym,Qc,Wb] at h
 have hw:=h.2
 unfold WData.weight at hw
 have key:∀l:List Int,∀n∈l,Builtin.Int.intBits n<=WData.weightAll (l.map WData.int):=by
   intro l
   induction l with
   | nil=>intro n hn;cases hn
   | cons x r ih =>
     intro n hn
     rw[Qu]
     unfold WData.weightAll
     rcases Qh.mp hn with e | e
     · subst e
       have:WData.weight (WData.int n)=Builtin.Int.intBits n:=by unfold WData.weight Builtin.Int.intBits;rfl
       omega
     · have:=ih n e
       omega
 intro n hn
 have:=key ns n hn
 have e:(2:Nat)^20=1048576:=jb
 omega
end Att
namespace Att
open PySem PySem.W PySem.Calls PyProof.Rows
def attach_bits {l:OpenLaw}{n:Nat}{q:Program}{loose:List Str}{XP:(Str->Option Value)->Heap->Prop}{YP:World->Heap->Prop}{d:DefRec}
   (hn:l.most=some n) (hdf:d.params.defaults=[])
   (run:∀(w:World) (s₀ s₁:Shared) (mg mb:Str->Option Value) (fa:Addr) (o:Obj) (pm cd doc:Value) (a:Addr) (vs:jj) (ns:List Int),
     Ground q loose [] XP w s₀ mg mb s₁.heap->YP w s₁.heap ->
     s₁.heap.get? fa=some o->o.data = .func (docDef d.name d.params d.body d.scope pm cd doc)->s₁.heap.CodeRec cd d.name->mg d.name=some (.ref fa) ->
     s₁.heap.get? a=some { cls:=.type "list",data:=.seq vs.toArray }->IntsAre vs ns->ns.length<=n->(∀n∈ns,Builtin.Int.intBits n<=1048576)->s₁.gens=#[] ->
     codeAny (model l.prog w) callerA (.call (.ref fa) ⟨[.ref a],[]⟩) (fun r s'=>r = .ok (.ret (.bool true))/\OldK s₁.heap s'.heap/\s'.os=s₁.os/\AllBare s'.gens) s₁) :
   WalkO q loose XP YP l.row.toRowW d [] (fun f vs=>PySem.call f vs):=by
 intro w s₀ s₁ mg mb G Y fa o pm cd doc dV kV ho hd hcd hD hmg hg args vals as hpre hlay hrd hwl hlo
 obtain rfl:dV = .none:=Dflts.none hD hdf
 obtain rfl:kV = .none:=Dflts.noKw hD
 obtain⟨a,vs,ns,rfl,rfl,hobj,hints,j5⟩:=zN6 hn hpre hwl
 refine enter_call (Il (run w s₀ s₁ mg mb fa o pm cd doc a vs ns G Y ho (fd_plain hd) hcd hmg hobj hints j5 (zRb hlay) hg) fun r s' hq=>?_)
 obtain⟨rfl,h2,h3,h4⟩:=hq
 exact⟨.inl ⟨.bool true,.bool true,[],rfl,fun _=>rfl,.bool true,zNy l _,fun _=>⟨List.Pairwise.nil,fun _ hm=>(nomatch hm)⟩⟩,h2,h3,h4⟩
end Att
namespace L2
open PySem PySem.Spec PyProof.Rows
def zN9 {l:PySem.W.OpenLaw}{n k:Nat}{q:Program}{loose:List Str}{XP:(Str->Option Value)->Heap->Prop}{YP:World->Heap->Prop}{d:DefRec}{K:Params->jg}{CX:World->CXT}{sp:World->Sp}{x:Str}
   (hn:l.most=some n) (hn2:n<=sizeLine) (hdf:d.params.defaults=[]) (hr:Room k callerA)
   (hY:∀(w:World) (h:Heap),YP w h->(K w.params).In h)
   (F:∀(w:World) (mg:Str->Option Value) (fa:Addr) (h:Heap),(K w.params).In h->h.Ns mainGlobals mg->mg d.name=some (.ref fa) ->
     ∃fd:FuncData,(∀(s:Shared) (u:Value),BindsTo s fd ⟨[u],[]⟩ [(x,u)]) /\
       ∀base:Heap,(K w.params).In base->base.Ns mainGlobals mg->FnOk l.prog w (K w.params) mg base (CX w) k fa fd [x] (sp w))
   (hsp:∀(w:World) (H:Hp) (a:Addr) (ns:List Int),ns.length<=n->(∀n∈ns,Builtin.Int.intBits n<=1048576)->zHy H->SqL (K w.params) H a (ns.map V.int)->sp w [.ref a] H (fun v _=>v = .bl true) fun _ _ _=>False)
   (hCX:∀(w:World) (H:Hp) (s:Shared) (e:Value) (s':Shared),CX w [] H s (fun _ _ _=>False) e s'->False) :
   PySem.W.WalkO q loose XP YP l.row.toRowW d [] (fun f vs=>PySem.call f vs):=by
 refine Att.attach_bits hn hdf fun w s₀ s₁ mg mb fa o pm cd doc a vs ns G Y ho hd hcd hmg hobj hints j5 hbits hg=>?_
 have KX:=hY w _ Y
 obtain⟨fd,hb,hF⟩:=F w mg fa _ KX G.T.g hmg
 exact zLF KX G.T.g G.T.b G.T.builtins G.T.nolimit hg hobj hints (Ep j5 hn2) hr hF hb (fun H hO hS=>hsp w H a ns j5 hbits hO hS) fun H e s'=>hCX w H s₁ e s'
structure FlyV (h:Heap)(H:Hp)(h0:Heap)(C a:Addr)(od:Option Addr):Prop where
 ob:∃vs v,h.get? a=some { cls:=.ref C,dict:=od,data:=.fields vs,slots:=#[] }/\vs[1]?=some v/\zMg h a v/\∀T,v = .ref T->H T=none/\h0.get? T=none
 tr:H a=some (.ext (Xe C a od))
 new:h0.get? a=none
def zOi {X:Cx}{st:Stmt}{rest:List Stmt}{B f g:Sf}(e:B=zQ f g)(h1:PFS X st f)(h2:bU X rest g):bU X (st::rest) B:=by
 subst e
 exact vX h1 h2
def zV {X:Cx}{st:Stmt}{rest:List Stmt}(B:Sf){f g:Sf}(e:B=zQ f g)(h1:PFS X st f)(h2:bU X rest g):bU X (st::rest) B:=zOi e h1 h2
structure FnT (K:jg)(mg:Str->Option Value)(x:Str)(st:Stmt)(ps:List Str) where
 f:Addr
 fd:FuncData
 F:Fun K x x st f fd
 b:Binds K fd ps []
 m:mg x=some (.ref f)
def wG (K:jg)(x:Str)(st:Stmt):Prop:=∃(f:Addr) (od an:Option Addr) (sl:Array (Option Value)) (oc kV dc pm cd ct:Value),PySem.W.nsIn K mainGlobals x=some (some (.ref f))/\K.lookup f=some ⟨oc,od,.func (PySem.W.fnOf x x (uT st) (wH st) (zS st) .none kV dc pm an cd ct),sl⟩/\PySem.W.codeIn K cd x=true/\PySem.W.keepIn K (.ref f)=true
abbrev fnQ (x:Str)(st:Stmt)(kV dc pm:Value)(an:Option Addr)(cd ct:Value):FuncData:=PySem.W.fnOf x x (uT st) (wH st) (zS st) .none kV dc pm an cd ct
def Bd (x:Str)(st:Stmt)(ps:List Str):Prop:=∀(kV doc pm:Value) (an:Option Addr) (j9 ct:Value) (us:jj),us.length=ps.length->bindArgs (fnQ x st kV doc pm an j9 ct) ⟨us,[]⟩=pure (ps.zip us)
section
variable {x a b c d e:Str} {st:Stmt}
def bd1 (h:∀kV dc pm an cd ct u,bindArgs (fnQ x st kV dc pm an cd ct) ⟨[u],[]⟩=pure [(a,u)]):Bd x st [a]:=fun _ _ _ _ _ _ us hl=>match us,hl with | [_],_=>h _ _ _ _ _ _ _
def bd2 (h:∀kV dc pm an cd ct u v,bindArgs (fnQ x st kV dc pm an cd ct) ⟨[u,v],[]⟩=pure [(a,u),(b,v)]):Bd x st [a,b]:=fun _ _ _ _ _ _ us hl=>match us,hl with | [_,_],_=>h _ _ _ _ _ _ _ _
def bd3 (h:∀kV dc pm an cd ct u v z,bindArgs (fnQ x st kV dc pm an cd ct) ⟨[u,v,z],[]⟩=pure [(a,u),(b,v),(c,z)]):Bd x st [a,b,c]:=fun _ _ _ _ _ _ us hl=>match us,hl with | [_,_,_],_=>h _ _ _ _ _ _ _ _ _
def bd4 (h:∀kV dc pm an cd ct u v z w,bindArgs (fnQ x st kV dc pm an cd ct) ⟨[u,v,z,w],[]⟩=pure [(a,u),(b,v),(c,z),(d,w)]):Bd x st [a,b,c,d]:=fun _ _ _ _ _ _ us hl=>match us,hl with | [_,_,_,_],_=>h _ _ _ _ _ _ _ _ _ _
def bd5 (h:∀kV dc pm an cd ct u v z w y,bindArgs (fnQ x st kV dc pm an cd ct) ⟨[u,v,z,w,y],[]⟩=pure [(a,u),(b,v),(c,z),(d,w),(e,y)]):Bd x st [a,b,c,d,e]:=fun _ _ _ _ _ _ us hl=>match us,hl with | [_,_,_,_,_],_=>h _ _ _ _ _ _ _ _ _ _ _
variable {K:jg} {h:Heap} {mg:Str->Option Value} {ps:List Str}
def wD (X:K.In h)(G:h.Ns mainGlobals mg)(g:wG K x st)(hb:Bd x st ps):FnT K mg x st ps:=Classical.choice (by
 obtain⟨f,od,an,sl,oc,kV,dc,pm,cd,ct,a,l,c,k⟩:=g
 exact⟨⟨f,_,zXa l c k,(zXa l c k).binds hb,PySem.W.mg_of X G a⟩⟩)
def zHI {P:Program}{w:World}{k:Nat}{sp:Sp}{p:Str}{fa:Addr}(t:FnT K mg x st [p])(hb:Bd x st [p])(hfa:mg x=some (.ref fa))(ok:∀base:Heap,FnOk P w K mg base CX0 k t.f t.fd [p] sp) :
   ∃fd:FuncData,(∀(s:Shared) (v:Value),BindsTo s fd ⟨[v],[]⟩ [(p,v)])/\∀base:Heap,K.In base->base.Ns mainGlobals mg->FnOk P w K mg base CX0 k fa fd [p] sp:=by
 have e:=hfa.symm.trans t.m
 cases e
 refine⟨t.fd,fun s v=>?_,fun base _ _=>ok base⟩
 obtain⟨oc,od,kV,doc,pm,an,j9,ct,osl,e,lk,hcd⟩:=t.F.ex
 rw[e]
 exact .of_eq (hb kV doc pm an j9 ct [v] rfl)
end
abbrev OkT (P:Program)(w:World)(base:Heap){K:jg}{mg:Str->Option Value}{x:Str}{st:Stmt}{ps:List Str}(t:FnT K mg x st ps)(k n:Nat)(d:jv):Prop:=FnOk P w K mg base CX0 k t.f t.fd ps (spF K n d)
abbrev zP9 (P:Program)(w:World)(base:Heap){K:jg}{mg:Str->Option Value}{x:Str}{st:Stmt}{ps:List Str}(t:FnT K mg x st ps)(k n:Nat)(d:List D->Option (List D)):Prop:=FnOk P w K mg base CX0 k t.f t.fd ps (spL K n d)
section
variable {X:Cx} {e:Expr} {es:List Expr} {ga:Lf} {pos p:Pos} {x:Str} {st:Stmt} {ps:List Str}
def xJ {j k n:Nat}{t:FnT X.K X.mg x st ps}{fD:jv}(F:FnOk X.prog X.w X.K X.mg X.base CX0 j t.f t.fd ps (spF X.K n fD))(hr:Room k X.A)(ha:PFA X (e::es) ga)(hj:j<=k:=by omega)(hg:Gl X x:=by rfl)(hdb:(x==("__debug__":Str))=false:=by decide)(he:starEach (e::es) X.env=(false,eval e X.env)::starEach es X.env:=by rfl)(hpl:(backTo pos (starEach es X.env)).any (·.1)=false:=by rfl) :
   PF X (.Call (.Name x p) (e::es) [] pos) (zN n fD ga):=zUz F (hr.mono hj) t.m t.F.kp t.b hg ha hdb he hpl
def zVF {j k n:Nat}{t:FnT X.K X.mg x st ps}{fD:List D->Option (List D)}(F:FnOk X.prog X.w X.K X.mg X.base CX0 j t.f t.fd ps (spL X.K n fD))(hr:Room k X.A)(ha:PFA X (e::es) ga)(hj:j<=k:=by omega)(hg:Gl X x:=by rfl)(hdb:(x==("__debug__":Str))=false:=by decide)(he:starEach (e::es) X.env=(false,eval e X.env)::starEach es X.env:=by rfl)(hpl:(backTo pos (starEach es X.env)).any (·.1)=false:=by rfl) :
   PFr X (.Call (.Name x p) (e::es) [] pos) (tR n fD ga):=zJm F (hr.mono hj) t.m t.F.kp t.b hg ha hdb he hpl
end
def xX {N P:List Str}{sc:Scope}(h:(sc.kind == .function && !sc.isCoroutine && !sc.isGenerator&&decide (N.take P.length=P)&&decide N.Nodup&&decide (∀x∈P,sc.names.lookup x=some .local∨sc.names.lookup x=some .cell)&&decide (∀y∈sc.names,y.2 ≠ .free))=true):FnScope N P sc:=by
 simp only[Qc,Wb,Bool.not_eq_true'] at h
 obtain⟨⟨⟨⟨⟨⟨h1,h2⟩,h3⟩,h4⟩,h5⟩,h6⟩,h7⟩:=h
 refine⟨?_,h2,h3,h5,h4,h6,h7⟩
 generalize sc.kind=k at h1
 cases k<;>first | rfl | cases h1
section
variable {X:Cx} {a e:Expr} {fa:Ef} {ga:Lf} {pos p:Pos}
def zOs:CallR X (.builtin "abs") (fun xs H Q=>∃i,xs=[.int i]/\Q (.int (if i < 0 then -i else i)) H):=by
 intro Z s σ H xs us Q I r h
 obtain⟨i,rfl,q⟩:=h
 obtain⟨u,rfl,t,rfl⟩:=oG r
 exact call_abs_int fun u tk=>⟨.int _,H,I.kept (fun _ _ e=>e),⟨u,rfl⟩,q⟩
def zHD (fa:Ef):Ef:=fun ρ=>(fa ρ).bind fun x=>match x with | .int i=>some (.int (if i < 0 then -i else i)) | _=>none
def zHO (hg:Gl X "abs")(hm:X.mg "abs"=none)(h:PF X a fa)(hs:starEach [a] X.env=[(false,eval a X.env)]:=by rfl):PF X (.Call (.Name "abs" p) [a] [] pos) (zHD fa):=by
 refine PE.to (pP zOs hg hm jf (zE h yO (by rw[hs];rfl)) jb jb (by rw[hs];rfl) jf) ?_
 rintro σ H Q ⟨G0,H0,G,ρ,d,j2,hf,k⟩
 unfold zHD at hf
 obtain⟨x,h1,hf⟩:=Qw.mp hf
 split at hf
 · rename_i i
   cases hf
   exact⟨G0,H0,G,ρ,_,j2,h1,fun v H1 G1 s1 r1=>⟨i,by rw[zD.mp r1],k _ _ G1 s1 (zD.mpr rfl)⟩⟩
 · cases hf
def zOw (hc:X.calm=true):CallR X (.builtin "sum") (fun xs H Q=>∃(q:Addr) (ns:List Int),xs=[V.ref q]/\SqL X.K H q (ns.map V.int)/\Q (.int ns.sum) H):=by
 intro Z s σ H xs us Q I r h
 obtain⟨l,ns,rfl,hq,q⟩:=h
 obtain⟨u,rfl,ru⟩:=oG r
 cases ru
 obtain⟨j6,rv,pl,hz⟩:=I.list hq
 obtain⟨ps,rfl,rfl⟩:=zU7 rv
 have hit:s.heap.IsList l (intItems ps.toArray):=by
   have:=pl.isList
   unfold intItems
   rw[List.map_toArray]
   exact this
 refine sum_intListG (I.ok.hd hc) hit fun h' tk t' hk=>⟨.int _,H,I.kept hk,⟨t',rfl⟩,?_⟩
 have e:preSum (numAt ps.toArray) ps.toArray.size=(ps.map (·.1)).sum:=by
   have:=preSum_eq ps.toArray ps.toArray.size
   rw[this,List.take_of_length_le jd]
 rw[e]
 exact q
def zL7 (g:Lf):Ef:=fun ρ=>(g ρ).bind fun ds=>(zSy ds).bind fun ns=>some (.int ns.sum)
def zJB (hcm:X.calm=true)(hg:Gl X "sum")(hm:X.mg "sum"=none)(h:zTp X a ga)(hs:starEach [a] X.env=[(false,eval a X.env)]:=by rfl):PF X (.Call (.Name "sum" p) [a] [] pos) (zL7 ga):=by
 refine PE.to (pP (zOw hcm) hg hm jf (zE h yO (by rw[hs];rfl)) jb jb (by rw[hs];rfl) jf) ?_
 rintro σ H Q ⟨G0,H0,G,ρ,d,j2,hf,k⟩
 unfold zL7 at hf
 obtain⟨ds,h1,hf⟩:=Qw.mp hf
 obtain⟨ns,h2,hf⟩:=Qw.mp hf
 cases hf
 refine⟨G0,H0,G,ρ,ds,j2,h1,fun q vs H1 G1 s1 e1 r1=>?_⟩
 rw[zYD h2 r1] at e1
 exact⟨q,ns,rfl,s1.sub.seq e1,k _ _ G1 s1 (zD.mpr rfl)⟩
end
inductive All2 {α β:Type}(R:α->β->Prop):List α->List β->Prop
 | nil:All2 R [] []
 | cons {a b l m}:R a b->All2 R l m->All2 R (a::l) (b::m)
def All2.length {α β:Type}{R:α->β->Prop}:∀ {l:List α} {m:List β},All2 R l m->l.length=m.length
 | _,_,.nil=>rfl
 | _,_,.cons _ t=>by rw[Qo,Qo,t.length]
def All2.imp {α β:Type}{R S:α->β->Prop}(h:∀a b,R a b->S a b):∀ {l:List α} {m:List β},All2 R l m->All2 S l m
 | _,_,.nil=>.nil
 | _,_,.cons q t=>.cons (h _ _ q) (t.imp h)
def All2.inj {α β:Type}{R:α->β->Prop}(h:∀a a' b,R a b->R a' b->a=a'):∀ {l l':List α} {m:List β},All2 R l m->All2 R l' m->l=l'
 | _,_,_,.nil,.nil=>rfl
 | _,_,_,.cons q t,.cons q' t'=>by rw[h _ _ _ q q',All2.inj h t t']
def All2.get {α β:Type}{R:α->β->Prop}:∀ {l:List α} {m:List β},All2 R l m->∀(j:Nat) (h1:j < l.length) (h2:j < m.length),R l[j] m[j]
 | _,_,.cons q t,0,_,_=>q
 | _,_,.cons q t,j+1,h1,h2=>t.get j (by simpa using h1) (by simpa using h2)
def dP:KT->Value->Prop
 | .int i,v=>(∃t,v = .int i t)∨∃b:Bool,v = .bool b/\i=(if b then 1 else 0)
 | .tup _,_=>False
def IsK (h:Heap):Nat->KT->Value->Prop
 | 0,k,v=>dP k v
 | n+1,.tup ks,v=>∃a j3,v = .ref a/\h.IsTuple a j3/\All2 (IsK h n) ks j3.toList
 | _+1,.int i,v=>dP (.int i) v
def zUK {k k':KT}{v:Value}(h:dP k v)(h':dP k' v):k=k':=by
 cases k with
 | int i =>
   cases k' with
   | int j =>
     rcases h with⟨t,rfl⟩ | ⟨b,rfl,rfl⟩<;>rcases h' with⟨t',e⟩ | ⟨b',e,rfl⟩<;>cases e<;>rfl
   | tup l=>cases h'
 | tup l=>cases h
def zYm {k:KT}{a:Addr}(h:dP k (.ref a)):False:=by
 cases k with
 | int i=>rcases h with⟨t,e⟩ | ⟨b,e,_⟩<;>cases e
 | tup l=>cases h
def zRG {h:Heap}{n:Nat}{k:KT}{v:Value}(hk:∀l,k ≠ .tup l):IsK h n k v↔dP k v:=by
 cases n with
 | zero=>exact Op
 | succ n =>
   cases k with
   | tup l=>exact absurd rfl (hk l)
   | int i=>exact Op
def zYl {h:Heap}{a:Addr}{i j:jk}(x:h.IsTuple a i)(y:h.IsTuple a j):i=j:=by
 obtain⟨o,e,_,n,d⟩:=x
 obtain⟨o',e',_,n',d'⟩:=y
 rw[e] at e';cases e'
 rw[d] at d';cases d';rfl
def zUu {h:Heap}:∀(n:Nat) (k k':KT) (v:Value),IsK h n k v->IsK h n k' v->k=k'
 | 0,_,_,_,x,y=>zUK x y
 | n+1,.tup ks,k',v,x,y=>by
   obtain⟨a,j3,rfl,t,al⟩:=x
   cases k' with
   | tup ls =>
     obtain⟨a',items',e,t',al'⟩:=y
     cases e
     have:=zYl t t'
     subst this
     rw[al.inj (fun p q r=>zUu n p q r) al']
   | int i=>exact(zYm (k:=.int i) y).elim
 | n+1,.int i,.tup ls,v,x,y=>by
   obtain⟨a',items',rfl,_⟩:=y
   exact(zYm (k:=.int i) x).elim
 | n+1,.int i,.int j,v,x,y=>zUK (k:=.int i) (k':=.int j) x y
def zUM {h h':Heap}(hk:∀a j3,h.IsTuple a j3->h'.IsTuple a j3):∀(n:Nat) (k:KT) (v:Value),IsK h n k v->IsK h' n k v
 | 0,_,_,x=>x
 | n+1,.tup ks,v,x=>by
   obtain⟨a,j3,rfl,t,al⟩:=x
   exact⟨a,j3,rfl,hk _ _ t,al.imp fun p q r=>zUM hk n p q r⟩
 | n+1,.int i,v,x=>x
def dK':Nat->KT->Nat
 | n+1,.tup ks=>(ks.map (dK' n)).sum+1
 | _,_=>1
section
variable {prog:Program} {w:World} {E:jh}
def zUA {k:KT}{v:Value}{A:Around}{s:Shared}{Q:Int->Shared->Prop}(x:dP k v)(hu:A.units < cLine)(h:Q (zIS k) { s with toks:=s.toks+1 }):wpAny (model prog w) A (pyHash v) Q E s:=by
 cases k with
 | int i =>
   rcases x with⟨t,rfl⟩ | ⟨b,rfl,rfl⟩
   · exact wpAny_pyHash_int h
   · refine PySem.W.pyHash_slot (T:="bool") rfl F.slot_bool_hash entry_int_hash (args_int_hash _) (beq_builtin_none _) (.inr hu) ?_
     cases b
     · exact(show wpAny _ _ (do ret (←mkInt 0)) _ _ s from Qe (wpAny_mkInt (Qd ⟨_,_,rfl,h⟩)))
     · exact(show wpAny _ _ (do ret (←mkInt 1)) _ _ s from Qe (wpAny_mkInt (Qd ⟨_,_,rfl,h⟩)))
 | tup l=>cases x
def zMy:∀(n:Nat) (k:KT) (v:Value) (A:Around) (s:Shared) (Q:Int->Shared->Prop),IsK s.heap n k v->A.units+n < cLine->Q (hK n k) { s with toks:=s.toks+dK' n k }->wpAny (model prog w) A (pyHash v) Q E s
 | 0,k,v,A,s,Q,x,hu,h=>by
   cases k with
   | tup l=>cases x
   | int i=>exact zUA (k:=.int i) x jc h
 | n+1,.int i,v,A,s,Q,x,hu,h=>zUA (k:=.int i) x jc h
 | n+1,.tup ks,v,A,s,Q,x,hu,h=>by
   obtain⟨a,j3,rfl,t,al⟩:=x
   obtain⟨o,ho,hc,m,hd⟩:=id t
   refine PySem.W.pyHash_slot (T:="tuple") ⟨_,ho,hc⟩ F.slot_tuple_hash F.entry_tuple_hash (F.args_tuple_hash_1 _) (beq_builtin_none _) (.inr jc) ?_
   show wpAny _ _ (Builtin.Tuple.tupleItemsOf (.ref a) >>= _) _ _ s
   refine Qe (wpAny_tupleItemsOf ho hd ?_)
   refine Qe ?_
   rw[←Yj]
   refine wpAny_forIn_list _
     (fun rest (b:Array Int) s'=>∃done left,ks=done++left/\All2 (IsK s.heap n) left rest/\b.toList=done.map (hK n)/\s'={ s with toks:=s.toks+(done.map (dK' n)).sum })
     _ ?_ ?_ _ _ ⟨[],ks,rfl,al,rfl,rfl⟩
   · rintro x rest b s' ⟨done,left,rfl,hl,hb,rfl⟩
     cases hl with
     | @cons k _ ks' _ h1 hl' =>
       refine Qe (zMy n k x A.in1 _ _ h1 (by show A.units+1+n < cLine;omega) ?_)
       first
         | exact Qd ⟨done++[k],ks',jd,hl',by simp[hb],by simp[Nat.add_assoc]⟩
         | exact Qe (Qd (Qd ⟨done++[k],ks',jd,hl',by simp[hb],by simp[Nat.add_assoc]⟩))
   · rintro b s' ⟨done,left,rfl,hl,hb,rfl⟩
     cases hl
     rw[Wx] at h
     show wpAny _ _ (retInt (Builtin.Tuple.tupleHashOf b.toList)) _ _ _
     rw[hb]
     exact Qe (wpAny_mkInt (Qd ⟨_,_,rfl,by simpa [hK,dK',Nat.add_assoc] using h⟩))
def cT {a b:KT}{p:Bool}(h:p=true↔a=b):p=decide (a=b):=by
 by_cases e:a=b
 · rw[Qp e];exact h.mpr e
 · rw[Qb e];cases p with
   | false=>rfl
   | true=>exact absurd (h.mp rfl) e
def zOK {k k':KT}{v v':Value}{A:Around}{s:Shared}(x:dP k v)(y:dP k' v'):SeqAt.EqAt A s v v' (decide (k=k')):=by
 cases k with
 | int i =>
   cases k' with
   | int j =>
     rcases x with⟨t,rfl⟩ | ⟨b,rfl,rfl⟩<;>rcases y with⟨t',rfl⟩ | ⟨b',rfl,rfl⟩
     · rw[←cT (p:=i==j) jd];exact Ir _ _ _ _
     · rw[←cT (p:=i==(if b' then 1 else 0)) jd];exact SeqAt.EqAt.int_bool _ _ _
     · rw[←cT (p:=(if b then 1 else 0)==j) jd];exact SeqAt.EqAt.bool_int _ _ _
     · rw[←cT (p:=b==b') (by cases b<;>cases b'<;>simp)];exact Uc _ _
   | tup l=>cases y
 | tup l=>cases x
def zYr {k:KT}{v:Value}{A:Around}{s:Shared}{a:Addr}{j3:jk}(t:s.heap.IsTuple a j3)(hu:A.units < cLine)(y:dP k v):SeqAt.EqAt A s (.ref a) v false/\SeqAt.EqAt A s v (.ref a) false:=by
 cases k with
 | int i =>
   rcases y with⟨t',rfl⟩ | ⟨b',rfl,_⟩
   · exact⟨SeqAt.EqAt.tuple_int _ _ t hu,SeqAt.EqAt.int_tuple _ _ t hu⟩
   · exact⟨SeqAt.EqAt.tuple_bool _ t hu,SeqAt.EqAt.bool_tuple _ t hu⟩
 | tup l=>cases y
def zJh {ks ls:List KT}:((List.range (min ks.length ls.length)).all (fun j=>decide (ks[j]?=ls[j]?))&&ks.length==ls.length)=decide (KT.tup ks=KT.tup ls):=by
 refine cT ?_
 rw[Qc,Qn,Uk]
 constructor
 · rintro⟨h1,h2⟩
   congr 1
   refine List.ext_getElem? fun j=>?_
   by_cases hj:j < min ks.length ls.length
   · exact Wn (h1 j (Te.mpr hj))
   · rw[Yr jc,Yr jc]
 · intro e
   cases e
   exact⟨fun j _=>Qp rfl,rfl⟩
def zGd:∀(n:Nat) (k k':KT) (v v':Value) (A:Around) (s:Shared),IsK s.heap n k v->IsK s.heap n k' v'->A.units+n < cLine->SeqAt.EqAt A s v v' (decide (k=k'))
 | 0,k,k',v,v',A,s,x,y,hu=>zOK x y
 | n+1,.tup ks,.tup ls,v,v',A,s,x,y,hu=>by
   obtain⟨a,j3,rfl,t,al⟩:=x
   obtain⟨b,jtems,rfl,t',al'⟩:=y
   by_cases hab:a=b
   · subst hab
     have e:=zYl t t'
     subst e
     have e:=al.inj (fun p q r=>zUu n p q r) al'
     subst e
     rw[Qp rfl]
     exact Ya _
   · refine .of_refs hab ?_
     have l1:=al.length
     have l2:=al'.length
     have R:=SeqAt.RcAt.tuples (A:=A) (e:=fun j=>decide (ks[j]?=ls[j]?)) t t' jc fun j h1 h2=>by
       have b1:j < ks.length:=by rw[l1];simpa using h1
       have b2:j < ls.length:=by rw[l2];simpa using h2
       have q:=zGd n ks[j] ls[j] j3[j] jtems[j] A.in1 s (al.get j b1 (by simpa using h1)) (al'.get j b2 (by simpa using h2)) (by show A.units+1+n < cLine;omega)
       have e:decide (ks[j]?=ls[j]?)=decide (ks[j]=ls[j]):=by
         refine cT ?_
         rw[decide_eq_true_iff,Qi b1,Qi b2,Option.some_inj]
       rw[e]
       exact q
     have e:=zJh (ks:=ks) (ls:=ls)
     rw[l1,l2,Ev,Ev] at e
     rw[←e]
     exact R
 | n+1,.tup ks,.int i,v,v',A,s,x,y,hu=>by
   obtain⟨a,j3,rfl,t,al⟩:=x
   rw[←cT (p:=false) jd]
   exact(zYr (k:=.int i) t jc y).1
 | n+1,.int i,.tup ks,v,v',A,s,x,y,hu=>by
   obtain⟨a,j3,rfl,t,al⟩:=y
   rw[←cT (p:=false) jd]
   exact(zYr (k:=.int i) t jc x).2
 | n+1,.int i,.int j,v,v',A,s,x,y,hu=>zOK (k:=.int i) (k':=.int j) x y
def zW7 {k:KT}{v:Value}(m:Nat)(x:dP k v):eqIsQuiet m v=pure true:=by
 refine eqIsQuiet_byValue m ?_
 cases k with
 | int i=>rcases x with⟨t,rfl⟩ | ⟨b,rfl,_⟩<;>rfl
 | tup l=>cases x
def zO9:∀(n:Nat) (k:KT) (v:Value) (m:Nat) (A:Around) (s:Shared) (Q:Bool->Shared->Prop),n<=m->IsK s.heap n k v->Q true s->wpAny (model prog w) A (eqIsQuiet m v) Q E s
 | 0,k,v,m,A,s,Q,hm,x,h=>by rw[zW7 m x];exact Qd h
 | n+1,.int i,v,m,A,s,Q,hm,x,h=>by rw[zW7 (k:=.int i) m x];exact Qd h
 | n+1,.tup ks,v,0,A,s,Q,hm,x,h=>absurd hm jc
 | n+1,.tup ks,v,m+1,A,s,Q,hm,x,h=>by
   obtain⟨a,j3,rfl,t,al⟩:=x
   obtain⟨o,ho,hc,m',hd⟩:=id t
   have hT:s.TypeIs (.ref a) "tuple":=⟨_,ho,hc⟩
   unfold eqIsQuiet
   refine Qe (Yf hT F.slot_tuple_eq.lookup ?_)
   show wpAny _ _ (isInstance (.ref a) (.type "tuple") >>= _) _ _ s
   refine Qe (Ur hT isSubtype_tuple_tuple ?_)
   simp only[Yu,Wg,Rp]
   refine Qe (Ec ho hd ?_)
   refine Qe ?_
   show wpAny _ _ (forIn j3 _ _) _ _ s
   rw[←Yj]
   refine wpAny_forIn_list _ (fun rest r s'=>r.1=none/\s'=s/\∃left,All2 (IsK s.heap n) left rest) _ ?_ ?_ _ _ ⟨rfl,rfl,ks,al⟩
   · rintro v rest r s' ⟨hr,rfl,left,hall⟩
     cases hall with
     | cons h1 h2 =>
       refine Qe (zO9 n _ v m A s' _ jc h1 ?_)
       simp only[Yu,Wg,Rp]
       exact Qd ⟨rfl,rfl,_,h2⟩
   · rintro⟨r1,r2⟩ s' ⟨hr,rfl,_⟩
     simp only at hr
     subst hr
     exact Qd h
end
def zVT {h h':Heap}{d:Addr}{o:Obj}{es ep}(ho:h.get? d=some o)(hd:o.data = .dict es ep)(hs:Heap.SameBut d h h')(a:Addr)(j3:jk)(t:h.IsTuple a j3):h'.IsTuple a j3:=by
 obtain⟨o',ho',hc,n,hd'⟩:=t
 have hne:a≠d:=by
   rintro rfl
   rw[ho] at ho';cases ho'
   rw[hd] at hd';cases hd'
 exact⟨o',(hs.2 a hne).trans ho',hc,n,hd'⟩
def zZy (prog:Program)(w:World):HeapKind prog w KT where
 is:=fun h k a=>IsK h 8 k (.ref a)
 hash:=hK 8
 draws:=dK' 8
 room:=fun A=>A.units+8 < cLine
 inj:=fun hx hy=>zUu 8 _ _ _ hx hy
 keeps:=fun x ho hd hs=>zUM (zVT ho hd hs) 8 _ _ x
 pyHash:=fun hu hk h=>zMy 8 _ _ _ _ _ hk hu h
 eqBool:=fun hu hx hy h=>zGd 8 _ _ _ _ _ _ hx hy hu _ _ _ _ h
 quiet:=fun hk h=>zO9 8 _ _ 8 _ _ _ jc hk h
section
variable {X:Cx} {Z:ji} {σ:St} {G H:Hp} {s:Shared}
def zR5 {ds:List D}{ks:List KT}{n:Nat}(f:∀(d:D) (v:V) (u:Value) (k:KT),ktD n d=some k->Rep X.K G d v->RelV v u->IsK s.heap n k u):∀ {ds:List D} {ks:List KT} {vs:List V} {us:jj},zYS (ktD n) ds=some ks->Reps X.K G ds vs->Vals vs us->All2 (IsK s.heap n) ks us
 | [],ks,vs,us,h,r,w=>by
   rw[yR] at r;subst r
   cases h;cases w;exact .nil
 | d::ds,ks,vs,us,h,r,w=>by
   obtain⟨v,vr,rfl,r1,r2⟩:=zB.mp r
   unfold zYS at h
   obtain⟨k,h1,h⟩:=Qw.mp h
   obtain⟨ks',h2,rfl⟩:=Qy.mp h
   cases w with
   | cons w1 w2=>exact .cons (f d v _ k h1 r1 w1) (zR5 (ds:=ds) (ks:=ks') f h2 r2 w2)
def zTO (I:Inv X Z σ H s)(sub:Same G H):∀(n:Nat) (d:D) (v:V) (u:Value) (k:KT),ktD n d=some k->Rep X.K G d v->RelV v u->IsK s.heap n k u:=by
 have leaf:∀(n:Nat) (d:D) (v:V) (u:Value) (k:KT),(∀ds,d ≠ .tup ds)->ktD n d=some k->Rep X.K G d v->RelV v u->IsK s.heap n k u:=fun n d v u k hd h r ru=>by
   cases d with
   | int i =>
     have e:k = .int i:=by cases n<;>(cases h;rfl)
     subst e
     rw[zD] at r;subst r
     obtain⟨t,rfl⟩:=ru
     exact(zRG (fun l z=>by cases z)).mpr (.inl ⟨t,rfl⟩)
   | bl b =>
     have e:k = .int (if b then 1 else 0):=by cases n<;>(cases h;rfl)
     subst e
     rw[vU] at r;subst r
     cases ru
     exact(zRG (fun l z=>by cases z)).mpr (.inr ⟨b,rfl,rfl⟩)
   | tup ds=>exact absurd rfl (hd ds)
   | _=>cases n<;>cases h
 intro n
 induction n with
 | zero =>
   intro d v u k h r ru
   cases d with
   | tup ds=>cases h
   | _=>exact leaf 0 _ v u k (fun _ z=>by cases z) h r ru
 | succ n ih =>
   intro d v u k h r ru
   cases d with
   | tup ds =>
     unfold ktD at h
     obtain⟨ks,h1,rfl⟩:=Qy.mp h
     obtain⟨p,vs,rfl,q1,q2⟩:=y0.mp r
     cases ru
     obtain⟨j6,w1,t1,_⟩:=I.tuple (sub.tup q1)
     exact⟨p,j6.toArray,rfl,t1,zR5 (ds:=ds) (ks:=ks) ih h1 q2 w1⟩
   | _=>exact leaf (n+1) _ v u k (fun _ z=>by cases z) h r ru
def qC:List KT->List Addr->List Value->List (KT×Addr×Value)
 | k::ks,a::as,u::us=>(k,a,u)::qC ks as us
 | _,_,_=>[]
def zXy (P:Program)(w:World):∀(ks:List KT) (as:List Addr) (us:jj),zYx ks as us=(qC ks as us).map (entryOfKey (zZy P w))
 | k::ks,a::as,u::us=>by rw[zYx,qC,Qu,zXy P w ks as us];rfl
 | [],_,_=>by simp[zYx,qC]
 | _::_,[],_=>by simp[zYx,qC]
 | _::_,_::_,[]=>by simp[zYx,qC]
def dC:∀ {ks:List KT} {as:List Addr} {us:jj},ks.length=as.length->ks.length=us.length->(qC ks as us).map (·.1)=ks
 | [],[],[],_,_=>rfl
 | k::ks,a::as,u::us,h1,h2=>by rw[qC,Qu,dC (by simpa using h1) (by simpa using h2)]
 | [],_::_,_,h,_=>by simp at h
 | [],[],_::_,_,h=>by simp at h
 | _::_,[],_,h,_=>by simp at h
 | _::_,_::_,[],_,h=>by simp at h
def zKp {ks:List KT}{as:List Addr}{us:jj}(h1:ks.length=as.length)(h2:ks.length=us.length):(qC ks as us).length=ks.length:=by
 have:=Eo List.length (dC h1 h2)
 rwa[Qt] at this
def zRm:∀ {ks:List KT} {as:List Addr} {us:jj} (k:KT) (a:Addr) (u:Value),ks.length=as.length->ks.length=us.length->qC ks as us++[(k,a,u)]=qC (ks++[k]) (as++[a]) (us++[u])
 | [],[],[],k,a,u,_,_=>rfl
 | k'::ks,a'::as,u'::us,k,a,u,h1,h2=>by
   show(k',a',u')::(qC ks as us++[(k,a,u)])=_
   rw[zRm k a u (by simpa using h1) (by simpa using h2)]
   rfl
 | [],_::_,_,_,_,_,h,_=>by simp at h
 | [],[],_::_,_,_,_,_,h=>by simp at h
 | _::_,[],_,_,_,_,h,_=>by simp at h
 | _::_,_::_,[],_,_,_,_,h=>by simp at h
def ODs.lens {K:jg}:∀ {j8 ks as vs},ODs K G j8 ks as vs->ks.length=as.length/\ks.length=vs.length/\j8.length=ks.length
 | _,_,_,_,.nil=>⟨rfl,rfl,rfl⟩
 | _,_,_,_,.cons _ _ _ h=>by
   obtain⟨a,b,c⟩:=ODs.lens h
   simp only[Qo]
   omega
def ODs.keys {K:jg}:∀ {j8 ks as vs},ODs K G j8 ks as vs->(j8.map fun p=>ktD 8 p.1)=ks.map some
 | _,_,_,_,.nil=>rfl
 | _,_,_,_,.cons h1 _ _ h=>by rw[Qu,Qu,h1,ODs.keys h]
def ODs.snoc {K:jg}{d e:D}{k:KT}{a:Addr}{v:V}(h1:ktD 8 d=some k)(h2:Rep K G d (.ref a))(h3:Rep K G e v):∀ {j8 ks as vs},ODs K G j8 ks as vs->ODs K G (j8++[(d,e)]) (ks++[k]) (as++[a]) (vs++[v])
 | _,_,_,_,.nil=>.cons h1 h2 h3 .nil
 | _,_,_,_,.cons a1 a2 a3 h=>.cons a1 a2 a3 (ODs.snoc h1 h2 h3 h)
def zMP (I:Inv X Z σ H s)(sub:Same G H):∀ {j8 ks as vs} {us:jj},ODs X.K G j8 ks as vs->Vals vs us->∀x∈qC ks as us,IsK s.heap 8 x.1 (.ref x.2.1)
 | _,_,_,_,_,.nil,_=>fun x hx=>by simp[qC] at hx
 | _,_,_,_,_,.cons h1 h2 h3 h,w=>by
   cases w with
   | cons w1 w2 =>
     intro x hx
     rcases Qh.mp hx with rfl | hx
     · exact zTO I sub 8 _ _ _ _ h1 h2 rfl
     · exact zMP I sub h w2 x hx
def zOW (I:Inv X Z σ H s)(sub:Same G H){a:Addr}{j8 ks as vs}(hp:H a=some (.ext (jG a ks as vs)))(od:ODs X.K G j8 ks as vs)(nd:ks.Nodup):∃us,Vals vs us/\ks.length=us.length/\s.heap.DictOfH (zZy X.prog X.w) a (qC ks as us):=by
 obtain⟨⟨us,w,o,es,ep,h1,h2,h3,h4⟩,_⟩:=(show ObjOk X.prog X.w H s.heap a (.ext (jG a ks as vs)) from I.hok a _ hp)
 obtain⟨l1,l2,_⟩:=od.lens
 have l3:ks.length=us.length:=l2.trans w.length
 refine⟨us,w,l3,o,es,ep,h1,h2,h3,?_,zMP I sub od w,?_⟩
 · rw[h4];exact zXy X.prog X.w ks as us
 · rw[dC l1 l3];exact nd
def zP5 {P:Program}{w:World}{H':Hp}{h':Heap}{a:Addr}{ks as}{vs:List V}{us:jj}(hv:Vals vs us){o es ep}(h1:h'.get? a=some o)(h2:o.ExactDict)(h3:o.data = .dict es ep)(h4:es.toList=zYx ks as us):ObjOk P w H' h' a (.ext (jG a ks as vs)) :=
 ⟨⟨us,hv,o,es,ep,h1,h2,h3,h4⟩,⟨o,h1⟩,fun g1 g2 ⟨us,hv,o,es,ep,e1,e2,e3,e4⟩ k=>⟨us,hv,o,es,ep,k o e1,e2,e3,e4⟩⟩
def zWu {ks:List KT}{as:List Addr}{us:jj}(h1:ks.length=as.length)(h2:ks.length=us.length)(k:KT):(atKey (qC ks as us) k).isSome=decide (k∈ks):=by
 unfold atKey
 rw[Option.isSome_map]
 by_cases hm:k∈ks
 · rw[Qp hm,List.find?_isSome]
   rw[←dC h1 h2] at hm
   obtain⟨x,hx,e⟩:=Wj.mp hm
   exact⟨x,hx,Qp e⟩
 · rw[Qb hm]
   cases hf:List.find? (fun x:KT×Addr×Value=>decide (x.1=k)) (qC ks as us) with
   | none=>rfl
   | some x =>
     refine absurd ?_ hm
     rw[←dC h1 h2]
     have hx:=List.find?_some hf
     exact Wj.mpr ⟨x,List.mem_of_find?_eq_some hf,Wn hx⟩
def Paired.upd {α β:Type}{F F':α->β->Prop}{b':β}:∀ {l:List α} {r:List β} (i:Nat),Paired F l r->(∀(j:Nat) (a:α) (b:β),j≠i->l[j]?=some a->r[j]?=some b->F a b->F' a b)->(∀a,l[i]?=some a->F' a b')->Paired F' l (r.set i b')
 | _,_,_,.nil,_,_=>.nil
 | _,_,0,.cons q t,h1,h2=>by
   rw[List.set_cons_zero]
   refine .cons (h2 _ rfl) ?_
   have tl:∀ {l:List α} {r:List β} (n:Nat),Paired F l r->(∀(j:Nat) (a:α) (b:β),l[j]?=some a->r[j]?=some b->F a b->F' a b)->Paired F' l r:=by
     intro l r n p
     induction p with
     | nil=>intro _;exact .nil
     | cons q t ih=>intro h;exact .cons (h 0 _ _ rfl rfl q) (ih fun j a b e1 e2=>h (j+1) a b (by simpa using e1) (by simpa using e2))
   exact tl 0 t fun j a b e1 e2=>h1 (j+1) a b jc (by simpa using e1) (by simpa using e2)
 | _,_,i+1,.cons q t,h1,h2=>by
   rw[List.set_cons_succ]
   exact .cons (h1 0 _ _ jc rfl rfl q) (Paired.upd i t (fun j a b hj e1 e2=>h1 (j+1) a b jc (by simpa using e1) (by simpa using e2)) fun a e=>h2 a (by simpa using e))
def zGA:B->Bool | .od _=>true | _=>false
def zPm (i:Nat)(ρ:List B):Bool:=(List.range ρ.length).all fun j=>j==i || !(zGA (ρ.getD j .no))
def zMt {i j:Nat}{ρ:List B}{b:B}(h:zPm i ρ=true)(hj:j≠i)(e:ρ[j]?=some b):zGA b=false:=by
 unfold zPm at h
 have hl:=(Ww.mp e).1
 have:=Qn.mp h j (Te.mpr hl)
 rw[Wu,e] at this
 simpa [hj] using this
variable {K:jg} {G0 H0:Hp} {ρ:List B}
def Good.dict {i:Nat}{j8:List (D×D)}(g:Good K G0 H0 G H σ ρ)(h:ρ[i]?=some (.od j8)):∃a ks as vs,σ[i]?=some (some (.ref a))/\H a=some (.ext (jG a ks as vs))/\G a=none/\H0 a=none/\ODs K G j8 ks as vs/\ks.Nodup/\(a==sysModules)=false:=by
 obtain⟨o,e,r⟩:=Paired.get g.vals h
 cases r with
 | od h1 h2 h3 h4 h5 h6=>exact⟨_,_,_,_,e,h1,h2,h3,h4,h5,h6⟩
def cG {i j:Nat}{j8:List (D×D)}{ds:List D}(h:(ρ.set i (.od j8))[j]?=some (.ow ds)):j≠i/\ρ[j]?=some (.ow ds):=by
 by_cases e:j=i
 · subst e
   rw[Ih] at h
   split at h
   · split at h<;>cases h
   · rename_i z;exact absurd rfl z
 · rw[Ee (Ne.symm e)] at h
   exact⟨e,h⟩
def Good.setD {a:Addr}{ks as vs}{j8:List (D×D)}(g:Good K G0 H0 G H σ ρ)(i:Nat)(ha:H a=some (.ext (jG a ks as vs)))(ga:G a=none)(h0:H0 a=none)(od:ODs K G j8 ks as vs)(nd:ks.Nodup)(hm:(a==sysModules)=false):Good K G0 H0 G H (σ.set i (some (.ref a))) (ρ.set i (.od j8)):=by
 refine⟨g.st,Paired.set (.od ha ga h0 od nd hm) i g.vals,fun j k b d1 d2 h1 h2 h3 h4=>?_⟩
 obtain⟨n1,e1⟩:=cG h1
 obtain⟨n2,e2⟩:=cG h2
 rw[Ee (Ne.symm n1)] at h3
 rw[Ee (Ne.symm n2)] at h4
 exact g.apart j k b d1 d2 e1 e2 h3 h4
def Good.wrD {a:Addr}{ks as vs}{j8 kvs':List (D×D)}{i:Nat}(g:Good K G0 H0 G H σ ρ)(ho:zPm i ρ=true)(hi:ρ[i]?=some (.od j8))(hs:σ[i]?=some (some (.ref a)))(od:ODs K G kvs' ks as vs)(nd:ks.Nodup) :
   Good K G0 H0 G (upd H a (.ext (jG a ks as vs))) σ (ρ.set i (.od kvs')):=by
 obtain⟨a',ks0,as0,vs0,h1,h2,h3,h4,_,_,hm⟩:=g.dict hi
 rw[hs] at h1;cases h1
 refine⟨⟨fun b o e=>?_,g.st.gg,fun b o e=>?_,g.st.new⟩,?_,fun j k b d1 d2 e1 e2 e3 e4=>?_⟩
 · rw[yL (xH e h4)];exact g.st.hh b o e
 · rw[yL (xH e h3)];exact g.st.sub b o e
 · refine Paired.upd i g.vals (fun j x b hj e1 e2 q=>?_) fun x e=>?_
   · cases q with
     | no=>exact .no
     | fz r=>exact .fz r
     | @ow c us ds c1 c2 c3 c4 =>
       have:c≠a:=fun z=>by rw[z,h2] at c1;cases c1
       exact .ow (by rw[yL this];exact c1) c2 c3 c4
     | od _ _ _ _ _ _=>exact absurd (zMt ho hj e2) (by intro z;cases z)
   · rw[hs] at e;cases e
     exact .od yW h3 h4 od nd hm
 · obtain⟨n1,f1⟩:=cG e1
   obtain⟨n2,f2⟩:=cG e2
   exact g.apart j k b d1 d2 f1 f2 e3 e4
variable {a b c e:Expr} {fa fb:Ef} {pos p p1 p2:Pos} {k:Nat}
def Inv.big' {Z:ji}{σ:St}{H:Hp}{s:Shared}(I:Inv X Z σ H s):sysModules < s.heap.objs.size:=by
 have h:mainGlobals < s.heap.objs.size:=(I.mod.glob.keeps I.bk).lt
 exact Nat.lt_trans jb h
def zGX:TE:=fun _ H Q=>∀p,H p=none->(p==sysModules)=false->Q (.ref p) (upd H p (.ext (jG p [] [] [])))
def zKh:PE X (.Dict [] [] pos) zGX:=fun Z s σ H Q I h =>
 wpAny_Dict_empty ⟨.ref s.heap.objs.size,_,I.laid (a:=s.heap.objs.size) (o:=.ext (jG s.heap.objs.size [] [] [])) (t':=s.toks) (fun _ _ q=>Qr _ q) (Ql _) (zP5 .nil (Qz _ rfl) ⟨rfl,rfl,rfl⟩ rfl rfl),rfl,
   h _ (I.hok.fresh (Ql _)) (Ej.mpr (Ne.symm (Er I.big')))⟩
def zKF (i:Nat):Sf:=fun ρ=>some (.nx (ρ.set i (.od [])))
def zPp (i:Nat){x:Str}{pos':Pos}(hN:X.N.Nodup)(hi:X.N[i]?=some x:=by rfl)(hx:Loc X.env.scope x:=by first | exact .inl rfl | exact .inr rfl)(hs:swapsWith (.Dict [] [] p) (some (.Name x pos')) pos.line X.env=pure false:=by rfl)
   (hf:X.fn x=true∨X.env.scope.names.lookup x=some .local:=by first | exact .inl rfl | exact .inr rfl):PFS X (.Assign [.Name x pos'] (.Dict [] [] p) pos) (zKF i):=by
 refine PS.to (zUs hN hi hx zKh hs hf) ?_
 rintro D σ H ⟨G0,H0,G,ρ,o,j2,hf,k⟩
 cases hf
 intro q hq hm
 have s1:=Step.own (o:=.ext (jG q [] [] [])) j2.st.sub hq
 exact k _ _ G s1.gg ((j2.step s1).setD i yW (j2.st.sub.free hq) (j2.st.hh.free hq) .nil List.nodup_nil hm)
def zHk (hu:X.A.units+10 < cLine):OpR X (compareOp .In) (fun x y H Q=>∃G a b d kt j8 ks as vs,x = .ref b/\y = .ref a/\Same G H/\ktD 8 d=some kt/\Rep X.K G d (.ref b)/\H a=some (.ext (jG a ks as vs))/\ODs X.K G j8 ks as vs/\ks.Nodup/\(a==sysModules)=false/\Q (.bl (decide (kt∈ks))) H):=by
 intro Z s σ H x y v u Q I rx ry ⟨G,a,b,d,kt,j8,ks,as,vs,e1,e2,sub,hk,rd,hp,od,nd,hm,q⟩
 subst e1 e2
 cases rx
 cases ry
 obtain⟨us,hv,hl,dd⟩:=zOW I sub hp od nd
 refine wpAny_in_heap (knd:=zZy X.prog X.w) (show X.A.units+1+8 < cLine by omega) (zTO I sub 8 _ _ _ _ hk rd rfl) hm dd ?_
 rw[zWu od.lens.1 hl]
 exact⟨.bl _,H,I.tok _,rfl,q⟩
def zLx:D->Option KT | .tup ds=>ktD 8 (.tup ds) | _=>none
def zRM {K:jg}{G:Hp}{d:D}{kt:KT}{v:V}(h:zLx d=some kt)(r:Rep K G d v):ktD 8 d=some kt/\∃b,v = .ref b:=by
 cases d with
 | tup ds=>obtain⟨p,vs,rfl,_⟩:=y0.mp r;exact⟨h,p,rfl⟩
 | _=>cases h
def zTP (i:Nat)(fk:Ef):Tf:=fun ρ=>(fk ρ).bind fun d=>(zLx d).bind fun k=>match ρ[i]? with | some (.od j8)=>some (decide (some k∈j8.map fun p=>ktD 8 p.1)) | _=>none
def zLR {K:jg}{G:Hp}{j8 ks as vs}(od:ODs K G j8 ks as vs)(k:KT):decide (some k∈j8.map fun p=>ktD 8 p.1)=decide (k∈ks):=by
 rw[od.keys]
 by_cases h:k∈ks
 · rw[Qp h,Qp (Wj.mpr ⟨k,h,rfl⟩)]
 · rw[Qb h,Qb fun z=>by obtain⟨x,hx,e⟩:=Wj.mp z;cases e;exact h hx]
def zL3 (i:Nat){x:Str}(hr:Room k X.A)(ha:PF X a fa)(hN:X.N[i]?=some x:=by rfl)(hv:Vis X.env.scope x:=by first | exact Or.inl rfl | exact Or.inr (Or.inl rfl) | exact Or.inr (Or.inr rfl))(hd:(x==("__debug__":Str))=false:=by decide)(hcd:(x==("__classdict__":Str))=false:=by decide)
   (hm:behindInMarks .In (.Name x p)=false:=by first | exact zYC _ | (with_unfolding_all rfl)):PFT X (.Compare a [.In] [.Name x p] pos) (zTP i fa):=by
 have hu:=hr.un
 refine PT.to (zZT (zHk jc) ha (pX hN hv hd hcd) hm) ?_
 rintro σ H Q ⟨G0,H0,G,ρ,c,j2,hf,kk⟩
 unfold zTP at hf
 obtain⟨d,h1,hf⟩:=Qw.mp hf
 obtain⟨kt,h2,hf⟩:=Qw.mp hf
 split at hf
 · rename_i j8 hi
   cases hf
   refine⟨G0,H0,G,ρ,_,j2,h1,fun u H1 G1 s1 r1=>?_⟩
   obtain⟨q,ks,as,vs,e1,e2,e3,e4,e5,e6,e7⟩:=(j2.step s1).dict hi
   obtain⟨hk,b,rfl⟩:=zRM h2 r1
   refine⟨.ref q,e1,G1,q,b,d,kt,j8,ks,as,vs,rfl,rfl,s1.sub,hk,r1,e2,e5,e6,e7,_,rfl,?_⟩
   rw[←zLR e5]
   exact kk _ G1 s1
 · cases hf
def zFM (X:Cx):V->V->V->Hp->(Hp->Prop)->Prop:=fun o i v H Q=>∃G a b d kt j8 ks as vs,o = .ref a/\i = .ref b/\Same G H/\ktD 8 d=some kt/\Rep X.K G d (.ref b)/\H a=some (.ext (jG a ks as vs))/\ODs X.K G j8 ks as vs/\ks.Nodup/\kt∉ks/\j8.length<=lim/\Q (upd H a (.ext (jG a (ks++[kt]) (as++[b]) (vs++[v]))))
def zU2:∀ {vs:List V} {us:jj} {v:V} {u:Value},Vals vs us->RelV v u->Vals (vs++[v]) (us++[u])
 | _,_,_,_,.nil,h=>.cons h .nil
 | _,_,_,_,.cons a t,h=>.cons a (zU2 t h)
def zMc (hu:X.A.units+10 < cLine):zHB X (zFM X):=by
 intro Z s σ H o i v ov iv u Q I ro ri rv h
 obtain⟨G,a,b,d,kt,j8,ks,as,vs,rfl,rfl,sub,hk,rd,hp,od,nd,hn,hl,q⟩:=h
 cases ro
 cases ri
 obtain⟨us,hv,hl2,dd⟩:=zOW I sub hp od nd
 obtain⟨l1,l2,l3⟩:=od.lens
 have hz:(qC ks as us).length<=sizeLine:=by rw[zKp l1 hl2];exact Et (uY jc)
 refine wpAny_setItem_heap (knd:=zZy X.prog X.w) (hsz:=hz) (show X.A.units+1+8 < cLine by omega) (zTO I sub 8 _ _ _ _ hk rd rfl) dd fun h' dd' hs=>⟨_,?_,q⟩
 have hnone:atKey (qC ks as us) kt=none:=by
   have:=zWu l1 hl2 kt
   rw[Qb hn] at this
   exact Option.isSome_eq_false_iff.mp this |> fun z=>by simpa using z
 rw[storedH_new hnone,zRm kt b u l1 hl2] at dd'
 obtain⟨o',es,ep,g1,g2,g3,g4,_⟩:=dd'
 refine I.write (x:=a) (e:=a) (by rw[hp];trivial) (.inl rfl) (fun c w' hc z=>(hs.2 c hc).trans z) ⟨o',g1⟩ (zP5 (zU2 hv rv) g1 g2 g3 ?_)
 rw[g4];exact(zXy X.prog X.w _ _ _).symm
def zYt (i:Nat)(fk fv:Ef):Sf:=fun ρ=>(fv ρ).bind fun e=>(fk ρ).bind fun d=>(zLx d).bind fun k=>match ρ[i]? with
 | some (.od j8)=>if j8.length<=lim/\zPm i ρ=true/\some k∉j8.map (fun p=>ktD 8 p.1) then some (.nx (ρ.set i (.od (j8++[(d,e)])))) else none
 | _=>none
def zOP (i:Nat){x:Str}(hr:Room k X.A)(he:PF X e fa)(hb:PF X b fb)(hN:X.N[i]?=some x:=by rfl)(hv:Vis X.env.scope x:=by first | exact Or.inl rfl | exact Or.inr (Or.inl rfl) | exact Or.inr (Or.inr rfl))(hd:(x==("__debug__":Str))=false:=by decide)(hcd:(x==("__classdict__":Str))=false:=by decide)
   (ha:∀v,assign (.Subscript (.Name x p1) b p2) X.env v=(do
     let ov ←holding [v] (eval (.Name x p1) X.env)
     let iv ←holding [v,ov] (eval b X.env)
     standAt p2
     holding [v,ov,iv] (setItem ov iv v)
     release [v,ov,iv] []):=by intro _;rfl)
   (hs:swapsWithSole [.Subscript (.Name x p1) b p2] e pos.line X.env=pure false:=by rfl) (hw:swappedStores [.Subscript (.Name x p1) b p2] e X.env=pure none:=by rfl)
   (h1:(assignEach [.Subscript (.Name x p1) b p2] X.env).map (·.2)=[assign (.Subscript (.Name x p1) b p2) X.env]:=by rfl):PFS X (.Assign [.Subscript (.Name x p1) b p2] e pos) (zYt i fb fa):=by
 have hu:=hr.un
 refine PS.to (zQm he (zMz (pX hN hv hd hcd) hb (zMc jc) ha) hs hw h1) ?_
 rintro D σ H ⟨G0,H0,G,ρ,o,j2,hf,kk⟩
 unfold zYt at hf
 obtain⟨de,g1,hf⟩:=Qw.mp hf
 obtain⟨d,g2,hf⟩:=Qw.mp hf
 obtain⟨kt,g3,hf⟩:=Qw.mp hf
 split at hf
 · rename_i j8 hi
   split at hf
   · rename_i hc
     obtain⟨hl,ho,hn⟩:=hc
     cases hf
     refine⟨G0,H0,G,ρ,_,j2,g1,fun v H1 G1 s1 r1=>?_⟩
     obtain⟨q,ks,as,vs,e1,e2,e3,e4,e5,e6,e7⟩:=(j2.step s1).dict hi
     refine⟨.ref q,e1,G0,H0,G1,ρ,_,j2.step s1,g2,fun u H2 G2 s2 r2=>?_⟩
     obtain⟨q',ks',as',vs',f1,f2,f3,f4,f5,f6,f7⟩:=((j2.step s1).step s2).dict hi
     rw[e1] at f1;cases f1
     obtain⟨hk,b',rfl⟩:=zRM g3 r2
     have hnk:kt∉ks':=fun z=>hn (by rw[f5.keys];exact Wj.mpr ⟨kt,z,rfl⟩)
     refine⟨G2,q,b',d,kt,j8,ks',as',vs',rfl,rfl,s2.sub,hk,r2,f2,f5,f6,hnk,hl,?_⟩
     refine kk _ _ G2 (s1.gg.trans s2.gg) (((j2.step s1).step s2).wrD ho hi e1 (f5.snoc hk r2 (r1.mono s2.gg)) ?_)
     exact Tp.mpr ⟨f6,jd,fun x hx y hy=>by rw[Wm] at hy;subst hy;intro z;exact hnk (z ▸ hx)⟩
   · cases hf
 · cases hf
end
section
variable {prog:Program} {w:World} {A:Around} {E:jh} {s:Shared}
def zTD {id:String}{b:Builtin}{args:jj}{kw:List (Str×Value)}{Q:jh}(hk:builtinKind id=none)(hp:plainId id=true)
   (hb:entryFor table id=some b) (ha:argsOk id ⟨args,kw⟩)
   (hc:wpAny (model prog w) A.in1 (b ⟨args,kw⟩) (fun fin s'=>match fin with
     | .done f=>(match (Except.ok f:Result) with | .ok (.ret v)=>Q v s' | .ok _=>False | .error e=>E e s')
     | .again c'=>c'.quiet=true/\codeAny (model prog w) A c' (fun r s'=>match r with | .ok (.ret v)=>Q v s' | .ok _=>False | .error e=>E e s') s') E s) :
   wpAny (model prog w) A (call (.builtin id) args kw) Q E s:=by
 refine wpAny_call (codeAny_call_builtin hp hb ?_)
 simp only[checkBuiltinCall,hk]
 cases hsig:Manifest.signature? id with
 | none=>exact Qd hc
 | some sig =>
   have h2:Bind.checkArgs id sig ⟨args,kw⟩=pure ():=by simpa only [argsOk,hsig] using ha
   show wpAny _ A.in1 (Bind.checkArgs id sig ⟨args,kw⟩) _ _ s
   rw[h2];exact Qd hc
theorem zO8 (a d:Value):argsOk "min" ⟨[a],[("default",d)]⟩:=by unfold argsOk;kernel_rfl
def zJF {l:Addr}{d:Value}{Q:jh}(hh:A.handled=none)(hl:s.heap.IsList l #[])(h:∀h' tk,(∀b o,s.heap.get? b=some o->h'.get? b=some o)->Q d { s with heap:=h',toks:=tk }) :
   wpAny (model prog w) A (call (.builtin "min") [.ref l] [("default",d)]) Q E s:=by
 have hname:(toString "min"++toString ".loop":String)="min.loop":=jb
 refine zTD F.kind_min F.plain_min F.entry_min (zO8 _ _) ?_
 show wpAny _ A.in1 (Builtin.Builtins.bindParams "min" ["key","default"] 0 ⟨[],[("default",d)]⟩ >>= _) _ _ s
 refine Qe (wpAny_of_eq (show Builtin.Builtins.bindParams "min" ["key","default"] 0 ⟨[],[("default",d)]⟩=pure [none,some d] from rfl) ?_)
 refine Qe (Qd ?_)
 refine Qe (Yz hl ?_)
 refine Qe (Em ?_)
 rw[hname]
 have hne:l≠s.heap.objs.size:=by obtain⟨_,e,_⟩:=hl;exact Er (Qs e)
 refine Qd ⟨Rm F.plain_min_loop _,Rb F.entry_min_loop ?_⟩
 rw[Rw F.plain_min_loop _]
 show wpAny _ A.in1 (seqItems? (.ref _) >>= _) _ _ _
 refine Qe (Ec (Qz _ rfl) rfl ?_)
 have W:=Walks.list (prog:=prog) (w:=w) (A:=A.in1) hh s.heap.objs.size l hne #[]
 refine Qe (wpAny_tryCatch (W.done _ _ _ ⟨⟨_,Qr _ (Qz _ rfl),rfl,rfl⟩,(hl.push _).push _⟩ fun h' tk hk=>?_))
 refine Qe (Uz ?_)
 refine Qd (h h' tk fun b o e=>hk b o ?_ (Qr _ (Qr _ e)))
 intro hm
 rcases Qh.mp hm with z | z
 · exact absurd (z ▸ Qs e) (Wk _)
 · cases z
variable {X:Cx} {a:Expr} {ga:Lf} {pos p:Pos}
def zR0 (g:Lf):Ef:=fun ρ=>(g ρ).bind fun ds=>if ds.isEmpty=true then some .non else none
def zK5 {kp:Pos}{j}{p2:Pos}(hc:X.calm=true)(hg:Gl X "min")(hm:X.mg "min"=none)(h:zTp X a ga)(hs:starEach [a] X.env=[(false,eval a X.env)]:=by rfl) :
   PF X (.Call (.Name "min" p) [a] [⟨some "default",.Constant .none j p2,kp⟩] pos) (zR0 ga):=by
 refine PE.to (t:=fun σ H Q=>zKa X.K ga σ H fun v H1=>∃q,v = .ref q/\SqL X.K H1 q []/\Q .non H1) ?_ ?_
 · intro Z s σ H Q I h0
   refine Tj (oA I hg hm (u:=.builtin "min") jf ?_ jb jb)
   refine callWith_kw ?_ (by rw[hs];rfl) (by rw[hs];rfl) jf jf
   refine spliced_more (thn (h Z s σ H _ I h0) fun u s1 ⟨v,H1,I1,rv,q,e,sq,q1⟩=>?_) (by rw[hs];rfl)
   subst e
   cases rv
   refine spliced_none ?_
   refine kws_cons (thn (zLY (X:=X) (j:=j) (pos:=p2) Z s1 σ H1 _ I1 (show tC .non σ H1 (fun v H2=>v = .non/\H2=H1) from⟨rfl,rfl⟩)) fun u2 s2 ⟨v2,H2,I2,rv2,e2,e3⟩=>?_)
   subst e2 e3
   cases rv2
   refine kws_nil ?_
   obtain⟨j6,rl,pl,_⟩:=I2.list sq
   cases rl
   exact zJF (I2.ok.hd hc) pl.isList fun h' tk hk=>⟨.non,H2,I2.kept hk,rfl,q1⟩
 · rintro σ H Q ⟨G0,H0,G,ρ,d,j2,hf,k⟩
   unfold zR0 at hf
   obtain⟨ds,h1,hf⟩:=Qw.mp hf
   split at hf
   · rename_i he
     cases hf
     refine⟨G0,H0,G,ρ,ds,j2,h1,fun q vs H1 G1 s1 e1 r1=>⟨q,rfl,?_,k _ _ G1 s1 (tY.mpr rfl)⟩⟩
     have:ds=[]:=by simpa using he
     subst this
     rw[yR] at r1;subst r1
     exact s1.sub.seq e1
   · cases hf
end
mutual
def zFu:D->Bool
 | .non=>true
 | .bl _=>true
 | .int _=>true
 | .str _=>true
 | .tup ds=>zIV ds
 | _=>false
def zIV:List D->Bool
 | []=>true
 | d::r=>zFu d&&zIV r
end
def zNh (G:Hp)(p:Addr):Hp:=fun a=>if a=p then none else G a
def kJ {G:Hp}{p a:Addr}(h:a≠p):zNh G p a=G a:=Wh h
def zVx {G:Hp}{p:Addr}:zNh G p p=none:=Qv rfl
def SqT.out {K:jg}{G:Hp}{p a:Addr}{us vs:List V}(hp:G p=some (.lst us))(h:SqT K G a vs):SqT K (zNh G p) a vs:=by
 rcases h with(h | ⟨o,h⟩) | h
 · exact .inl (.inl (by rw[kJ (fun z=>by rw[z,hp] at h;cases h)];exact h))
 · exact .inl (.inr ⟨o,by rw[kJ (fun z=>by rw[z,hp] at h;cases h)];exact h⟩)
 · exact .inr h
def Step.back {G H G1 H':Hp}{p:Addr}{us:List V}(s:Step (upd G p (.lst us)) H G1 H')(hG:G p=none)(hH:H p=some (.lst us)):Step G H (zNh G1 p) H'/\G1 p=some (.lst us):=by
 refine⟨⟨s.hh,fun b u e=>?_,fun b u e=>?_,fun a ha=>?_⟩,s.gg p _ yW⟩
 · have hb:b≠p:=fun z=>by rw[z,hG] at e;cases e
   rw[kJ hb]
   exact s.gg b u (by rw[yL hb];exact e)
 · by_cases hb:b=p
   · rw[hb,zVx] at e;cases e
   · rw[kJ hb] at e;exact s.sub b u e
 · by_cases hb:a=p
   · rw[hb,zVx,hG]
   · rw[kJ hb,s.new a ha,yL hb]
abbrev Jf:=List B->Option Str
end L2
namespace L2
open PySem PySem.Spec PyProof.Rows
open PySem.Builtin PySem.Builtin.Str
def zUE:∀l:List (Str×Tok),Vals ((l.map (·.1)).map V.str) (strValues l)
 | []=>.nil
 | (x,t)::r=>.cons ⟨t,rfl⟩ (zUE r)
section
variable {X:Cx} {e c:Expr} {fa fb:Ef} {p:Pos}
def zL4:V->List V->Hp->VK->Prop:=fun x vs H Q=>∃z y,x = .str z/\vs=[.str y]/\1<=y.length/\z.length<=100000/\∀p,H p=none->Q (.ref p) (upd H p (.lst ((Txt.split z y).map V.str)))
def zXm:MtR X "str.split" zL4:=by
 intro Z s σ H x xs v us Q I rx rv h
 obtain⟨z,y,rfl,rfl,hy1,hz,q⟩:=h
 obtain⟨t,rfl⟩:=rx
 obtain⟨w,rfl,u,rfl⟩:=rv.one
 have hy:(y.length==0)=false:=by rw[Ej];omega
 have hsl:sizeLine=sizeLine:=rfl
 have j5:=split_le z y
 have go:∀(l:List (Str×Tok)) (k:Nat),l.map (·.1)=Txt.split z y->EP X Z σ Q (.ref s.heap.objs.size) { s with toks:=k,heap:=s.heap.push { cls:=.type "list",data:=.seq (strValues l).toArray } }:=by
   intro l k hl
   refine⟨.ref s.heap.objs.size,_,I.laid (o:=.lst ((Txt.split z y).map V.str)) (fun b o e=>Qr _ e) (Ql _) ?_,rfl,q _ I.fresh⟩
   exact⟨by rw[Qt,Yv];omega,_,_,by rw[←hl];exact zUE l,Qz _ rfl⟩
 have hn:(partsBetween z (occurrences z y 0 z.length (z.length+1)) y.length).length<=sizeLine:=by
   have e1:=StrLaws.occ_length_le z y 0 z.length (z.length+1)
   rw[length_partsBetween,Yv];omega
 cases h1:(decide (z.length < y.length)||decide (strKind z < strKind y))
 · cases hf:(occurrences z y 0 z.length (z.length+1)).isEmpty
   · refine Yi F.slot_str_split (Ul _ _ _) F.entry_str_split (F.args_str_split_2 _ _) (meets_str_split_sep z y t u h1 hy hf (by rw[Yv];omega) hn) ?_
     show wants _ _ _ { s with toks:=_,heap:=s.heap.push { cls:=.type "list",data:=.seq (strsFrom s.toks (partsBetween z (occurrences z y 0 z.length (z.length+1)) y.length)).toArray } }
     rw[strsFrom_eq]
     exact go (PySem.numbered s.toks _) _ ((numbered_texts _ _).trans ((Wh (Iw h1)).trans (Wh (Iw hf))).symm)
   · exact Yi F.slot_str_split (Ul _ _ _) F.entry_str_split (F.args_str_split_2 _ _) (meets_str_split_not_found z y t u h1 hy hf) (go [(z,t)] s.toks ((Wh (Iw h1)).trans (Qv hf)).symm)
 · exact Yi F.slot_str_split (Ul _ _ _) F.entry_str_split (F.args_str_split_2 _ _) (meets_str_split_cannot_occur z y t u h1) (go [(z,t)] s.toks (Qv h1).symm)
def zUL {K:jg}{G:Hp}:∀ys:List Str,Reps K G (ys.map D.str) (ys.map V.str)
 | []=>by rw[Wz,Wz,yR]
 | y::r=>by rw[Qu,Qu];exact zB.mpr ⟨_,_,rfl,yG.mpr rfl,zUL r⟩
def kD (x y:D):Option (List D):=match x,y with | .str z,.str m=>if 1<=m.length/\z.length<=100000 then some ((Txt.split z m).map D.str) else none | _,_=>none
def hV (fa fb:Ef):Lf:=fun ρ=>(fa ρ).bind fun x=>(fb ρ).bind fun y=>kD x y
def zXc (ht:PE X c (tBM X.K "str" zL4 (tF X.K fa) (zWw (tF X.K fb) zQR))):PFr X c (hV fa fb):=by
 refine PE.toR ht ?_
 rintro σ H Q ⟨G0,H0,G,ρ,d,j2,hf,k⟩
 unfold hV at hf
 obtain⟨x,h1,hf⟩:=Qw.mp hf
 obtain⟨y,h2,hf⟩:=Qw.mp hf
 unfold kD at hf
 split at hf
 · split at hf
   · rename_i hz
     cases hf
     refine⟨G0,H0,G,ρ,_,j2,h1,fun u H1 G1 s1 r1=>?_⟩
     have r1:=yG.mp r1
     subst r1
     refine⟨rfl,G0,H0,G1,ρ,_,j2.step s1,h2,fun v H2 G2 s2 r2=>?_⟩
     have r2:=yG.mp r2
     subst r2
     refine⟨_,_,rfl,rfl,hz.1,hz.2,fun l hl=>?_⟩
     exact k l _ _ G2 ((s1.trans s2).trans (Step.own s2.sub hl)) ((s1.trans s2).hh.free hl) yW (s2.sub.free hl) (zUL _)
   · cases hf
 · cases hf
end
def zUR {c:Nat}:∀ {x x' r r':List Nat},c∉x->c∉x'->x++c::r=x'++c::r'->x=x'/\r=r'
 | [],[],_,_,_,_,h=>⟨rfl,(Iu h).2⟩
 | [],b::x',_,_,_,h2,h=>absurd (by rw[(Iu h).1];exact Qf) h2
 | a::x,[],_,_,h1,_,h=>absurd (by rw[←(Iu h).1];exact Qf) h1
 | a::x,b::x',_,_,h1,h2,h=>by
   obtain⟨e1,e2⟩:=Iu h
   obtain⟨e3,e4⟩:=zUR (fun z=>h1 (Qa _ z)) (fun z=>h2 (Qa _ z)) e2
   exact⟨by rw[e1,e3],e4⟩
def wA (c:Nat)(y:Str):Prop:=c∉y.cps.toList
def qB (c:Nat)(x y:Str)(r:List Str):(Str.join ⟨#[c]⟩ (x::y::r)).cps.toList=x.cps.toList++c::(Str.join ⟨#[c]⟩ (y::r)).cps.toList:=by
 show(x++⟨#[c]⟩++Str.join ⟨#[c]⟩ (y::r)).cps.toList=_
 rw[Str.cps_append,Str.cps_append]
 simp
def bR {c:Nat}{x:Str}{z y:Str}{r:List Str}(hx:wA c x):x≠Str.join ⟨#[c]⟩ (z::y::r):=fun e=>by
 have:=Eo (fun q:Str=>q.cps.toList) e
 rw[qB] at this
 exact hx (by rw[this];simp)
def zSn {c:Nat}:∀ {xs ys:List Str},(∀x∈xs,wA c x)->(∀y∈ys,wA c y)->xs≠[]->ys≠[]->Str.join ⟨#[c]⟩ xs=Str.join ⟨#[c]⟩ ys->xs=ys
 | [],_,_,_,h,_,_=>absurd rfl h
 | _,[],_,_,_,h,_=>absurd rfl h
 | [x],[y],_,_,_,_,h=>by rw[show x=y from h]
 | [x],y::z::r,hx,_,_,_,h=>absurd h (bR (hx x Qf))
 | x::z::r,[y],_,hy,_,_,h=>absurd h.symm (bR (hy y Qf))
 | x::z::r,y::w::q,hx,hy,_,_,h=>by
   have e:=Eo (fun q:Str=>q.cps.toList) h
   rw[qB,qB] at e
   obtain⟨e1,e2⟩:=zUR (hx x Qf) (hy y Qf) e
   have e3:x=y:=by cases x;cases y;simp at e1;rw[e1]
   have e4:Str.join ⟨#[c]⟩ (z::r)=Str.join ⟨#[c]⟩ (w::q):=by
     generalize Str.join ⟨#[c]⟩ (z::r)=u at e2
     generalize Str.join ⟨#[c]⟩ (w::q)=v at e2
     cases u;cases v;simp at e2;rw[e2]
   rw[e3,zSn (fun x h=>hx x (Qa _ h)) (fun x h=>hy x (Qa _ h)) (Tw _ _) (Tw _ _) e4]
def pH (c:Nat)(ys:List Str)(hy:∀y∈ys,wA c y)(hn:ys≠[]):Txt.split (Str.join ⟨#[c]⟩ ys) ⟨#[c]⟩=ys:=by
 refine zSn (fun x hx=>StrLaws.split_free _ c x hx) hy (fun z=>?_) hn (StrLaws.join_split _ _)
 have:=split_pos (Str.join ⟨#[c]⟩ ys) ⟨#[c]⟩
 rw[z] at this
 simp at this
end L2
namespace L2
open PySem PySem.Spec PyProof.Rows
open PySem.Builtin PySem.Builtin.Str
end L2
namespace L2
open PySem PySem.Spec PyProof.Rows
def lR:Value->Option D
 | .none=>some .non
 | .bool b=>some (.bl b)
 | .int i _=>some (.int i)
 | .str x _=>some (.str x)
 | _=>none
def zSc {u:Value}{d:D}(h:lR u=some d):∃v,RelV v u/\∀K G,Rep K G d v:=by
 cases u<;>first | cases h | skip
 · exact⟨.non,rfl,fun _ _=>tY.mpr rfl⟩
 · exact⟨.bl _,rfl,fun _ _=>vU.mpr rfl⟩
 · exact⟨.int _,⟨_,rfl⟩,fun _ _=>zD.mpr rfl⟩
 · exact⟨.str _,⟨_,rfl⟩,fun _ _=>yG.mpr rfl⟩
def zY2 (P:Params)(l:List (Str×Tok×Value)):List DictEntry:=l.map fun p=>⟨PyData.keyHash P p.1,.str p.1 p.2.1,p.2.2⟩
def kvC (l:List (Str×Tok×Value)):List (Str×D):=l.map fun p=>(p.1,(lR p.2.2).getD .non)
structure DictC (w:World)(K:jg)(a:Addr)(j8:List (Str×D)):Prop where
 sys:(a==sysModules)=false
 at':∃(l:List (Str×Tok×Value)) (n:Nat),K.lookup a=some ⟨.type "dict",none,.dict (zY2 w.params l).toArray n,#[]⟩/\j8=kvC l/\(l.all fun p=>(lR p.2.2).isSome)=true
def zT2 {P:Params}:∀l:List (Str×Tok×Value),PySem.W.KeysLit P (zY2 P l)
 | []=>trivial
 | (x,t,v)::r=>⟨⟨x,t,rfl,rfl⟩,zT2 r⟩
def zLD {P:Params}(x:Str):∀l:List (Str×Tok×Value),(l.all fun p=>(lR p.2.2).isSome)=true ->
   match (kvC l).lookup x with
   | some d=>∃u,findBy Value.isStrOf (zY2 P l).toArray x=some u/\lR u=some d
   | none=>findBy Value.isStrOf (zY2 P l).toArray x=none
 | [],_=>rfl
 | (y,t,v)::r,h=>by
   have h':=Wy.mp (by simpa using h:((lR v).isSome&&(r.all fun p=>(lR p.2.2).isSome))=true)
   have ih:=zLD (P:=P) x r h'.2
   show match ((y,(lR v).getD .non)::kvC r).lookup x with | some d=>_ | none=>_
   unfold findBy at ih ⊢
   rw[Ii] at ih ⊢
   show match ((y,(lR v).getD .non)::kvC r).lookup x with
     | some d=>∃u,(((⟨PyData.keyHash P y,.str y t,v⟩:DictEntry)::zY2 P r).find? fun e=>Value.isStrOf x e.key).map (·.val)=some u/\lR u=some d
     | none=>(((⟨PyData.keyHash P y,.str y t,v⟩:DictEntry)::zY2 P r).find? fun e=>Value.isStrOf x e.key).map (·.val)=none
   by_cases e:y=x
   · subst e
     have q:Value.isStrOf y (.str y t)=true:=Rh y
     rw[Ed,Rh,Tv]
     rw[show(Value.isStrOf y (⟨PyData.keyHash P y,.str y t,v⟩:DictEntry).key)=true from q]
     obtain⟨d,hd⟩:=Eb.mp h'.1
     exact⟨v,rfl,by rw[hd];rfl⟩
   · have q:Value.isStrOf x (.str y t)=false:=Ej.mpr e
     have q2:(x==y)=false:=Ej.mpr (Ne.symm e)
     rw[Ed,q2,Tv,show(Value.isStrOf x (⟨PyData.keyHash P y,.str y t,v⟩:DictEntry).key)=false from q]
     exact ih
section
variable {X:Cx} {a b:Expr} {fa fb:Ef} {pos p:Pos} {x:Str} {da:Addr} {j8:List (Str×D)}
variable {Z:ji} {σ:St} {H:Hp} {s:Shared}
def DictC.map (h:DictC X.w X.K da j8)(I:Inv X Z σ H s):∃f:Str->Option Value,s.heap.MapOf (strKind X.prog X.w) da f/\∀y,match j8.lookup y with | some d=>∃u,f y=some u/\lR u=some d | none=>f y=none:=by
 obtain⟨l,n,h1,h2,h3⟩:=h.at'
 subst h2
 exact⟨_,PySem.W.mapOf_K I.kIn h1 (by simpa using zT2 l),fun y=>zLD y l h3⟩
def zHP (X:Cx)(j8:List (Str×D))(da:Addr)(c:Bool):R2:=fun v y H Q=>∃z,v = .str z/\y = .ref da/\Q (.bl (c==(j8.lookup z).isSome)) H
def zOz (h:DictC X.w X.K da j8):OpR X (compareOp .NotIn) (zHP X j8 da false):=by
 intro Z s σ H x y v u Q I rx ry ⟨z,e1,e2,q⟩
 subst e1 e2
 obtain⟨t,rfl⟩:=rx
 cases ry
 obtain⟨f,hm,hf⟩:=h.map I
 refine wpAny_notIn_of (strKind_is X.prog X.w z t) h.sys hm ?_
 have e:(!(f z).isSome)=(false==(j8.lookup z).isSome):=by
   have:=hf z
   cases hk:j8.lookup z with
   | none=>rw[hk] at this;rw[this];rfl
   | some d=>rw[hk] at this;obtain⟨u,hu,_⟩:=this;rw[hu];rfl
 rw[e]
 exact⟨.bl _,H,I.tok _,rfl,q⟩
def zSV (c:Bool)(j8:List (Str×D))(fa:Ef):Tf:=fun ρ=>(fa ρ).bind fun d=>match d with | .str z=>some (c==(j8.lookup z).isSome) | _=>none
def zLj {c:Bool}{σ:St}{H:Hp}{Q:Bool->Hp->Prop}(q:tFT X.K (zSV c j8 fa) σ H Q):zII (tOp (zHP X j8 da c) (tF X.K fa) (tC (.ref da))) σ H Q:=by
 obtain⟨G0,H0,G,ρ,c',j2,hf,kk⟩:=q
 unfold zSV at hf
 obtain⟨d,h1,hf⟩:=Qw.mp hf
 split at hf
 · rename_i z
   cases hf
   refine⟨G0,H0,G,ρ,_,j2,h1,fun u H1 G1 s1 r1=>?_⟩
   exact⟨z,yG.mp r1,rfl,_,rfl,kk _ G1 s1⟩
 · cases hf
def zUW (h:DictC X.w X.K da j8)(hg:Gl X x)(hx:X.mg x=some (.ref da))(ha:PF X a fa)(hd:(x==("__debug__":Str))=false:=by decide)
   (hm:behindInMarks .NotIn (.Name x p)=false:=by first | exact zYC _ | (with_unfolding_all rfl)):PFT X (.Compare a [.NotIn] [.Name x p] pos) (zSV false j8 fa) :=
 PT.to (zZT (zOz h) ha (gM (v:=.ref da) hg hx rfl hd) hm) fun _ _ _=>zLj
def zHg (X:Cx)(j8:List (Str×D))(da:Addr):R2:=fun v y H Q=>∃z d,v = .ref da/\y = .str z/\j8.lookup z=some d/\∀o,(∀G,Rep X.K G d o)->Q o H
def zFC (h:DictC X.w X.K da j8):IxR X (zHg X j8 da):=by
 intro value slice Z s σ H x y v u Q I rx ry ⟨z,d,e1,e2,e3,q⟩ hs
 subst e1 e2
 cases rx
 obtain⟨t,rfl⟩:=ry
 obtain⟨f,hm,hf⟩:=h.map I
 have:=hf z
 rw[e3] at this
 obtain⟨u,hu,hd⟩:=this
 obtain⟨o,ro,rep⟩:=zSc hd
 exact Oi hm.typeIs slot_dict_getitem.lookup (Oe (strKind_is X.prog X.w z t) hm hu ⟨o,H,I.tok _,ro,q o fun G=>rep _ G⟩) hs
def zZU (j8:List (Str×D))(fb:Ef):Ef:=fun ρ=>(fb ρ).bind fun d=>match d with | .str z=>j8.lookup z | _=>none
def zLt (h:DictC X.w X.K da j8)(hg:Gl X x)(hx:X.mg x=some (.ref da))(hb:PF X b fb)(hd:(x==("__debug__":Str))=false:=by decide)(hs:cH b:=by exact fun _ _=>rfl):PF X (.Subscript (.Name x p) b pos) (zZU j8 fb):=by
 refine PE.to (zRv (zFC h) (gM (v:=.ref da) hg hx rfl hd) hb hs) ?_
 rintro σ H Q ⟨G0,H0,G,ρ,d,j2,hf,k⟩
 unfold zZU at hf
 obtain⟨y,h1,hf⟩:=Qw.mp hf
 split at hf
 · rename_i z
   refine⟨G0,H0,G,ρ,_,j2,h1,fun u H1 G1 s1 r1=>⟨z,d,rfl,yG.mp r1,hf,fun o ho=>k _ _ G1 s1 (ho _)⟩⟩
 · cases hf
def zRB {w:World}{K:jg}{n:Nat}(l:List (Str×Tok×Value))(h:K.lookup da=some ⟨.type "dict",none,.dict (zY2 w.params l).toArray n,#[]⟩)(hs:(da==sysModules)=false)(hl:(l.all fun p=>(lR p.2.2).isSome)=true:=by rfl):DictC w K da (kvC l) :=
 ⟨hs,l,n,h,rfl,hl⟩
end
def zTy (l:List (Int×Tok×Value)):List DictEntry:=l.map fun p=>⟨hashInt p.1,.int p.1 p.2.1,p.2.2⟩
def kvN (l:List (Int×Tok×Value)):List (Int×D):=l.map fun p=>(p.1,(lR p.2.2).getD .non)
structure DictN (K:jg)(a:Addr)(j8:List (Int×D)):Prop where
 at':∃(l:List (Int×Tok×Value)) (n:Nat),K.lookup a=some ⟨.type "dict",none,.dict (zTy l).toArray n,#[]⟩/\j8=kvN l/\(l.all fun p=>(lR p.2.2).isSome)=true
def zLn (x:Int):∀l:List (Int×Tok×Value),(l.all fun p=>(lR p.2.2).isSome)=true ->
   match (kvN l).lookup x with
   | some d=>∃u,findBy Value.isInt (zTy l).toArray x=some u/\lR u=some d
   | none=>findBy Value.isInt (zTy l).toArray x=none
 | [],_=>rfl
 | (y,t,v)::r,h=>by
   have h':=Wy.mp (by simpa using h:((lR v).isSome&&(r.all fun p=>(lR p.2.2).isSome))=true)
   have ih:=zLn x r h'.2
   show match ((y,(lR v).getD .non)::kvN r).lookup x with | some d=>_ | none=>_
   unfold findBy at ih ⊢
   rw[Ii] at ih ⊢
   show match ((y,(lR v).getD .non)::kvN r).lookup x with
     | some d=>∃u,(((⟨hashInt y,.int y t,v⟩:DictEntry)::zTy r).find? fun e=>Value.isInt x e.key).map (·.val)=some u/\lR u=some d
     | none=>(((⟨hashInt y,.int y t,v⟩:DictEntry)::zTy r).find? fun e=>Value.isInt x e.key).map (·.val)=none
   by_cases e:y=x
   · subst e
     have q:Value.isInt y (.int y t)=true:=by simp[Value.isInt]
     rw[Ed,Rh,Tv]
     rw[show(Value.isInt y (⟨hashInt y,.int y t,v⟩:DictEntry).key)=true from q]
     obtain⟨d,hd⟩:=Eb.mp h'.1
     exact⟨v,rfl,by rw[hd];rfl⟩
   · have q:Value.isInt x (.int y t)=false:=by simp[Value.isInt];omega
     have q2:(x==y)=false:=Ej.mpr (Ne.symm e)
     rw[Ed,q2,Tv,show(Value.isInt x (⟨hashInt y,.int y t,v⟩:DictEntry).key)=false from q]
     exact ih
section
variable {X:Cx} {b:Expr} {fb:Ef} {pos p:Pos} {x:Str} {da:Addr} {j8:List (Int×D)}
variable {Z:ji} {σ:St} {H:Hp} {s:Shared}
def DictN.map (h:DictN X.K da j8)(I:Inv X Z σ H s):∃f:Int->Option Value,s.heap.MapOf (intKind X.prog X.w) da f/\∀y,match j8.lookup y with | some d=>∃u,f y=some u/\lR u=some d | none=>f y=none:=by
 obtain⟨l,n,h1,h2,h3⟩:=h.at'
 subst h2
 refine⟨fun k=>findBy Value.isInt (zTy l).toArray k,⟨_,(zTy l).toArray,n,I.kIn _ _ h1,⟨rfl,rfl,rfl⟩,rfl,fun e he=>?_,fun _=>rfl⟩,fun y=>zLn y l h3⟩
 have he':e∈zTy l:=by simpa using he
 obtain⟨q,_,rfl⟩:=Wj.mp he'
 exact⟨q.1,intKind_is X.prog X.w q.1 q.2.1,rfl⟩
def zFD (X:Cx)(j8:List (Int×D))(da:Addr):R2:=fun v y H Q=>∃z d,v = .ref da/\y = .int z/\j8.lookup z=some d/\∀o,(∀G,Rep X.K G d o)->Q o H
def zFH (h:DictN X.K da j8):IxR X (zFD X j8 da):=by
 intro value slice Z s σ H x y v u Q I rx ry ⟨z,d,e1,e2,e3,q⟩ hs
 subst e1 e2
 cases rx
 obtain⟨t,rfl⟩:=ry
 obtain⟨f,hm,hf⟩:=h.map I
 have:=hf z
 rw[e3] at this
 obtain⟨u,hu,hd⟩:=this
 obtain⟨o,ro,rep⟩:=zSc hd
 exact Oi hm.typeIs slot_dict_getitem.lookup (Oe (intKind_is X.prog X.w z t) hm hu ⟨o,H,I.tok _,ro,q o fun G=>rep _ G⟩) hs
def zH7 (j8:List (Int×D))(fb:Ef):Ef:=fun ρ=>(fb ρ).bind fun d=>match d with | .int z=>j8.lookup z | _=>none
def zHs (h:DictN X.K da j8)(hg:Gl X x)(hx:X.mg x=some (.ref da))(hb:PF X b fb)(hd:(x==("__debug__":Str))=false:=by decide)(hs:cH b:=by exact fun _ _=>rfl):PF X (.Subscript (.Name x p) b pos) (zH7 j8 fb):=by
 refine PE.to (zRv (zFH h) (gM (v:=.ref da) hg hx rfl hd) hb hs) ?_
 rintro σ H Q ⟨G0,H0,G,ρ,d,j2,hf,k⟩
 unfold zH7 at hf
 obtain⟨y,h1,hf⟩:=Qw.mp hf
 split at hf
 · rename_i z
   refine⟨G0,H0,G,ρ,_,j2,h1,fun u H1 G1 s1 r1=>⟨z,d,rfl,zD.mp r1,hf,fun o ho=>k _ _ G1 s1 (ho _)⟩⟩
 · cases hf
def zKH {K:jg}{n:Nat}(l:List (Int×Tok×Value))(h:K.lookup da=some ⟨.type "dict",none,.dict (zTy l).toArray n,#[]⟩)(hl:(l.all fun p=>(lR p.2.2).isSome)=true:=by rfl):DictN K da (kvN l) :=
 ⟨l,n,h,rfl,hl⟩
end
def zQp (K:jg)(u:Value)(d:D):Prop:=∃v,RelV v u/\∀G,Rep K G d v
def zVr:∀l:List (Str×Tok),Vals (l.map fun p=>V.str p.1) (l.map fun p=>Value.str p.1 p.2)
 | []=>.nil
 | (x,t)::r=>.cons ⟨t,rfl⟩ (zVr r)
def zVg {K:jg}{G:Hp}:∀l:List (Str×Tok),Reps K G (l.map fun p=>D.str p.1) (l.map fun p=>V.str p.1)
 | []=>yR.mpr rfl
 | (x,t)::r=>zB.mpr ⟨_,_,rfl,yG.mpr rfl,zVg r⟩
def uR {K:jg}{a:Addr}{n:Nat}(l:List (Str×Tok))(h:K.lookup a=some ⟨.type "tuple",none,.seq (l.map fun p=>Value.str p.1 p.2).toArray n,#[]⟩)(hl:l.length<=1000:=by exact Nat.le_of_ble_eq_true rfl):zQp K (.ref a) (.tup (l.map fun p=>.str p.1)):=by
 refine⟨.ref a,rfl,fun G=>y0.mpr ⟨a,_,rfl,.inr ⟨_,_,n,h,rfl,rfl,?_,?_⟩,zVg l⟩⟩
 · rw[Qg,Qt,Yv];omega
 · exact zVr l
structure DictX (w:World)(K:jg)(a:Addr)(j8:List (Str×D)):Prop where
 sys:(a==sysModules)=false
 at':∃(l:List (Str×Tok×Value)) (n:Nat),K.lookup a=some ⟨.type "dict",none,.dict (zY2 w.params l).toArray n,#[]⟩/\Paired (fun(p:Str×Tok×Value) (q:Str×D)=>p.1=q.1/\zQp K p.2.2 q.2) l j8
def zHp {P:Params}{K:jg}(x:Str){l:List (Str×Tok×Value)}{j8:List (Str×D)}(h:Paired (fun(p:Str×Tok×Value) (q:Str×D)=>p.1=q.1/\zQp K p.2.2 q.2) l j8) :
   match j8.lookup x with
   | some d=>∃u,findBy Value.isStrOf (zY2 P l).toArray x=some u/\zQp K u d
   | none=>findBy Value.isStrOf (zY2 P l).toArray x=none:=by
 induction h with
 | nil=>rfl
 | @cons p q r j8 hpq h ih =>
   obtain⟨y,t,v⟩:=p
   obtain⟨y',d⟩:=q
   obtain⟨e0,hv⟩:=hpq
   have e0:y=y':=e0
   subst e0
   unfold findBy at ih ⊢
   rw[Ii] at ih ⊢
   show match ((y,d)::j8).lookup x with
     | some d=>∃u,(((⟨PyData.keyHash P y,.str y t,v⟩:DictEntry)::zY2 P r).find? fun e=>Value.isStrOf x e.key).map (·.val)=some u/\zQp K u d
     | none=>(((⟨PyData.keyHash P y,.str y t,v⟩:DictEntry)::zY2 P r).find? fun e=>Value.isStrOf x e.key).map (·.val)=none
   by_cases e:y=x
   · subst e
     rw[Ed,Rh,Tv,show(Value.isStrOf y (⟨PyData.keyHash P y,.str y t,v⟩:DictEntry).key)=true from Rh y]
     exact⟨v,rfl,hv⟩
   · have q2:(x==y)=false:=Ej.mpr (Ne.symm e)
     rw[Ed,q2,Tv,show(Value.isStrOf x (⟨PyData.keyHash P y,.str y t,v⟩:DictEntry).key)=false from Ej.mpr e]
     exact ih
section
variable {X:Cx} {a b:Expr} {fa fb:Ef} {pos p:Pos} {x:Str} {da:Addr} {j8:List (Str×D)}
variable {Z:ji} {σ:St} {H:Hp} {s:Shared}
def DictX.map (h:DictX X.w X.K da j8)(I:Inv X Z σ H s):∃f:Str->Option Value,s.heap.MapOf (strKind X.prog X.w) da f/\∀y,match j8.lookup y with | some d=>∃u,f y=some u/\zQp X.K u d | none=>f y=none:=by
 obtain⟨l,n,h1,h2⟩:=h.at'
 exact⟨_,PySem.W.mapOf_K I.kIn h1 (by simpa using zT2 l),fun y=>zHp y h2⟩
def zOq (h:DictX X.w X.K da j8):OpR X (compareOp .NotIn) (zHP X j8 da false):=by
 intro Z s σ H x y v u Q I rx ry ⟨z,e1,e2,q⟩
 subst e1 e2
 obtain⟨t,rfl⟩:=rx
 cases ry
 obtain⟨f,hm,hf⟩:=h.map I
 refine wpAny_notIn_of (strKind_is X.prog X.w z t) h.sys hm ?_
 have e:(!(f z).isSome)=(false==(j8.lookup z).isSome):=by
   have:=hf z
   cases hk:j8.lookup z with
   | none=>rw[hk] at this;rw[this];rfl
   | some d=>rw[hk] at this;obtain⟨u,hu,_⟩:=this;rw[hu];rfl
 rw[e]
 exact⟨.bl _,H,I.tok _,rfl,q⟩
def zN8 (h:DictX X.w X.K da j8)(hg:Gl X x)(hx:X.mg x=some (.ref da))(ha:PF X a fa)(hd:(x==("__debug__":Str))=false:=by decide)
   (hm:behindInMarks .NotIn (.Name x p)=false:=by first | exact zYC _ | (with_unfolding_all rfl)):PFT X (.Compare a [.NotIn] [.Name x p] pos) (zSV false j8 fa) :=
 PT.to (zZT (zOq h) ha (gM (v:=.ref da) hg hx rfl hd) hm) fun _ _ _=>zLj
def zF7 (h:DictX X.w X.K da j8):IxR X (zHg X j8 da):=by
 intro value slice Z s σ H x y v u Q I rx ry ⟨z,d,e1,e2,e3,q⟩ hs
 subst e1 e2
 cases rx
 obtain⟨t,rfl⟩:=ry
 obtain⟨f,hm,hf⟩:=h.map I
 have:=hf z
 rw[e3] at this
 obtain⟨u,hu,o,ro,rep⟩:=this
 exact Oi hm.typeIs slot_dict_getitem.lookup (Oe (strKind_is X.prog X.w z t) hm hu ⟨o,H,I.tok _,ro,q o rep⟩) hs
def zM0 (h:DictX X.w X.K da j8)(hg:Gl X x)(hx:X.mg x=some (.ref da))(hb:PF X b fb)(hd:(x==("__debug__":Str))=false:=by decide)(hs:cH b:=by exact fun _ _=>rfl):PF X (.Subscript (.Name x p) b pos) (zZU j8 fb):=by
 refine PE.to (zRv (zF7 h) (gM (v:=.ref da) hg hx rfl hd) hb hs) ?_
 rintro σ H Q ⟨G0,H0,G,ρ,d,j2,hf,k⟩
 unfold zZU at hf
 obtain⟨y,h1,hf⟩:=Qw.mp hf
 split at hf
 · rename_i z
   refine⟨G0,H0,G,ρ,_,j2,h1,fun u H1 G1 s1 r1=>⟨z,d,rfl,yG.mp r1,hf,fun o ho=>k _ _ G1 s1 (ho _)⟩⟩
 · cases hf
end
def zKO {w:World}{K:jg}{da:Addr}{n:Nat}{j8:List (Str×D)}(l:List (Str×Tok×Value))(h:K.lookup da=some ⟨.type "dict",none,.dict (zY2 w.params l).toArray n,#[]⟩)(hs:(da==sysModules)=false)(hp:Paired (fun(p:Str×Tok×Value) (q:Str×D)=>p.1=q.1/\zQp K p.2.2 q.2) l j8):DictX w K da j8:=⟨hs,l,n,h,hp⟩
def IsSq (t:Bool)(h:Heap)(l:Addr)(xs:jk):Prop:=∃o,h.get? l=some o/\o.cls = .type (cond t "tuple" "list")/\∃n,o.data = .seq xs n
def IsIr (t:Bool)(h:Heap)(i l:Addr)(k:Nat):Prop:=∃o,h.get? i=some o/\o.cls = .type (cond t "tuple_iterator" "list_iterator")/\o.data = .fields #[.ref l,.int k 0]
def IsSq.extBut {t:Bool}{h h':Heap}{a b:Addr}{xs:jk}(x:IsSq t h a xs)(e:Heap.ExtBut b h h')(n:a≠b):IsSq t h' a xs:=let ⟨o,q,r⟩:=x;⟨o,e a o n q,r⟩
def IsIr.extBut {t:Bool}{h h':Heap}{a b l:Addr}{k:Nat}(x:IsIr t h a l k)(e:Heap.ExtBut b h h')(n:a≠b):IsIr t h' a l k:=let ⟨o,q,r⟩:=x;⟨o,e a o n q,r⟩
def SqB (t:Bool)(K:jg)(H:Hp)(b:Addr)(ys:List V):Prop:=match t with | true=>SqT K H b ys | false=>SqL K H b ys
def zPo {t:Bool}{K:jg}{H H':Hp}{b:Addr}{ys:List V}(e:Same H H')(h:SqB t K H b ys):SqB t K H' b ys:=by
 cases t
 · exact e.seq h
 · exact e.tup h
section
variable {X:Cx} {Z:ji} {σ:St} {H:Hp} {s:Shared} {t:Bool} {b:Addr} {ys zs:List V}
def zQJ (I:Inv X Z σ H s)(h:SqB t X.K H b ys):∃j6:List Value,Vals ys j6/\IsSq t s.heap b j6.toArray:=by
 cases t
 · obtain⟨j6,v,p,_⟩:=I.list h
   exact⟨j6,v,p.isList⟩
 · obtain⟨j6,v,p,_⟩:=I.tuple h
   exact⟨j6,v,p⟩
def zH4 (I:Inv X Z σ H s)(h:SqB t X.K H b ys)(h':SqB t X.K H b zs):ys=zs:=by
 cases t
 · exact I.list_inj h h'
 · exact I.tuple_inj h h'
def zLA {c:Addr}(I:Inv X Z σ H s)(hf:lD X Z H c)(hd:SqB t X.K H b ys):b≠c:=fun z=>by
 have e:=hf.1
 cases t<;>(
   rcases hd with(hd | ⟨ob,hd⟩) | hd
   · rw[z,e] at hd;cases hd
   · rw[z,e] at hd;cases hd
   · obtain⟨ob,_,_,hk,_⟩:=hd
     have e3:=I.ok.mod.kin b ob hk
     obtain⟨_,q1,_,q3,_⟩:=hf
     rcases q3 with q3 | q3
     · exact I.ok.noex b ob e3 (z ▸ q3)
     · exact absurd (Wp (Qs (I.ok.bs b ob e3).1) (z ▸ q3)) (Wk _))
variable {prog:Program} {w:World} {A:Around} {E:jh}
def zPC {it l:Addr}{i:Nat}{j3:jk}{x:Value}{Q:jh}(hit:IsIr t s.heap it l i)(hl:IsSq t s.heap l j3)(hx:j3[i]?=some x)
   (hQ:∀h',IsIr t h' it l (i+1)->Heap.SameBut it s.heap h'->Q x { s with heap:=h' }):wpAny (model prog w) A (Builtin.SmallTypes.nextOf (.ref it)) Q E s:=by
 cases t
 · exact Yw hit hl hx hQ
 · exact zZW hit hl hx hQ
def zNS {it l:Addr}{i:Nat}{j3:jk}{Q:jh}(hh:A.handled=none)(hit:IsIr t s.heap it l i)(hl:IsSq t s.heap l j3)(hx:j3[i]?=none)
   (hE:∀h' e,Heap.ExtBut it s.heap h'->(∃o,h'.get? e=some o/\o.cls = .type "StopIteration")->E (.ref e) { s with heap:=h' }):wpAny (model prog w) A (Builtin.SmallTypes.nextOf (.ref it)) Q E s:=by
 cases t
 · exact Us hh hit hl hx hE
 · exact zVd hh hit hl hx hE
def zNx {t:Bool}{z TI TO i1 i2 l1 l2:Addr}{k:Nat}{xs ys:jk}{x y a b:Value}{Q:jh}(D:ZApart z TI TO i1 i2 l1 l2)(hz:IsZip s.heap z TI TO .none)(hTI:IsPair s.heap TI (.ref i1) (.ref i2))(hTO:IsPair s.heap TO a b)
   (h1:s.heap.IsTupleIter i1 l1 k) (h2:IsIr t s.heap i2 l2 k) (hl1:s.heap.IsTuple l1 xs) (hl2:IsSq t s.heap l2 ys) (hx:xs[k]?=some x) (hy:ys[k]?=some y)
   (hQ:∀h',IsZip h' z TI TO (rawInt s.heap.objs.size)->IsPair h' TO x y->h'.IsTupleIter i1 l1 (k+1)->IsIr t h' i2 l2 (k+1)->IsPair h' s.heap.objs.size x y ->
     (∀c o,c≠z->c≠TO->c≠i1->c≠i2->s.heap.get? c=some o->h'.get? c=some o)->Q (.ref s.heap.objs.size) { s with heap:=h' }) :
   wpAny (model prog w) A (Builtin.«zip.__next__» ⟨[.ref z],[]⟩) (fun fin s'=>∃v,fin = .done (.ret v)/\Q v s') E s:=by
 change wpAny _ _ (field (.ref z) 2 >>= _) _ _ _
 refine Qe (Ek hz rfl (x:=.bool false) rfl ?_)
 change wpAny _ _ (field (.ref z) 3 >>= _) _ _ _
 refine Qe (Ek hz rfl (x:=.ref TI) rfl (Qe (Ec hTI rfl ?_)))
 change wpAny _ _ (Builtin.SmallTypes.ownedTupleIsFree (.ref z) >>= _) _ _ _
 refine Qe ?_
 unfold Builtin.SmallTypes.ownedTupleIsFree
 refine Qe (Ek hz rfl (x:=.none) rfl (Qd ?_))
 simp only[Rt]
 refine Qe (Uz (Qe (Ek hz rfl (x:=.ref TO) rfl (Qe (Rk hz jd fun g1 z1 t1=>?_)))))
 have z1:IsZip g1 z TI TO .ellipsis:=z1
 refine Qe ?_
 simp only[Ot,List.zipIdx_nil,Ys,Ub]
 refine Qe (Qe (Ip ?_))
 change wpAny _ _ (Builtin.SmallTypes.nextOf (.ref i1) >>= _) _ _ _
 refine Qe (zZW (h1.extBut t1.extBut D.a3) (hl1.extBut t1.extBut D.b2) hx fun g2 u1 t2=>Qd ?_)
 have o2:IsPair g2 TO a b:=t2.extBut _ _ D.a8 (t1.extBut _ _ D.a2 hTO)
 refine Qe (Ec o2 rfl (Qe (Uv o2 fun g3 o3 t3=>?_)))
 have o3:IsPair g3 TO x b:=o3
 refine Qe (Os (Qd (Qe (Qe (Ip ?_)))))
 change wpAny _ _ (Builtin.SmallTypes.nextOf (.ref i2) >>= _) _ _ _
 refine Qe (zPC (((h2.extBut t1.extBut D.a4).extBut t2.extBut D.b1.symm).extBut t3.extBut D.a9.symm) (((hl2.extBut t1.extBut D.b6).extBut t2.extBut D.b8).extBut t3.extBut D.b7) hy fun g4 u2 t4=>Qd ?_)
 have o4:IsPair g4 TO x b:=t4.extBut _ _ D.a9 o3
 refine Qe (Ec o4 rfl (Qe (Uv o4 fun g5 o5 t5=>?_)))
 have o5:IsPair g5 TO x y:=o5
 refine Qe (Os (Qd (Qd (Qe (Ec o5 rfl (Qe (wpAny_newTuple ?_)))))))
 have esz:g5.objs.size=s.heap.objs.size:=by rw[t5.1,t4.1,t3.1,t2.1,t1.1]
 have z5:IsZip g5 z TI TO .ellipsis:=t5.extBut _ _ D.a2.symm (t4.extBut _ _ D.a4.symm (t3.extBut _ _ D.a2.symm (t2.extBut _ _ D.a3.symm z1)))
 have k5:∀c o,c≠z->c≠TO->c≠i1->c≠i2->s.heap.get? c=some o->g5.get? c=some o:=fun c o c1 c2 c3 c4 e=>t5.extBut _ _ c2 (t4.extBut _ _ c4 (t3.extBut _ _ c2 (t2.extBut _ _ c3 (t1.extBut _ _ c1 e))))
 have p1:g5.IsTupleIter i1 l1 (k+1):=((u1.extBut t3.extBut D.a8.symm).extBut t4.extBut D.b1).extBut t5.extBut D.a8.symm
 have p2:IsIr t g5 i2 l2 (k+1):=u2.extBut t5.extBut D.a9.symm
 have lz:z < g5.objs.size:=Qs z5
 change wpAny _ _ (Builtin.SmallTypes.ownedTupleHandOut (.ref z) (.ref g5.objs.size) >>= _) _ _ _
 refine Qe ?_
 unfold Builtin.SmallTypes.ownedTupleHandOut
 have z6:IsZip (g5.push { cls:=.type "tuple",data:=.seq #[x,y] }) z TI TO .ellipsis:=Qr _ z5
 refine Qe (Rk z6 jd fun g7 z7 t7=>?_)
 have z7:IsZip g7 z TI TO (rawInt g5.objs.size):=z7
 refine Rk z7 jd fun g8 z8 t8=>?_
 have z8:IsZip g8 z TI TO (rawInt g5.objs.size):=z8
 have up:∀c o,c≠z->g5.get? c=some o->g8.get? c=some o:=fun c o c1 e=>t8.extBut _ _ c1 (t7.extBut _ _ c1 (Qr _ e))
 have n8:IsPair g8 g5.objs.size x y:=t8.extBut _ _ (Nat.ne_of_gt lz) (t7.extBut _ _ (Nat.ne_of_gt lz) (Qz _ rfl))
 rw[esz] at z8 n8
 refine Qd ⟨_,rfl,?_⟩
 change Q (.ref g5.objs.size) _
 rw[esz]
 obtain⟨q1,r1,w1⟩:=p1
 obtain⟨q2,r2,w2⟩:=p2
 exact hQ g8 z8 (up _ _ D.a2 o5) ⟨q1,up _ _ D.a3 r1,w1⟩ ⟨q2,up _ _ D.a4 r2,w2⟩ n8 fun c o c1 c2 c3 c4 e=>up c o c1 (k5 c o c1 c2 c3 c4 e)
def zLu {t:Bool}{z TI TO i1 i2 l1 l2:Addr}{k:Nat}{xs ys:jk}{a b:Value}{Q:Fin->Shared->Prop}(hh:A.handled=none)(D:ZApart z TI TO i1 i2 l1 l2)(hz:IsZip s.heap z TI TO .none)(hTI:IsPair s.heap TI (.ref i1) (.ref i2))(hTO:IsPair s.heap TO a b)
   (h1:s.heap.IsTupleIter i1 l1 k) (h2:IsIr t s.heap i2 l2 k) (hl1:s.heap.IsTuple l1 xs) (hl2:IsSq t s.heap l2 ys) (hend:xs[k]?=none∨ys[k]?=none)
   (hE:∀h' e,(∀c o,c≠z->c≠TO->c≠i1->c≠i2->s.heap.get? c=some o->h'.get? c=some o)->(∃o,h'.get? e=some o/\o.cls = .type "StopIteration")->E (.ref e) { s with heap:=h' }) :
   wpAny (model prog w) A (Builtin.«zip.__next__» ⟨[.ref z],[]⟩) Q E s:=by
 change wpAny _ _ (field (.ref z) 2 >>= _) _ _ _
 refine Qe (Ek hz rfl (x:=.bool false) rfl ?_)
 change wpAny _ _ (field (.ref z) 3 >>= _) _ _ _
 refine Qe (Ek hz rfl (x:=.ref TI) rfl (Qe (Ec hTI rfl ?_)))
 change wpAny _ _ (Builtin.SmallTypes.ownedTupleIsFree (.ref z) >>= _) _ _ _
 refine Qe ?_
 unfold Builtin.SmallTypes.ownedTupleIsFree
 refine Qe (Ek hz rfl (x:=.none) rfl (Qd ?_))
 simp only[Rt]
 refine Qe (Uz (Qe (Ek hz rfl (x:=.ref TO) rfl (Qe (Rk hz jd fun g1 z1 t1=>?_)))))
 have z1:IsZip g1 z TI TO .ellipsis:=z1
 refine Qe ?_
 simp only[Ot,List.zipIdx_nil,Ys,Ub]
 refine Qe (Qe (Ip ?_))
 change wpAny _ _ (Builtin.SmallTypes.nextOf (.ref i1) >>= _) _ _ _
 cases hx:xs[k]? with
 | none =>
   refine Qe (zVd hh (h1.extBut t1.extBut D.a3) (hl1.extBut t1.extBut D.b2) hx fun g2 e t2 he=>?_)
   obtain⟨oe,he1,he2⟩:=he
   have z2:IsZip g2 z TI TO .ellipsis:=t2 _ _ D.a3.symm z1
   have ne:e≠z:=fun q=>by subst q;rw[z2] at he1;cases he1;simp at he2
   exact Rk z2 jd fun g3 _ t3=>hE g3 e (fun c o c1 _ c3 _ q=>t3.extBut _ _ c1 (t2 _ _ c3 (t1.extBut _ _ c1 q))) ⟨oe,t3.extBut _ _ ne he1,he2⟩
 | some x =>
   have hy:ys[k]?=none:=by
     rcases hend with q | q
     · rw[hx] at q;cases q
     · exact q
   refine Qe (zZW (h1.extBut t1.extBut D.a3) (hl1.extBut t1.extBut D.b2) hx fun g2 u1 t2=>Qd ?_)
   have o2:IsPair g2 TO a b:=t2.extBut _ _ D.a8 (t1.extBut _ _ D.a2 hTO)
   refine Qe (Ec o2 rfl (Qe (Uv o2 fun g3 o3 t3=>?_)))
   refine Qe (Os (Qd (Qe (Qe (Ip ?_)))))
   change wpAny _ _ (Builtin.SmallTypes.nextOf (.ref i2) >>= _) _ _ _
   refine Qe (zNS hh (((h2.extBut t1.extBut D.a4).extBut t2.extBut D.b1.symm).extBut t3.extBut D.a9.symm) (((hl2.extBut t1.extBut D.b6).extBut t2.extBut D.b8).extBut t3.extBut D.b7) hy fun g4 e t4 he=>?_)
   obtain⟨oe,he1,he2⟩:=he
   have z4:IsZip g4 z TI TO .ellipsis:=t4 _ _ D.a4.symm (t3.extBut _ _ D.a2.symm (t2.extBut _ _ D.a3.symm z1))
   have ne:e≠z:=fun q=>by subst q;rw[z4] at he1;cases he1;simp at he2
   exact Rk z4 jd fun g5 _ t5=>hE g5 e (fun c o c1 c2 c3 c4 q=>t5.extBut _ _ c1 (t4 _ _ c4 (t3.extBut _ _ c2 (t2.extBut _ _ c3 (t1.extBut _ _ c1 q))))) ⟨oe,t5.extBut _ _ ne he1,he2⟩
end
abbrev zM2 (t:Bool)(h:Heap)(l1 l2:Addr):Heap:=(zT1 h l1).push { cls:=.type (cond t "tuple_iterator" "list_iterator"),data:=.fields #[.ref l2,.int 0 0] }
abbrev zM3 (t:Bool)(h:Heap)(l1 l2:Addr):Heap:=(zM2 t h l1 l2).push { cls:=.type "tuple",data:=.seq #[.ref h.objs.size,.ref (zT1 h l1).objs.size] }
abbrev zM4 (t:Bool)(h:Heap)(l1 l2:Addr):Heap:=(zM3 t h l1 l2).push { cls:=.type "tuple",data:=.seq #[.none,.none] }
abbrev zM5 (t:Bool)(h:Heap)(l1 l2:Addr):Heap:=(zM4 t h l1 l2).push { cls:=.type "zip",data:=.fields #[.none,.bool false,.bool false,.ref (zM2 t h l1 l2).objs.size,.ref (zM3 t h l1 l2).objs.size] }
def zMD (t:Bool)(l1 l2:Addr)(xs ys:jk) :
   Meets (Builtin.«zip.__new__» ⟨[.type "zip",.ref l1,.ref l2],[]⟩) (fun _ R s=>s.heap.IsTuple l1 xs/\IsSq t s.heap l2 ys/\R (.ok (.ret (.ref (zM4 t s.heap l1 l2).objs.size))) { s with heap:=zM5 t s.heap l1 l2 }) :=
 .of_wp fun prog w A R s h=>by
   obtain⟨hp,g,d,tk,os⟩:=s;obtain⟨q1,q2,h⟩:=h
   have hsub:=sub_zip
   have L1:Heap.IsTuple (Shared.heap ⟨hp,g,d,tk,os⟩) l1 xs:=q1
   cases t with
   | true =>
     have L2:Heap.IsTuple (Shared.heap ⟨hp.push { cls:=.type "tuple_iterator",data:=.fields #[.ref l1,.int 0 0] },g,d,tk,os⟩) l2 ys:=Heap.IsTuple.push q2 _
     wp_walk using Yg L1,Yg L2
     exact⟨_,rfl,h⟩
   | false =>
     have L2:Heap.IsList (Shared.heap ⟨hp.push { cls:=.type "tuple_iterator",data:=.fields #[.ref l1,.int 0 0] },g,d,tk,os⟩) l2 ys:=Heap.IsList.push q2 _
     wp_walk using Yg L1,Yz L2
     exact⟨_,rfl,h⟩
section
variable {prog:Program} {w:World} {A:Around} {E:jh} {s:Shared}
def zNo {t:Bool}{l1 l2:Addr}{xs ys:jk}{Q:jh}(q1:s.heap.IsTuple l1 xs)(q2:IsSq t s.heap l2 ys)
   (h:∀h',IsZip h' (s.heap.objs.size+4) (s.heap.objs.size+2) (s.heap.objs.size+3) .none->IsPair h' (s.heap.objs.size+2) (.ref s.heap.objs.size) (.ref (s.heap.objs.size+1))->IsPair h' (s.heap.objs.size+3) .none .none ->
     h'.IsTupleIter s.heap.objs.size l1 0->IsIr t h' (s.heap.objs.size+1) l2 0->(∀c o,s.heap.get? c=some o->h'.get? c=some o)->Q (.ref (s.heap.objs.size+4)) { s with heap:=h' }):wpAny (model prog w) A (call (.type "zip") [.ref l1,.ref l2]) Q E s:=by
 refine callType_new F.called_zip jb (F.typeCall_zip_2 _ _) (F.newCall_zip_2 _ _) (fun obj=>F.args_object_init_3 obj _ _) F.entry_zip_new (zMD t l1 l2 xs ys) ⟨q1,q2,?_⟩
 have y1:(zT1 s.heap l1).objs.size=s.heap.objs.size+1:=Tt ..
 have y2:(zM2 t s.heap l1 l2).objs.size=s.heap.objs.size+2:=by rw[Tt,y1]
 have y3:(zM3 t s.heap l1 l2).objs.size=s.heap.objs.size+3:=by rw[Tt,y2]
 have y4:(zM4 t s.heap l1 l2).objs.size=s.heap.objs.size+4:=by rw[Tt,y3]
 have f5:(zM5 t s.heap l1 l2).get? (zM4 t s.heap l1 l2).objs.size=some _:=Qz _ rfl
 have f4:(zM5 t s.heap l1 l2).get? (zM3 t s.heap l1 l2).objs.size=some _:=Qr _ (Qz _ rfl)
 have f3:(zM5 t s.heap l1 l2).get? (zM2 t s.heap l1 l2).objs.size=some _:=Qr _ (Qr _ (Qz _ rfl))
 have f2:(zM5 t s.heap l1 l2).get? (zT1 s.heap l1).objs.size=some _:=Qr _ (Qr _ (Qr _ (Qz _ rfl)))
 have f1:(zM5 t s.heap l1 l2).get? s.heap.objs.size=some _:=Qr _ (Qr _ (Qr _ (Qr _ (Qz _ rfl))))
 change _/\_
 rw[y2,y3,y4] at f5
 rw[y1,y2] at f3
 rw[y3] at f4
 rw[y1] at f2
 rw[y4]
 exact⟨⟨_,f5,rfl⟩,h _ f5 f3 f4 ⟨_,f1,rfl,rfl⟩ ⟨_,f2,rfl,rfl⟩ fun c o x=>Qr _ (Qr _ (Qr _ (Qr _ (Qr _ x))))⟩
end
def zFR (t:Bool)(K:jg)(a b:Addr):It :=
 ⟨fun i H=>∃xs ys x y,SqT K H a xs/\SqB t K H b ys/\xs[i]?=some x/\ys[i]?=some y,fun i H x H'=>∃p v u,H p=none/\x = .ref p/\H'=upd H p (.tup [v,u])/\(∀xs,SqT K H a xs->xs[i]?=some v)/\∀ys,SqB t K H b ys->ys[i]?=some u,
   fun i H=>∃xs ys,SqT K H a xs/\SqB t K H b ys/\(xs.length<=i∨ys.length<=i)⟩
def zWy {t:Bool}{prog:Program}{w:World}{A:Around}{E:jh}{s:Shared}{z TI TO i1 i2 l1 l2:Addr}{k:Nat}{xs ys:jk}{x y a b:Value}{Q:Option Value->Shared->Prop}(D:ZApart z TI TO i1 i2 l1 l2)(hz:IsZip s.heap z TI TO .none)(hTI:IsPair s.heap TI (.ref i1) (.ref i2))(hTO:IsPair s.heap TO a b)
   (h1:s.heap.IsTupleIter i1 l1 k) (h2:IsIr t s.heap i2 l2 k) (hl1:s.heap.IsTuple l1 xs) (hl2:IsSq t s.heap l2 ys) (hx:xs[k]?=some x) (hy:ys[k]?=some y)
   (hQ:∀h',IsZip h' z TI TO (rawInt s.heap.objs.size)->IsPair h' TO x y->h'.IsTupleIter i1 l1 (k+1)->IsIr t h' i2 l2 (k+1)->IsPair h' s.heap.objs.size x y ->
     (∀c o,c≠z->c≠TO->c≠i1->c≠i2->s.heap.get? c=some o->h'.get? c=some o)->Q (some (.ref s.heap.objs.size)) { s with heap:=h' }):wpAny (model prog w) A (pyNext (.ref z)) Q E s:=by
 have hT:s.TypeIs (.ref z) "zip":=⟨_,hz,rfl⟩
 unfold pyNext
 exact Qe (Iy (Ez (name:=Str.ofString "__next__") hT F.slot_zip_next (Rg F.slot_zip_next hT F.entry_zip_next (zNx D hz hTI hTO h1 h2 hl1 hl2 hx hy fun h' a1 a2 a3 a4 a5 a6=>Qd (hQ h' a1 a2 a3 a4 a5 a6)) (F.args_zip_next_1 _))))
def zVC {t:Bool}{prog:Program}{w:World}{A:Around}{E:jh}{s:Shared}{z TI TO i1 i2 l1 l2:Addr}{k:Nat}{xs ys:jk}{a b:Value}{Q:Option Value->Shared->Prop}(hh:A.handled=none)(D:ZApart z TI TO i1 i2 l1 l2)(hz:IsZip s.heap z TI TO .none)(hTI:IsPair s.heap TI (.ref i1) (.ref i2))(hTO:IsPair s.heap TO a b)
   (h1:s.heap.IsTupleIter i1 l1 k) (h2:IsIr t s.heap i2 l2 k) (hl1:s.heap.IsTuple l1 xs) (hl2:IsSq t s.heap l2 ys) (hend:xs[k]?=none∨ys[k]?=none)
   (hQ:∀h',(∀c o,c≠z->c≠TO->c≠i1->c≠i2->s.heap.get? c=some o->h'.get? c=some o)->Q none { s with heap:=h' }):wpAny (model prog w) A (pyNext (.ref z)) Q E s:=by
 have hT:s.TypeIs (.ref z) "zip":=⟨_,hz,rfl⟩
 unfold pyNext
 refine Qe (Iy (Ez (name:=Str.ofString "__next__") hT F.slot_zip_next (Rg F.slot_zip_next hT F.entry_zip_next (zLu hh D hz hTI hTO h1 h2 hl1 hl2 hend fun h' e hk he=>?_) (F.args_zip_next_1 _))))
 obtain⟨o,q1,q2⟩:=he
 exact Qe (Ur (T:="StopIteration") (b:=true) ⟨o,q1,q2⟩ isSubtype_stop (Qd (hQ _ hk)))
def zNj (t:Bool){P:Program}{w:World}{K:jg}{elts:List Expr}{k:Nat}{pos:Pos}(a b n:Addr):Turn P w K (.Tuple elts k pos) (zFR t K a b) [n+4,n+2,n+3,n,n+1] (n+4)
   (fun i h=>IsZip h (n+4) (n+2) (n+3) .none/\IsPair h (n+2) (.ref n) (.ref (n+1))/\(∃p q,IsPair h (n+3) p q)/\h.IsTupleIter n a i/\IsIr t h (n+1) b i) where
 mem:=jd
 obj:=fun i h st c hc=>by
   obtain⟨h1,h2,⟨p,q,h3⟩,⟨o1,e1,_,d1⟩,⟨o2,e2,_,d2⟩⟩:=st
   simp only[Qh,Wf,Ra] at hc
   rcases hc with z | z | z | z | z
   · subst z;exact⟨_,h1,fun v q=>nomatch q⟩
   · subst z;exact⟨_,h2,fun v q=>nomatch q⟩
   · subst z;exact⟨_,h3,fun v q=>nomatch q⟩
   · subst z;exact⟨o1,e1,fun v q=>by rw[d1] at q;cases q⟩
   · subst z;exact⟨o2,e2,fun v q=>by rw[d2] at q;cases q⟩
 keep:=fun i h h' st kk=>by
   obtain⟨h1,h2,⟨p,q,h3⟩,⟨o1,e1,r1⟩,⟨o2,e2,r2⟩⟩:=st
   exact⟨kk _ jd _ h1,kk _ jd _ h2,⟨p,q,kk _ jd _ h3⟩,⟨o1,kk _ jd _ e1,r1⟩,⟨o2,kk _ jd _ e2,r2⟩⟩
 item:=by
   intro X hP hw hK hc i Z s σ H E I hf st hg
   subst hP hw hK
   obtain⟨xs,ys,x,y,hq,hq',hx,hy⟩:=hg
   obtain⟨j6,rv,p1,hz⟩:=I.tuple hq
   obtain⟨jts,rv',p2⟩:=zQJ I hq'
   obtain⟨u,hu,ru⟩:=rv.get hx
   obtain⟨u',hu',ru'⟩:=rv'.get hy
   obtain⟨h1,h2,⟨p,q,h3⟩,h4,h5⟩:=st
   have apart:∀u:Bool,∀c∈[n+4,n+2,n+3,n,n+1],∀v:List V,∀d:Addr,SqB u X.K H d v->d≠c:=fun u c hc v d hd=>zLA I (hf c hc) hd
   have D:ZApart (n+4) (n+2) (n+3) n (n+1) a b:=⟨zne 2 4 jb,zne 3 4 jb,zne 0 4 jb,zne 1 4 jb,zne 2 3 jb,zne 2 0 jb,zne 2 1 jb,zne 3 0 jb,zne 3 1 jb,zne 0 1 jb,apart true _ jd xs a hq,apart true _ jd xs a hq,apart true _ jd xs a hq,apart true _ jd xs a hq,apart t _ jd ys b hq',apart t _ jd ys b hq',apart t _ jd ys b hq',apart t _ jd ys b hq'⟩
   refine zWy D h1 h2 h3 h4 h5 (show s.heap.IsTuple a j6.toArray from p1) p2 (x:=u) (y:=u') (by simpa using hu) (by simpa using hu') fun g g1 g2 g3 g4 g5 hk=>?_
   have hk':∀c o,c∉[n+4,n+2,n+3,n,n+1]->s.heap.get? c=some o->g.get? c=some o:=fun c o hc e=>hk c o (fun z=>hc (by simp[z])) (fun z=>hc (by simp[z])) (fun z=>hc (by simp[z])) (fun z=>hc (by simp[z])) e
   have I1:Inv X Z σ (upd H s.heap.objs.size (.tup [x,y])) { s with heap:=g }:=I.turnedNew (t':=s.toks) hk' hf (Ql _) ⟨by show 2<=sizeLine;exact Et (uY jb),[u,u'],.cons ru (.cons ru' .nil),⟨_,g5,rfl,_,rfl⟩⟩
   refine⟨_,rfl,wpAny_letOwnedTupleGo_zip g1 fun g' z' t'=>?_⟩
   have t':Heap.SameBut (n+4) g g':=t'
   have neT:∀c∈[n+4,n+2,n+3,n,n+1],c≠s.heap.objs.size:=fun c hc z=>by
     have lt:c < s.heap.objs.size:=by
       obtain⟨o1,e1,_⟩:=h4
       obtain⟨o2,e2,_⟩:=h5
       simp only[Qh,Wf,Ra] at hc
       rcases hc with q | q | q | q | q
       · rw[q];exact Qs h1
       · rw[q];exact Qs h2
       · rw[q];exact Qs h3
       · rw[q];exact Qs e1
       · rw[q];exact Qs e2
     rw[z] at lt
     exact Wk _ lt
   have hf1:∀c∈[n+4,n+2,n+3,n,n+1],lD X Z (upd H s.heap.objs.size (.tup [x,y])) c:=fun c hc=>⟨by rw[yL (neT c hc)];exact(hf c hc).1,(hf c hc).2⟩
   have I2:=I1.turnedL (h':=g') (t':=s.toks) (fp:=[n+4,n+2,n+3,n,n+1]) (fun c o hc e=>(t'.2 c (fun z=>hc (by simp[z]))).trans e) hf1
   have g2':IsPair g (n+2) (.ref n) (.ref (n+1)):=hk _ _ D.a1 D.a5 D.a6 D.a7 h2
   obtain⟨o3,e3,r3⟩:=g3
   obtain⟨o4,e4,r4⟩:=g4
   exact⟨.ref s.heap.objs.size,_,I2,rfl,⟨s.heap.objs.size,x,y,I.fresh,rfl,rfl,fun zs hs=>by rw[I.tuple_inj hs hq];exact hx,fun zs hs=>by rw[zH4 I hs hq'];exact hy⟩,
     ⟨z',(t'.2 _ D.a1).trans g2',⟨_,_,(t'.2 _ D.a2).trans g2⟩,⟨o3,(t'.2 _ D.a3).trans e3,r3⟩,⟨o4,(t'.2 _ D.a4).trans e4,r4⟩⟩,fun c hc=>(hf1 c hc).1⟩
 done:=by
   intro X hP hw hK hc i Z s σ H E I hf st hg
   subst hP hw hK
   obtain⟨xs,ys,hq,hq',hx⟩:=hg
   obtain⟨j6,rv,p1,hz⟩:=I.tuple hq
   obtain⟨jts,rv',p2⟩:=zQJ I hq'
   obtain⟨h1,h2,⟨p,q,h3⟩,h4,h5⟩:=st
   have apart:∀u:Bool,∀c∈[n+4,n+2,n+3,n,n+1],∀v:List V,∀d:Addr,SqB u X.K H d v->d≠c:=fun u c hc v d hd=>zLA I (hf c hc) hd
   have D:ZApart (n+4) (n+2) (n+3) n (n+1) a b:=⟨zne 2 4 jb,zne 3 4 jb,zne 0 4 jb,zne 1 4 jb,zne 2 3 jb,zne 2 0 jb,zne 2 1 jb,zne 3 0 jb,zne 3 1 jb,zne 0 1 jb,apart true _ jd xs a hq,apart true _ jd xs a hq,apart true _ jd xs a hq,apart true _ jd xs a hq,apart t _ jd ys b hq',apart t _ jd ys b hq',apart t _ jd ys b hq',apart t _ jd ys b hq'⟩
   have l1:=rv.length
   have l2:=rv'.length
   refine zVC (I.ok.hd hc) D h1 h2 h3 h4 h5 (show s.heap.IsTuple a j6.toArray from p1) p2 ?_ fun g hk=>⟨rfl,I.turnedL (t':=s.toks) (fp:=[n+4,n+2,n+3,n,n+1]) (fun c o hc e=>hk c o (fun z=>hc (by simp[z])) (fun z=>hc (by simp[z])) (fun z=>hc (by simp[z])) (fun z=>hc (by simp[z])) e) hf⟩
   rcases hx with q | q
   · exact .inl (by simp;omega)
   · exact .inr (by simp;omega)
 self:=fun _ _ _ _ _ st h=>Ow st.1 h
def zSO (t:Bool){K:jg}{G:Hp}{a b:Addr}{vs us:List V}{ds es:List D}(h:SqT K G a vs)(r:Reps K G ds vs)(h':SqB t K G b us)(r':Reps K G es us):aU K (zFR t K a b) G (sD ds es):=by
 intro i G2 H2 s1 s2
 have q:SqT K H2 a vs:=(s1.trans s2).tup h
 have q':SqB t K H2 b us:=zPo (s1.trans s2) h'
 refine⟨fun d hd=>?_,fun hi=>⟨vs,us,q,q',?_⟩⟩
 · obtain⟨x,y,h1,h2,rfl⟩:=zXe hd
   obtain⟨v,e1,rv⟩:=r.get h1
   obtain⟨u,e2,ru⟩:=r'.get h2
   refine⟨⟨vs,us,v,u,q,q',e1,e2⟩,fun x' H3 yy=>?_⟩
   obtain⟨p,v',u',hp,rfl,rfl,y1,y2⟩:=yy
   have f1:=y1 vs q
   rw[e1] at f1;cases f1
   have f2:=y2 us q'
   rw[e2] at f2;cases f2
   have s3:=Step.laid (o:=.tup [v,u]) s2 hp
   exact⟨_,s3,y0.mpr ⟨p,_,rfl,.of yW,zB.mpr ⟨_,_,rfl,(rv.mono s1).mono s3.gg,zB.mpr ⟨_,_,rfl,(ru.mono s1).mono s3.gg,yR.mpr rfl⟩⟩⟩⟩
 · rw[zWd] at hi
   rw[←r.length,←r'.length]
   omega
section
variable {X:Cx} {a b:Expr} {fa fb:Ef} {pos p:Pos}
def zXj (t:Bool)(f g:Ef):Lf:=fun ρ=>(f ρ).bind fun x=>(g ρ).bind fun y=>match t,x,y with | true,.tup xs,.tup ys=>some (sD xs ys) | false,.tup xs,.lst ys=>some (sD xs ys) | _,_,_=>none
def zRr (f g:Ef):Lf:=zXj false f g
def sqD (t:Bool)(ys:List D):D:=cond t (.tup ys) (.lst ys)
def zI9 {t:Bool}{K:jg}{G:Hp}{ys:List D}{y:V}(h:Rep K G (sqD t ys) y):∃b ws,y = .ref b/\SqB t K G b ws/\Reps K G ys ws:=by
 cases t
 · exact xB.mp h
 · exact y0.mp h
def zO7 {t:Bool}{f g:Ef}{ρ:List B}{ds:List D}(h:zXj t f g ρ=some ds):∃xs ys,f ρ=some (.tup xs)/\g ρ=some (sqD t ys)/\ds=sD xs ys:=by
 unfold zXj at h
 obtain⟨x,h1,h⟩:=Qw.mp h
 obtain⟨y,h2,h⟩:=Qw.mp h
 cases t<;>cases x<;>(try cases h)<;>cases y<;>(try cases h)<;>exact⟨_,_,h1,h2,rfl⟩
def zP3 (t:Bool){elts:List Expr}{k:Nat}{pos':Pos}(hg:Gl X "zip")(hm:X.mg "zip"=none)(ha:PF X a fa)(hb:PF X b fb)(hs:starEach [a,b] X.env=[(false,eval a X.env),(false,eval b X.env)]:=by rfl)(hs2:starEach [b] X.env=[(false,eval b X.env)]:=by rfl) :
   PFI X (.Tuple elts k pos') (.Call (.Name "zip" p) [a,b] [] pos) (zXj t fa fb):=by
 intro Z s σ H R I q
 obtain⟨G0,H0,G,ρ,ds,j2,hf,kk⟩:=q
 obtain⟨xs,ys,h1,h2,rfl⟩:=zO7 hf
 have hA:=zE ha (zE hb yO (by rw[hs2];rfl)) (by rw[hs,hs2]) pos Z s σ H (fun vs H'=>∃a b us ws G',vs=[.ref a,.ref b]/\Step G H G' H'/\SqT X.K G' a us/\Reps X.K G' xs us/\SqB t X.K G' b ws/\Reps X.K G' ys ws) I
   ⟨G0,H0,G,ρ,_,j2,h1,fun v H1 G1 s1 r1=>⟨G0,H0,G1,ρ,_,j2.step s1,h2,fun u H2 G2 s2 r2=>by
     obtain⟨a,us,rfl,q1,q2⟩:=y0.mp (r1.mono s2.gg)
     obtain⟨b,ws,rfl,q3,q4⟩:=zI9 r2
     exact⟨a,b,us,ws,G2,rfl,s1.trans s2,q1,q2,q3,q4⟩⟩⟩
 refine Call_ (oA I hg hm jf (Ei (thn hA fun us s1 ⟨vs,H1,I1,r1,l1,l2,ws,zs,G1,e1,st1,q1,q2,q3,q4⟩=>?_) (by rw[hs,hs2]) (by rw[hs2];rfl)))
 subst e1
 obtain⟨u,u',rfl,ru,ru'⟩:=zRn r1
 cases ru
 cases ru'
 obtain⟨j6,rv,p1,_⟩:=I1.tuple (st1.sub.tup q1)
 obtain⟨jts,rv',p2⟩:=zQJ I1 (zPo st1.sub q3)
 refine zNo (show s1.heap.IsTuple l1 j6.toArray from p1) p2 fun h' z1 z2 z3 z4 z5 hk=>?_
 have I2:Inv X Z σ H1 { s1 with heap:=h' }:=I1.kept (t':=s1.toks) hk
 refine Ow z1 ?_
 refine⟨_,[s1.heap.objs.size+4,s1.heap.objs.size+2,s1.heap.objs.size+3,s1.heap.objs.size,s1.heap.objs.size+1],_,_,H1,rfl,I2,zNj t l1 l2 s1.heap.objs.size,⟨z1,z2,⟨_,_,z3⟩,z4,z5⟩,fun b hb=>?_,kk _ H1 G1 st1 (zSO t q1 q2 q3 q4)⟩
 have hb':s1.heap.objs.size<=b:=by
   simp only[Qh,Wf,Ra] at hb
   rcases hb with z | z | z | z | z<;>(rw[z];first | exact Ql _ | exact Nat.le_add_right _ _)
 exact I1.fpOk hb' (I1.hok.fresh hb')
def zKs (f g:Ef):zL6 f g=zXj true f g:=by
 funext ρ
 unfold zL6 zXj
 cases f ρ with
 | none=>rfl
 | some x =>
   cases g ρ with
   | none=>rfl
   | some y=>cases x<;>cases y<;>rfl
def zPk {elts:List Expr}{k:Nat}{pos':Pos}(hg:Gl X "zip")(hm:X.mg "zip"=none)(ha:PF X a fa)(hb:PF X b fb)(hs:starEach [a,b] X.env=[(false,eval a X.env),(false,eval b X.env)]:=by rfl)(hs2:starEach [b] X.env=[(false,eval b X.env)]:=by rfl) :
   PFI X (.Tuple elts k pos') (.Call (.Name "zip" p) [a,b] [] pos) (zL6 fa fb):=by
 rw[zKs]
 exact zP3 true hg hm ha hb hs hs2
def zJQ {elts:List Expr}{k:Nat}{pos':Pos}(hg:Gl X "zip")(hm:X.mg "zip"=none)(ha:PF X a fa)(hb:PF X b fb)(hs:starEach [a,b] X.env=[(false,eval a X.env),(false,eval b X.env)]:=by rfl)(hs2:starEach [b] X.env=[(false,eval b X.env)]:=by rfl) :
   PFI X (.Tuple elts k pos') (.Call (.Name "zip" p) [a,b] [] pos) (zRr fa fb):=zP3 false hg hm ha hb hs hs2
def zNR:CallR X (.type "str") (fun xs H Q=>∃x,xs=[.str x]/\Q (.str x) H):=by
 intro Z s σ H xs us Q I r h
 obtain⟨x,rfl,q⟩:=h
 obtain⟨u,rfl,t,rfl⟩:=oG r
 exact P.str_of_str ⟨.str x,H,I,⟨_,rfl⟩,q⟩
def zOp:D->Option D
 | .int i=>if i.natAbs.log2 < 1920 then some (.str (Str.ofString (toString i))) else none
 | .str x=>some (.str x)
 | _=>none
def zOH (f:Ef):Ef:=fun ρ=>(f ρ).bind zOp
def zPj (hg:Gl X "str")(hm:X.mg "str"=none)(h:PF X a fa)(hs:starEach [a] X.env=[(false,eval a X.env)]:=by rfl):PF X (.Call (.Name "str" p) [a] [] pos) (zOH fa):=by
 refine PE.to (pF (zZr.or zNR) hg hm jf (zE h yO (by rw[hs];rfl)) jb jb (by rw[hs];rfl) jf) ?_
 rintro σ H Q ⟨G0,H0,G,ρ,d,j2,hf,k⟩
 unfold zOH at hf
 obtain⟨x,h1,hf⟩:=Qw.mp hf
 refine⟨G0,H0,G,ρ,_,j2,h1,fun v H1 G1 s1 r1=>?_⟩
 cases x with
 | int i =>
   simp only[zOp] at hf
   split at hf
   · rename_i hz
     cases hf
     exact .inl ⟨i,by rw[zD.mp r1],hz,k _ _ G1 s1 (yG.mpr rfl)⟩
   · cases hf
 | str x =>
   cases hf
   exact .inr ⟨x,by rw[yG.mp r1],k _ _ G1 s1 (yG.mpr rfl)⟩
 | _=>cases hf
end
end L2
namespace L2
open PySem PySem.Spec PyProof.Rows
open AutoSeq1 (wpAny_loadPart')
end L2
namespace L2
open PySem PySem.Spec PyProof.Rows
def noN:D->Bool
 | .int _=>true
 | .str _=>true
 | .tup _=>true
 | _=>false
def zUp (x y:D):Option Bool:=match x,y with
 | .non,.lst ds=>if ds.all noN then some false else none
 | .non,.tup ds=>if ds.all noN then some false else none
 | _,_=>none
section
variable {X:Cx} {Z:ji} {σ:St} {H G:Hp} {s:Shared}
def zMj (I:Inv X Z σ H s)(sub:Same G H){A:Around}(hu:A.units < cLine):∀ {ds:List D} {xs:List V} {j6:jj},ds.all noN=true->Reps X.K G ds xs->Vals xs j6->∀w∈j6,SeqAt.EqAt A s w .none false
 | [],_,_,f,r,v=>by
   rw[yR] at r;subst r
   cases v
   exact fun w hw=>nomatch hw
 | d::t,_,_,f,r,v=>by
   obtain⟨z,zr,rfl,q1,q2⟩:=zB.mp r
   cases v with
   | cons v1 v2 =>
     rw[Yy,Qc] at f
     intro w hw
     rcases Qh.mp hw with rfl | hw
     · cases d with
       | int i=>rw[zD] at q1;subst q1;obtain⟨t,rfl⟩:=v1;exact SeqAt.EqAt.int_none _ _
       | str i=>rw[yG] at q1;subst q1;obtain⟨t,rfl⟩:=v1;exact SeqAt.EqAt.str_none _ _
       | tup es =>
         obtain⟨a,vs,rfl,p1,p2⟩:=y0.mp q1
         cases v1
         obtain⟨jts,_,t1,_⟩:=I.tuple (sub.tup p1)
         exact SeqAt.EqAt.tuple_none t1 hu
       | _=>exact absurd f.1 (by unfold noN;exact Qj)
     · exact zMj I sub hu f.2 q2 v2 w hw
variable {k:Nat}
def zHl (hr:Room k X.A):OpR X (compareOp .In) (fun x y H Q=>∃G d d' b,Same G H/\Rep X.K G d x/\Rep X.K G d' y/\zUp d d'=some b/\Q (.bl b) H):=by
 intro Z s σ H x y v u Q I rx ry h
 obtain⟨G,d,d',b,sub,r1,r2,h,q⟩:=h
 have hu:=hr.units
 have hu1:X.A.in1.units < cLine:=by show X.A.units+1 < cLine;omega
 have none:∀j6:List Value,j6.toArray.any (fun _=>false)=false:=fun j6=>jd
 unfold zUp at h
 split at h
 · rename_i ds
   rw[tY] at r1;subst r1;cases rx
   split at h
   · rename_i f
     cases h
     obtain⟨p,xs,rfl,q1,q2⟩:=xB.mp r2
     cases ry
     obtain⟨j6,rv,pl,hz⟩:=I.list (sub.seq q1)
     have m:=zMj (A:=X.A.in1) I sub hu1 f q2 rv
     exact SeqAt.in_listAt (fun _=>false) pl.isList (fun w hw=>m w (by simpa using hw)) ⟨.bl _,H,I,rfl,by rw[none];exact q⟩
   · cases h
 · rename_i ds
   rw[tY] at r1;subst r1;cases rx
   split at h
   · rename_i f
     cases h
     obtain⟨p,xs,rfl,q1,q2⟩:=y0.mp r2
     cases ry
     obtain⟨j6,rv,pl,hz⟩:=I.tuple (sub.tup q1)
     have m:=zMj (A:=X.A.in1) I sub hu1 f q2 rv
     exact SeqAt.in_tupleAt (fun _=>false) pl (fun w hw=>m w (by simpa using hw)) ⟨.bl _,H,I,rfl,by rw[none];exact q⟩
   · cases h
 · cases h
def zL2 (hr:Room k X.A):CmR X .In zUp:=⟨_,zHl hr,fun d d' k G H x y Q h s rx ry q=>⟨G,d,d',k,s,rx,ry,h,q H G (.refl s)⟩⟩
end
mutual
def zVh:D->Bool
 | .tup ds=>uX ds
 | .obj _ _ ds=>uX ds
 | .lst _=>false
 | .exc _ _ _=>false
 | _=>true
def uX:List D->Bool
 | []=>true
 | d::r=>zVh d&&uX r
end
mutual
theorem Rep.out2 {K:jg}{G:Hp}{p:Addr}{us:List V}(hp:G p=some (.lst us)):∀(d:D) (v:V),zVh d=true->Rep K G d v->Rep K (zNh G p) d v
 | .non,_,_,h=>by unfold Rep at h ⊢;exact h
 | .bl _,_,_,h=>by unfold Rep at h ⊢;exact h
 | .int _,_,_,h=>by unfold Rep at h ⊢;exact h
 | .str _,_,_,h=>by unfold Rep at h ⊢;exact h
 | .tup ds,_,f,h=>by
   unfold Rep at h ⊢
   obtain⟨a,vs,h1,h2,h3⟩:=h
   exact⟨a,vs,h1,SqT.out hp h2,Reps.out2 hp ds vs (by unfold zVh at f;exact f) h3⟩
 | .lst ds,_,f,_=>by unfold zVh at f;cases f
 | .obj c ns ds,_,f,h=>by
   unfold Rep at h ⊢
   obtain⟨C,a,dx,vs,h0,h1,h2,h3,h4⟩:=h
   exact⟨C,a,dx,vs,h0,h1,by rw[kJ (fun z=>by rw[z,hp] at h2;cases h2)];exact h2,h3,Reps.out2 hp ds vs (by unfold zVh at f;exact f) h4⟩
 | .exc C ns ds,_,f,_=>by unfold zVh at f;cases f
theorem Reps.out2 {K:jg}{G:Hp}{p:Addr}{us:List V}(hp:G p=some (.lst us)):∀(ds:List D) (vs:List V),uX ds=true->Reps K G ds vs->Reps K (zNh G p) ds vs
 | [],_,_,h=>by unfold Reps at h ⊢;exact h
 | d::r,_,f,h=>by
   unfold Reps at h ⊢
   obtain⟨v,vr,h1,h2,h3⟩:=h
   unfold uX at f
   rw[Qc] at f
   exact⟨v,vr,h1,Rep.out2 hp d v f.1 h2,Reps.out2 hp r vr f.2 h3⟩
end
section
variable {X:Cx} {e:Expr} {es:List Expr} {ga:Lf} {pos p:Pos} {st:Stmt}
def zPf (K:jg)(C:Addr)(js:List Nat)(ns:List Str)(fl:Str)(l:Lf):TS:=fun DD σ H=>∃(G0 H0 G:Hp) (ρ:List B) (p dx:Addr) (pre:List Str) (us vs:List V) (es:List D),
 Good K G0 H0 G H σ ρ/\zWf ρ/\σ[0]?=some (some (.ref p))/\H p=some (.ins C dx (pre.zip us))/\G p=none/\H0 p=none/\pre.length=us.length/\(pre++(ns++[fl])).Nodup/\(pre++(ns++[fl])).length<=900/\js.map (fun j=>σ[j]?)=vs.map (fun v=>some (some v))/\l ρ=some es /\
 ∀H' G' q ws,Step G0 H0 G' H'->H' p=some (.ins C dx ((pre++(ns++[fl])).zip (us++vs++[.ref q])))->G' p=none->H0 q=none->H' q=some (.lst ws)->G' q=none->Reps K G' es ws->DD.nx σ H'
def zU4 {C:Addr}{fl x:Str}{pos' p1:Pos}(hcl:Cls X.K C)(hn:NoAttr X.K C fl)(hself:X.N[0]?=some x)(hvis:Vis X.env.scope x)(he:PFr X e ga)(hd:(x==("__debug__":Str))=false:=by decide)(hcd:(x==("__classdict__":Str))=false:=by decide)
   (hs:swapsWith e (some (.Attribute (.Name x p1) fl pos')) pos.line X.env=pure false:=by rfl):PSs X [.Assign [.Attribute (.Name x p1) fl pos'] e pos] (zPf X.K C [] [] fl ga):=by
 intro Z s σ H D I h
 refine zZq (zPG (pX hself hvis hd hcd) he hs) zST Z s σ H D I ?_
 obtain⟨G0,H0,G,ρ,p,dx,pre,us,vs,es,j2,now,hself,hp,gp,h0,hl,nd,hz,hj,hes,k⟩:=h
 cases vs with
 | cons _ _=>cases hj
 | nil =>
 rw[Ws] at nd hz k
 rw[Wx] at k
 have hlp:pre.length < 1000:=by rw[Qk] at hz;omega
 have hnp:fl∉pre:=fun z=>(Tp.mp nd).2.2 fl z fl Qf rfl
 refine⟨G0,H0,G,ρ,es,j2,hes,fun q ws H1 G1 s1 hq0 hq1 hq2 r1=>⟨.ref p,hself,p,C,dx,pre.zip us,rfl,s1.hh _ _ hp,hcl,hn,?_,?_⟩⟩
 · rw[Oa];omega
 · have hne:H p≠none:=by rw[hp];exact fun z=>nomatch z
   have hqp:q≠p:=fun z=>hne (by rw[←z];exact hq0)
   have gp1:G1 p=none:=(s1.new p hne).trans gp
   have good2:=(j2.step s1).wrX now gp1 h0 (o:=.ins C dx (iH fl (.ref q) (pre.zip us)))
   refine k _ G1 q ws good2.st ?_ gp1 ?_ ?_ hq2 r1
   · rw[yW,zZ7 hl hnp]
   · cases z:H0 q with
     | none=>rfl
     | some o=>have:=j2.st.hh q o z;rw[hq0] at this;cases this
   · rw[yL hqp];exact hq1
def mH (j:Nat){C:Addr}{f fl x y:Str}{js:List Nat}{ns:List Str}{l:Lf}{rest:List Stmt}{pos' p1 p2:Pos}(hcl:Cls X.K C)(hn:NoAttr X.K C f)(hself:X.N[0]?=some x)(hvis:Vis X.env.scope x)(hy:X.N[j]?=some y)(hvy:Vis X.env.scope y)(hr:PSs X rest (zPf X.K C js ns fl l))(hd:(x==("__debug__":Str))=false:=by decide)(hcd:(x==("__classdict__":Str))=false:=by decide)(hdy:(y==("__debug__":Str))=false:=by decide)(hcy:(y==("__classdict__":Str))=false:=by decide)
   (hs:swapsWith (.Name y p2) (some (.Attribute (.Name x p1) f pos')) pos.line X.env=pure false:=by rfl):PSs X (.Assign [.Attribute (.Name x p1) f pos'] (.Name y p2) pos::rest) (zPf X.K C (j::js) (f::ns) fl l):=by
 intro Z s σ H D I h
 refine zZq (zPG (pX hself hvis hd hcd) (pX hy hvy hdy hcy) hs) hr Z s σ H D I ?_
 obtain⟨G0,H0,G,ρ,p,dx,pre,us,vs,es,j2,now,hself,hp,gp,h0,hl,nd,hz,hj,hes,k⟩:=h
 cases vs with
 | nil=>cases hj
 | cons v vs =>
 rw[Qu,Qu] at hj
 injection hj with hj1 hj2
 have hlp:pre.length < 1000:=by rw[Qk] at hz;omega
 have hnp:f∉pre:=fun z=>(Tp.mp nd).2.2 f z f Qf rfl
 have e1:pre++(f::ns++[fl])=(pre++[f])++(ns++[fl]):=jd
 refine⟨v,hj1,.ref p,hself,p,C,dx,pre.zip us,rfl,hp,hcl,hn,?_,?_⟩
 · rw[Oa];omega
 · have hne:H p≠none:=by rw[hp];exact fun z=>nomatch z
   refine⟨G0,H0,G,ρ,p,dx,pre++[f],us++[v],vs,es,j2.wrX now gp h0,now,hself,?_,gp,h0,by rw[Qk,Qk,hl];rfl,by rw[←e1];exact nd,by rw[←e1];exact hz,hj2,hes,fun H' G' q ws st q1 q2 q4 q5 q6 q7=>?_⟩
   · rw[yW,zZ7 hl hnp]
   · refine k H' G' q ws st (by rw[e1,show us++v::vs++[.ref q]=us++[v]++vs++[.ref q] by simp];exact q1) q2 q4 q5 q6 q7
end
def zJA (K:jg)(C:Addr)(ns:List Str)(fl:Str)(n:Nat)(l:List D->Option (List D)):Sp:=fun vs H Q _=>∃(p dx:Addr) (rest:List V) (G H0:Hp) (ds es:List D),vs = .ref p::rest/\H=upd (upd H0 dx (.own p)) p (.ins C dx [])/\H0 p=none/\H0 dx=none/\dx≠p/\Same G H0/\Reps K G ds rest/\ds.length=n/\l ds=some es /\
 ∀H' G' q ws,Step G H0 G' H'->H' p=some (.ins C dx ((ns++[fl]).zip (rest.take ns.length++[.ref q])))->G' p=none->H0 q=none->H' q=some (.lst ws)->G' q=none->Reps K G' es ws->Q .non H'
def zRQ {N:List Str}{v:V}{rest:List V}:∀(m:Nat),m<=rest.length->(List.range' 1 m).map (fun j=>(nQ N (v::rest))[j]?)=(rest.take m).map fun u=>some (some u):=by
 intro m hm
 apply List.ext_getElem
 · simp;omega
 · intro i h1 h2
   have hi:i < m:=by simpa using h1
   have hr:i < rest.length:=jc
   rw[List.getElem_map,List.getElem_map,List.getElem_range',List.getElem_take]
   unfold nQ
   rw[Es (by rw[Qt,Qo];omega),Wa,show 1+1*i=i+1 by omega,Qx,Qi hr]
   rfl
section
variable {P:Program} {w:World} {K:jg} {mg:Str->Option Value} {base:Heap} {x qual:Str} {st:Stmt} {f C:Addr} {fd:FuncData} {N ps ns:List Str} {k:Nat} {sf fl:Str}
def zRT {l:Lf}(F:Fun K x qual st f fd)(S:FnScope N (sf::ps) (zS st))(hnd:(ns++[fl]).Nodup)(j5:(ns++[fl]).length<=900)(hm:ns.length<=ps.length)
   (hb:∀(j9:Value) (A:Around) (outer:List Env) (s:Shared) (H:Hp) (E:XK),Room k (A.deeper (envOfC qual (zS st) s.heap.objs.size f j9))->PSs (zXn CX0 P w K mg base N qual (zS st) f j9 A outer s H E).nox (wH st) (zPf K C (List.range' 1 ns.length) ns fl l)) :
   FnOk P w K mg base CX0 (k+1) f fd (sf::ps) (zJA K C ns fl ps.length fun ds=>l (lG N.length ds)):=by
 refine F.ok S (fun vs H Q E h=>?_) (fun j9 A outer s H vs Q E hr h=>⟨_,hb j9 A outer s H E hr,?_⟩)
 · obtain⟨p,dx,rest,G,H0,ds,es,rfl,_,_,_,_,_,rs,hl,_⟩:=h
   rw[Qo,Qo,←rs.length,hl]
 · obtain⟨p,dx,rest,G,H0,ds,es,rfl,rfl,h1,h2,h3,sub,rs,hl,hes,k⟩:=h
   have hne:p≠dx:=h3.symm
   have hp1:(upd H0 dx (.own p)) p=none:=by rw[yL hne];exact h1
   have st1:Step G H0 G (upd H0 dx (.own p)):=Step.own sub h2
   have st2:Step G H0 G (upd (upd H0 dx (.own p)) p (.ins C dx [])):=st1.trans (Step.own st1.sub hp1)
   have j2:Good K G H0 G (upd (upd H0 dx (.own p)) p (.ins C dx [])) (nQ N (.ref p::rest)) (lG N.length ds):=by
     refine⟨st2,?_,fun i j a es es' q1=>absurd q1 ((zXI _ ds).1 i es)⟩
     unfold nQ lG
     rw[Qu,Qo,Re,←rs.length]
     exact .cons .no (zYH _ rs)
   have hrl:rest.length=ps.length:=by rw[←rs.length,hl]
   refine⟨G,H0,G,_,p,dx,[],[],rest.take ns.length,es,j2,zXI _ ds,rfl,yW,sub.free h1,h1,rfl,hnd,j5,zRQ _ (by rw[hrl];exact hm),hes,fun H' G' q ws s' q1 q2 q4 q5 q6 q7=>k H' G' q ws s' q1 q2 q4 q5 q6 q7⟩
variable {X:Cx} {b c e:Expr} {es:List Expr} {pos p:Pos}
def zTe (K:jg)(g:Lf)(i:Nat):TA:=fun σ H Q=>∃(G0 H0 G:Hp) (ρ:List B) (ds own:List D),Good K G0 H0 G H σ ρ/\g ρ=some ds/\ρ[i]?=some (.ow own) /\
 ∀vs pL vsL H' G',Step G H G' H'->Reps K G' ds vs->H' pL=some (.lst vsL)->G' pL=none->Reps K G' own vsL->Q (vs++[.ref pL]) H'
def zSv (i:Nat){x:Str}(hN:X.N[i]?=some x:=by rfl)(hv:Vis X.env.scope x:=by first | exact Or.inl rfl | exact Or.inr (Or.inl rfl) | exact Or.inr (Or.inr rfl))(hd:(x==("__debug__":Str))=false:=by decide)(hcd:(x==("__classdict__":Str))=false:=by decide):PA X [.Name x p] (zTe X.K zR i):=fun pos Z s σ H Q I h=>by
 refine zE (pX hN hv hd hcd) yO jf pos Z s σ H Q I ?_
 obtain⟨G0,H0,G,ρ,ds,own,j2,hg,ho,k⟩:=h
 cases hg
 obtain⟨pL,vsL,hσ,hH,hG,hH0,rL⟩:=j2.addr ho
 exact⟨.ref pL,hσ,k [] pL vsL H G (.refl j2.sub) (yR.mpr rfl) hH hG rL⟩
def jK {i:Nat}{f:Ef}{g:Lf}(he:PF X e f)(hr:PA X es (zTe X.K g i))(hs:starEach (e::es) X.env=(false,eval e X.env)::starEach es X.env:=by rfl):PA X (e::es) (zTe X.K (zY f g) i):=fun pos Z s σ H Q I h=>by
 refine zE he hr hs pos Z s σ H Q I ?_
 obtain⟨G0,H0,G,ρ,ds,own,j2,hg,ho,k⟩:=h
 obtain⟨d,dr,h1,h2,rfl⟩:=zYX hg
 exact⟨G0,H0,G,ρ,d,j2,h1,fun v H1 G1 s1 r1=>⟨G0,H0,G1,ρ,dr,own,j2.step s1,h2,ho,fun vs pL vsL H' G' s2 r2 hH hG rL=>k (v::vs) pL vsL H' G' (s1.trans s2) (zB.mpr ⟨v,vs,rfl,r1.mono s2.gg,r2⟩) hH hG rL⟩⟩
def zYN (i:Nat)(c:Str)(ns:List Str)(fl:Str)(n:Nat)(l:List D->Option (List D))(g:Lf):Ef:=fun ρ=>match ρ[i]? with
 | some (.ow own)=>(g ρ).bind fun ds=>(l (ds++[.lst own])).bind fun es=>if ds.length+1=n/\ns.length=ds.length/\uX es=true then some (.obj c (ns++[fl]) (ds++[.lst es])) else none
 | _=>none
def zS2 (i:Nat){k n:Nat}{C fI:Addr}{fd:FuncData}{ps ns:List Str}{c fl:Str}{g:Lf}{l:List D->Option (List D)}(hC:ClsAt X.K c C)(M:Mk X.K C fI)(F:FnOk X.prog X.w X.K X.mg X.base CX0 k fI fd ps (zJA X.K C ns fl n l))(hr:Room (k+1) X.A)(hg:Gl X c)(hm:X.mg c=some (.ref C))(hb:Binds X.K fd ps [])
   (ha:PA X (e::es) (zTe X.K g i)) (hdb:(c==("__debug__":Str))=false:=by decide) (he:starEach (e::es) X.env=(false,eval e X.env)::starEach es X.env:=by rfl) (hpl:(backTo pos (starEach es X.env)).any (·.1)=false:=by rfl) :
   PF X (.Call (.Name c p) (e::es) [] pos) (zYN i c ns fl n l g):=by
 refine PE.to (zOA (E:=E0) M F hr hg hm hb .nil zRd ha hdb he hpl) ?_
 rintro σ H Q ⟨G0,H0,G,ρ,d,j2,hf,k⟩
 unfold zYN at hf
 split at hf
 · rename_i own ho
   obtain⟨ds,h1,hf⟩:=Qw.mp hf
   obtain⟨ys,h3,hf⟩:=Qw.mp hf
   split at hf
   · rename_i hn
     obtain⟨hn1,hn2,fy⟩:=hn
     cases hf
     refine⟨G0,H0,G,ρ,ds,own,j2,h1,ho,fun vs0 pL vsL H1 G1 s1 r0 hH hG rL x dx hx hdx hne=>?_⟩
     have j5:ds.length=vs0.length:=r0.length
     have sL:Same G1 (upd G1 pL (.lst vsL)):=Same.new hG
     have subL:Same (upd G1 pL (.lst vsL)) H1:=fun b u q=>by
       by_cases z:b=pL
       · subst z;rw[yW] at q;rw[hH];exact q
       · rw[yL z] at q;exact s1.sub b u q
     have rds:Reps X.K (upd G1 pL (.lst vsL)) (ds++[.lst own]) (vs0++[.ref pL]):=(r0.mono sL).snoc (xB.mpr ⟨pL,vsL,rfl,.inl (.inl yW),rL.mono sL⟩)
     refine⟨x,dx,vs0++[.ref pL]++[],upd G1 pL (.lst vsL),H1,ds++[.lst own],ys,rfl,rfl,hx,hdx,hne,subL,by rw[Wx];exact rds,by rw[Qk];exact hn1,h3,fun H' G' q ws s' q1 q2 q4 q5 q6 q7=>⟨rfl,?_⟩⟩
     have et:(vs0++[V.ref pL]++[]).take ns.length=vs0:=by rw[Wx,hn2,j5,List.take_left]
     rw[et] at q1
     have xL:x≠pL:=fun z=>by rw[z,hH] at hx;cases hx
     have qL:q≠pL:=fun z=>by rw[z,hH] at q4;cases q4
     have xq:x≠q:=fun z=>by rw[z,q5] at q1;cases q1
     have f1:=s'.frz q4 q5 q6
     have f2:=f1.frz hx q1 (by rw[yL xq];exact q2)
     obtain⟨st,hp⟩:=f2.back hG hH
     have sm:Same G' (upd (upd G' q (.lst ws)) x (.ins C dx ((ns++[fl]).zip (vs0++[.ref q])))):=(Same.new q6).trans (Same.new (by rw[yL xq];exact q2))
     refine k _ _ _ (s1.trans st) (zZf.mpr ⟨C,x,dx,vs0++[.ref q],hC,rfl,by rw[kJ xL,yW],by rw[Qk,Qk,hn2];rfl,?_⟩)
     refine(r0.mono st.gg).snoc (xB.mpr ⟨q,ws,rfl,.inl (.inl ?_),Reps.out2 hp ys ws fy (q7.mono sm)⟩)
     rw[kJ qL,yL (fun z=>xq z.symm),yW]
   · cases hf
 · cases hf
end
section
variable {x:Str} {st:Stmt} {a b c d e f g k:Str}
def bd8 (h:∀kV dc pm an cd ct u v z w y u' v' z',bindArgs (fnQ x st kV dc pm an cd ct) ⟨[u,v,z,w,y,u',v',z'],[]⟩=pure [(a,u),(b,v),(c,z),(d,w),(e,y),(f,u'),(g,v'),(k,z')]):Bd x st [a,b,c,d,e,f,g,k]:=fun _ _ _ _ _ _ us hl=>match us,hl with | [_,_,_,_,_,_,_,_],_=>h _ _ _ _ _ _ _ _ _ _ _ _ _ _
end
def zWg (o:Option D):(o.map Out.rt).bind xR=o:=by cases o<;>rfl
def yE {f g:Sf}{ρ ρ':List B}(h:f ρ=some (.nx ρ')):zQ f g ρ=g ρ':=by unfold zQ;rw[h];rfl
def xZ {f g:Sf}{ρ ρ':List B}{r:Option D}(h:f ρ=some (.nx ρ'))(k:(g ρ').bind xR=r):(zQ f g ρ).bind xR=r:=by rw[yE h];exact k
def zZe {f g:Sf}{ρ:List B}{d:D}(h:f ρ=some (.rt d)):zQ f g ρ=some (.rt d):=by unfold zQ;rw[h];rfl
def nB {g:Gf}{body:Sf}{d:D}{r:List D}{ρ ρ1 ρ2:List B}(h1:g d ρ=some ρ1)(h2:body ρ1=some (.nx ρ2)):mS g body (d::r) ρ=mS g body r ρ2:=by
 rw[mS,h1,Qq,h2,Qq]
def zK {f:Ef}{g:Lf}{ρ:List B}{d:D}{ds:List D}(h1:f ρ=some d)(h2:g ρ=some ds):zY f g ρ=some (d::ds):=by unfold zY;rw[h1,h2];rfl
def bL {g:Lf}{ρ:List B}{ds:List D}(h:g ρ=some ds):eL g ρ=some (.lst ds):=by unfold eL;rw[h];rfl
def iP {n:Nat}{f:jv}{g:Lf}{ρ:List B}{ds:List D}(h:g ρ=some ds)(hl:ds.length=n):zN n f g ρ=f ds:=by unfold zN;rw[h,Qq,Qv hl]
def zWM {c:Str}{ns:List Str}{n:Nat}{f:List D->Option (List D)}{g:Lf}{ρ:List B}{ds xs:List D}(h:g ρ=some ds)(hl:ds.length=n)(hf:f ds=some xs)(hn:ns.length=xs.length):dW c ns n f g ρ=some (.obj c ns xs):=by
 unfold dW;rw[h,Qq,Qv hl,hf,Qq,Qv hn]
def zSb {g:Gf}{body:Sf}{P:List B->Prop}:∀(ds:List D),(∀d∈ds,∀ρ,P ρ->∃ρ1 ρ2,g d ρ=some ρ1/\body ρ1=some (.nx ρ2)/\P ρ2)->∀ρ,P ρ->∃ρ',mS g body ds ρ=some (.nx ρ')/\P ρ'
 | [],_,ρ,h=>⟨ρ,rfl,h⟩
 | d::r,hs,ρ,h=>by
   obtain⟨ρ1,ρ2,e1,e2,h2⟩:=hs d Qf ρ h
   obtain⟨ρ',e,h'⟩:=zSb r (fun d hd=>hs d (Qa _ hd)) ρ2 h2
   exact⟨ρ',by rw[nB e1 e2];exact e,h'⟩
def zTa {g:Gf}{body:Sf}{P:Nat->List B->Prop}:∀(ds:List D) (n:Nat),(∀(i:Nat) (d:D),ds[i]?=some d->∀ρ,P (n+i) ρ->∃ρ1 ρ2,g d ρ=some ρ1/\body ρ1=some (.nx ρ2)/\P (n+i+1) ρ2)->∀ρ,P n ρ->∃ρ',mS g body ds ρ=some (.nx ρ')/\P (n+ds.length) ρ'
 | [],_,_,ρ,h=>⟨ρ,rfl,h⟩
 | d::r,n,hs,ρ,h=>by
   obtain⟨ρ1,ρ2,e1,e2,h2⟩:=hs 0 d rfl ρ h
   obtain⟨ρ',e,h'⟩:=zTa r (n+1) (fun i d hd ρ hρ=>by
     have q:=hs (i+1) d (by simpa using hd) ρ (by rw[show n+(i+1)=n+1+i by omega];exact hρ)
     rw[show n+(i+1)+1=n+1+i+1 by omega] at q
     exact q) ρ2 h2
   exact⟨ρ',by rw[nB e1 e2];exact e,by rw[Qo,show n+(r.length+1)=n+1+r.length by omega];exact h'⟩
def jA {lo:Int}{n:Nat}{d:D}(h:d∈tD lo n):∃i:Nat,i < n/\d = .int (lo+i):=by
 unfold tD at h
 obtain⟨i,hi,rfl⟩:=Wj.mp h
 exact⟨i,Te.mp hi,rfl⟩
def zR4 {lo:Int}{n i:Nat}{d:D}(h:(tD lo n)[i]?=some d):i < n/\d = .int (lo+i):=by
 have hl:(tD lo n).length=n:=by simp[tD]
 have hi:i < n:=by rw[←hl];exact(Ww.mp h).1
 unfold tD at h
 rw[Wa,List.getElem?_range hi] at h
 exact⟨hi,(Eg h).symm⟩
def tT (lo:Int)(n:Nat):(tD lo n).length=n:=by simp[tD]
def zRz {elt:Ef}{h:D->D}{rest:List B}:∀(ds:List D) (x0:B) (j7:List D),(∀d∈ds,elt (.fz d::rest)=some (h d))->vL (gN 0) tOK elt ds (x0::rest) j7=some (j7++ds.map h)
 | [],_,j7,_=>by simp[vL]
 | d::r,x0,j7,hh=>by
   unfold vL
   have e1:gN 0 d (x0::rest)=some (.fz d::rest):=rfl
   have e2:tOK (.fz d::rest)=some true:=rfl
   rw[e1,Qq,e2,Qq,Qv rfl,hh d Qf,Qq,zRz r _ _ fun q hq=>hh q (Qa _ hq)]
   simp
def zS4 {α:Type}(p:α->Bool):∀l:List α,zOa (l.map fun c=>.bl (p c))=some (l.map p)
 | []=>rfl
 | x::r=>by rw[Qu,zOa,zS4 p r];rfl
def uM {t:List D}(h:t.length<=100000):okL t=some t:=by
 unfold okL
 rw[Qv h]
def zMW {x:Str}(h:x.length<=100000):zPH (.str x)=some (.int x.length):=by
 show(if x.length<=lim then _ else none)=_
 rw[Qv h]
def cM {α:Type}(xs:List α)(i:Int)(d:α)(h0:0<=i)(h1:i < xs.length):atI xs i=some (xs.getD i.toNat d):=by
 unfold atI ixN
 rw[Qv h0,Qv h1]
 have:i.toNat < xs.length:=jc
 simp[List.getD,this]
def rE {i j:Int}(h1 : -18446744073709551616 < i)(h2:i < 18446744073709551616):zYK i j=true:=by
 unfold zYK;simp only[Tl,Qc,Wb];exact .inl ⟨jc,jc⟩
def zKU {i j:Int}(h1 : -18446744073709551616 < j)(h2:j < 18446744073709551616):zYK i j=true:=by
 unfold zYK;simp only[Tl,Qc,Wb];exact .inr ⟨jc,jc⟩
def xM (x y:Str):(x++y).length=x.length+y.length:=Str.length_append x y
def zJy (c:Nat)(y:Str):gIn (.str ⟨#[c]⟩) (.str y)=some (decide (c∈y.cps.toList)):=by
 show some (!(Builtin.Str.occurrences y ⟨#[c]⟩ 0 y.length 1).isEmpty)=_
 rw[StrLaws.found_one]
def zQV {x y:Str}(h:x.length+y.length<=100000):zHE (.str x) (.str y)=some (.str (x++y)):=by
 show(if x.length+y.length<=lim then _ else none)=_
 rw[Qv h]
def zOY {x:Str}{i:Int}(h0:0<=i)(h1:i < x.length)(h:x.length<=100000):atD (.str x) (.int i)=some (.str ⟨#[x.cps.toList.getD i.toNat 0]⟩):=by
 have hl:x.cps.toList.length=x.length:=Ev
 show(if x.length<=lim then _ else none)=_
 rw[Qv h,cM _ i 0 h0 (by rw[hl];exact h1)]
 rfl
end L2
noncomputable section
namespace My
open PySem L2
abbrev zYU:Stmt:=top 70
abbrev sA:Stmt:=top 78
abbrev fK:Stmt:=top 75
abbrev cK:Stmt:=top 79
abbrev uN:Stmt:=top 81
abbrev oX:Stmt:=top 9
abbrev kQ:Stmt:=top 7
abbrev aC:Stmt:=top 42
abbrev nC:Stmt:=top 41
abbrev mU:Stmt:=top 49
abbrev fZ:Stmt:=top 62
abbrev iJ:Stmt:=top 61
abbrev mV:Stmt:=top 60
abbrev nF:Stmt:=top 30
abbrev zY8:Stmt:=top 29
abbrev dU:Stmt:=top 45
abbrev aL:Stmt:=top 44
abbrev lB:Stmt:=top 10
abbrev iN:Stmt:=top 8
abbrev dJ:Stmt:=top 46
abbrev zQG:Stmt:=top 32
abbrev gW:Stmt:=top 43
abbrev wK:Stmt:=top 28
abbrev kG:Stmt:=top 67
abbrev gI:Stmt:=top 64
abbrev zXN:Stmt:=top 5
abbrev jV:Stmt:=top 14
abbrev zXh:Stmt:=top 16
abbrev zXO:Stmt:=top 6
abbrev zYY:Stmt:=top 4
abbrev zYM:Stmt:=top 15
abbrev cD:Stmt:=top 34
abbrev zZw:Stmt:=top 33
abbrev aN:Stmt:=top 36
abbrev qU:Stmt:=top 37
abbrev zWG:Stmt:=top 47
abbrev gK:Stmt:=top 50
abbrev fJ:Stmt:=top 66
abbrev kU:Stmt:=top 65
abbrev aB:Stmt:=top 63
abbrev aH:Stmt:=top 71
abbrev sT:Stmt:=top 88
abbrev jU:Stmt:=top 69
abbrev aR:Stmt:=top 76
abbrev kL:Stmt:=top 73
abbrev gY:Stmt:=top 74
abbrev nE:Stmt:=top 72
abbrev mT:Stmt:=top 77
abbrev aJ:Stmt:=top 80
abbrev mI:Stmt:=top 87
abbrev sK:Stmt:=top 85
abbrev lW:Stmt:=top 86
abbrev gP:Stmt:=top 82
abbrev jE:Stmt:=top 83
abbrev zZX:Stmt:=top 84
abbrev zRl:Stmt:=top 89
abbrev cB:Stmt:=rR (top 12) 0
abbrev jC:Stmt:=rR (top 13) 0
abbrev jH:Stmt:=rR (top 59) 0
set_option genInjectivity false
set_option genSizeOf false
set_option genSizeOfSpec false
structure Txt (w:World)(K:jg)(mg:Str->Option Value) where
 q0:FnT K mg "_law_mix" zYU ["_law_cell","_law_factor"]
 q1:FnT K mg "_law_corners" sA ["_law_dims"]
 q2:FnT K mg "_law_turn" fK ["_law_number","_law_dims"]
 q3:FnT K mg "_law_loose" cK ["_law_dims","_law_cell"]
 q4:FnT K mg "_law_curve_rows" uN ["_law_word_here","_law_joined_here","_law_dims","_law_parts"]
 q5:FnT K mg "corner_text" oX ["corner"]
 q6:FnT K mg "turn_text" kQ ["turn"]
 q7:FnT K mg "part_row" aC ["part"]
 q8:FnT K mg "curve_rows" nC ["curve"]
 q9:FnT K mg "place_text" mU ["place"]
 q10:FnT K mg "value_text" fZ ["value"]
 q11:FnT K mg "deed_row" iJ ["deed"]
 q12:FnT K mg "scene_text" mV ["scene"]
 q13:FnT K mg "is_made_of" nF ["text","signs","longest"]
 q14:FnT K mg "is_word" zY8 ["text"]
 q15:FnT K mg "read_head" dU ["words"]
 q16:FnT K mg "words_at" aL ["rows","row"]
 q17:FnT K mg "corner_of" lB ["text","dims"]
 q18:FnT K mg "turn_of" iN ["text","dims"]
 q19:FnT K mg "read_part" dJ ["words","dims","row"]
 q20:FnT K mg "full" zQG ["dims","level"]
 q21:FnT K mg "curve_from" gW ["rows"]
 f_number_of:Addr
 fd_number_of:FuncData
 F_number_of:FunD K "number_of" "number_of" wK f_number_of fd_number_of
 b_number_of:Binds K fd_number_of ["text","most"] []
 m_number_of:mg "number_of"=some (.ref f_number_of)
 bd_number_of:Binds K fd_number_of ["text","most"] [.none]
 q23:FnT K mg "number_from" kG ["text","least","most"]
 q24:FnT K mg "read_floor" gI ["words","dims","row"]
 q25:FnT K mg "still" zXN ["dims"]
 q26:FnT K mg "first_state" jV ["dims"]
 q27:FnT K mg "walked" zXh ["curve","back","number"]
 q28:FnT K mg "after" zXO ["one","other"]
 q29:FnT K mg "turned" zYY ["turn","corner"]
 q30:FnT K mg "part_at" zYM ["curve","state","digit"]
 q31:FnT K mg "next_to" cD ["one","other"]
 q32:FnT K mg "deeper" zZw ["place","corner"]
 q33:FnT K mg "unmet_at" aN ["curve","first"]
 q34:FnT K mg "meeting_of" qU ["curve"]
 q35:FnT K mg "fitted" zWG ["curve"]
 q36:FnT K mg "place_of" gK ["text","dims"]
 q37:FnT K mg "read_value" fJ ["kind","word","dims"]
 q38:FnT K mg "read_deed" kU ["words","dims","row"]
 q39:FnT K mg "scene_of" aB ["text"]
 q40:FnT K mg "_law_same" aH ["_law_found","_law_due"]
 q41:FnT K mg "_law_scene_same" sT ["_law_scene","_law_word_here","_law_joined_here","_law_dims","_law_parts","_law_level","_law_size","_law_deeds"]
 q42:FnT K mg "_law_cell_at" jU ["_law_script","_law_k"]
 q43:FnT K mg "_law_base" aR ["_law_dims"]
 q44:FnT K mg "_law_after" kL ["_law_one","_law_other"]
 q45:FnT K mg "_law_undone" gY ["_law_turn_here"]
 q46:FnT K mg "_law_turned" nE ["_law_turn_here","_law_corner"]
 q47:FnT K mg "_law_joined" mT ["_law_dims","_law_number"]
 q48:FnT K mg "_law_word" aJ ["_law_cell","_law_k"]
 q49:FnT K mg "_law_raised" mI ["_law_deed_here"]
 q50:FnT K mg "_law_place_text" sK ["_law_place"]
 q51:FnT K mg "_law_deed_row" lW ["_law_deed_here"]
 q52:FnT K mg "_law_spot" gP ["_law_number","_law_dims","_law_level"]
 q53:FnT K mg "_law_box" jE ["_law_number","_law_dims","_law_level","_law_most"]
 q54:FnT K mg "_law_deed" zZX ["_law_number","_law_dims","_law_level","_law_names","_law_most"]
 q55:FnT K mg "law" zRl ["_law_script"]
 C_Part:Addr
 fi_Part:Addr
 fdi_Part:FuncData
 ca_Part:ClsAt K "Part" C_Part
 cl_Part:Cls K C_Part
 mc_Part:mg "Part"=some (.ref C_Part)
 Fi_Part:Fun K "__init__" "Part.__init__" cB fi_Part fdi_Part
 bi_Part:Binds K fdi_Part ["self","corner","turn","back"] []
 mk_Part:Mk K C_Part fi_Part
 n_Part_back:NoAttr K C_Part "back"
 n_Part_corner:NoAttr K C_Part "corner"
 n_Part_turn:NoAttr K C_Part "turn"
 C_Curve:Addr
 fi_Curve:Addr
 fdi_Curve:FuncData
 ca_Curve:ClsAt K "Curve" C_Curve
 cl_Curve:Cls K C_Curve
 mc_Curve:mg "Curve"=some (.ref C_Curve)
 Fi_Curve:Fun K "__init__" "Curve.__init__" jC fi_Curve fdi_Curve
 bi_Curve:Binds K fdi_Curve ["self","name","dims","joined","parts"] []
 mk_Curve:Mk K C_Curve fi_Curve
 n_Curve_dims:NoAttr K C_Curve "dims"
 n_Curve_joined:NoAttr K C_Curve "joined"
 n_Curve_name:NoAttr K C_Curve "name"
 n_Curve_parts:NoAttr K C_Curve "parts"
 C_Scene:Addr
 fi_Scene:Addr
 fdi_Scene:FuncData
 ca_Scene:ClsAt K "Scene" C_Scene
 cl_Scene:Cls K C_Scene
 mc_Scene:mg "Scene"=some (.ref C_Scene)
 Fi_Scene:Fun K "__init__" "Scene.__init__" jH fi_Scene fdi_Scene
 bi_Scene:Binds K fdi_Scene ["self","curve","level","size","deeds"] []
 mk_Scene:Mk K C_Scene fi_Scene
 n_Scene_curve:NoAttr K C_Scene "curve"
 n_Scene_deeds:NoAttr K C_Scene "deeds"
 n_Scene_level:NoAttr K C_Scene "level"
 n_Scene_size:NoAttr K C_Scene "size"
 t_BITS:Tok
 c_BITS:mg "BITS"=some (.str "01" t_BITS)
 t_FLIPS:Tok
 c_FLIPS:mg "FLIPS"=some (.str "+-" t_FLIPS)
 t_AXES:Tok
 c_AXES:mg "AXES"=some (.str "xyz" t_AXES)
 t_FIGURES:Tok
 c_FIGURES:mg "FIGURES"=some (.str "0123456789" t_FIGURES)
 t_LETTERS:Tok
 c_LETTERS:mg "LETTERS"=some (.str "abcdefghijklmnopqrstuvwxyz" t_LETTERS)
 t_LONGEST_NUMBER:Tok
 c_LONGEST_NUMBER:mg "LONGEST_NUMBER"=some (.int 60 t_LONGEST_NUMBER)
 t_LONGEST_WORD:Tok
 c_LONGEST_WORD:mg "LONGEST_WORD"=some (.int 12 t_LONGEST_WORD)
 da_PROMISES:Addr
 c_PROMISES:mg "PROMISES"=some (.ref da_PROMISES)
 dc_PROMISES:DictC w K da_PROMISES [("joined",.bl true),("loose",.bl false)]
 da_DIMS:Addr
 c_DIMS:mg "DIMS"=some (.ref da_DIMS)
 dc_DIMS:DictC w K da_DIMS [("2",.int 2),("3",.int 3)]
 da_MOST_LEVEL:Addr
 c_MOST_LEVEL:mg "MOST_LEVEL"=some (.ref da_MOST_LEVEL)
 dc_MOST_LEVEL:DictN K da_MOST_LEVEL [(2,.int 6),(3,.int 4)]
 t_LEAST_SIZE:Tok
 c_LEAST_SIZE:mg "LEAST_SIZE"=some (.int 4 t_LEAST_SIZE)
 t_MOST_SIZE:Tok
 c_MOST_SIZE:mg "MOST_SIZE"=some (.int 12 t_MOST_SIZE)
 t_LEAST_MANY:Tok
 c_LEAST_MANY:mg "LEAST_MANY"=some (.int 1 t_LEAST_MANY)
 t_MOST_MANY:Tok
 c_MOST_MANY:mg "MOST_MANY"=some (.int 999 t_MOST_MANY)
 t_MOST_DEEDS:Tok
 c_MOST_DEEDS:mg "MOST_DEEDS"=some (.int 400 t_MOST_DEEDS)
 da_FORMS:Addr
 c_FORMS:mg "FORMS"=some (.ref da_FORMS)
 dc_FORMS:DictX w K da_FORMS [("put",(.tup [.str "name",.str "place",.str "place"])),("move",(.tup [.str "name",.str "place",.str "place"])),("take",(.tup [.str "name"])),("names",(.tup [])),("where",(.tup [.str "name"])),("inside",(.tup [.str "place",.str "place"])),("meeting",(.tup [.str "place",.str "place"])),("near",(.tup [.str "place",.str "many"])),("sharing",(.tup [])),("number",(.tup [.str "place"])),("place",(.tup [.str "number"])),("spans",(.tup [.str "place",.str "place"])),("cover",(.tup [.str "place",.str "place",.str "many"]))]
 z_abs:mg "abs"=none
 z_all:mg "all"=none
 z_bool:mg "bool"=none
 z_enumerate:mg "enumerate"=none
 z_int:mg "int"=none
 z_isinstance:mg "isinstance"=none
 z_len:mg "len"=none
 z_list:mg "list"=none
 z_max:mg "max"=none
 z_min:mg "min"=none
 z_range:mg "range"=none
 z_reversed:mg "reversed"=none
 z_sorted:mg "sorted"=none
 z_str:mg "str"=none
 z_sum:mg "sum"=none
 z_tuple:mg "tuple"=none
 z_zip:mg "zip"=none
set_option genInjectivity true
set_option genSizeOf true
set_option genSizeOfSpec true
section
seal PySem.Sem.wp
variable {P:Program} {w:World} {K:jg} {mg:Str->Option Value} {base:Heap}
def zKR:FnScope ["self","corner","turn","back"] ["self","corner","turn","back"] (zS cB):=xX ja
def zJl:Lf:=(zY (eV 1) (zY (eV 2) (zY (eV 3) zR)))
def zZS:List D->Option (List D):=fun ds=>zJl (lG 4 ds)
def zWS (T:Txt w K mg):FnOk P w K mg base CX0 1 T.fi_Part T.fdi_Part ["self","corner","turn","back"] (spI K T.C_Part ["corner","turn","back"] 3 zZS) :=
 zT5 (k:=0) T.Fi_Part zKR ja jb fun j9 A outer s H E hr =>
   (sZ T.cl_Part T.n_Part_corner rfl (Or.inl rfl) (zU 1) (sZ T.cl_Part T.n_Part_turn rfl (Or.inl rfl) (zU 2) (sZ T.cl_Part T.n_Part_back rfl (Or.inl rfl) (zU 3) zT4)))
def zUZ:FnScope ["self","name","dims","joined","parts"] ["self","name","dims","joined","parts"] (zS jC):=xX ja
def zKW:Lf:=(zY (eV 1) (zY (eV 2) (zY (eV 3) (zY (eL (gS (eV 4))) zR))))
def zZB:List D->Option (List D):=fun ds=>zKW (lG 5 ds)
def zNk (T:Txt w K mg):FnOk P w K mg base CX0 1 T.fi_Curve T.fdi_Curve ["self","name","dims","joined","parts"] (spI K T.C_Curve ["name","dims","joined","parts"] 4 zZB) :=
 zT5 (k:=0) T.Fi_Curve zUZ ja jb fun j9 A outer s H E hr =>
   (sZ T.cl_Curve T.n_Curve_name rfl (Or.inl rfl) (zU 1) (sZ T.cl_Curve T.n_Curve_dims rfl (Or.inl rfl) (zU 2) (sZ T.cl_Curve T.n_Curve_joined rfl (Or.inl rfl) (zU 3) (sZ T.cl_Curve T.n_Curve_parts rfl (Or.inl rfl) (vT (iU rfl T.z_list (zU 4))) zT4))))
def zKG:Lf:=(gS (eV 4))
def zVq:List D->Option (List D):=fun ds=>zKG (lG 5 ds)
def zQv (T:Txt w K mg):FnOk P w K mg base CX0 1 T.fi_Curve T.fdi_Curve ["self","name","dims","joined","parts"] (zJA K T.C_Curve ["name","dims","joined"] "parts" 4 zVq) :=
 zRT (k:=0) T.Fi_Curve zUZ ja jb jb fun j9 A outer s H E hr =>
   (mH 1 T.cl_Curve T.n_Curve_name rfl (Or.inl rfl) rfl (Or.inl rfl) (mH 2 T.cl_Curve T.n_Curve_dims rfl (Or.inl rfl) rfl (Or.inl rfl) (mH 3 T.cl_Curve T.n_Curve_joined rfl (Or.inl rfl) rfl (Or.inl rfl) (zU4 T.cl_Curve T.n_Curve_parts rfl (Or.inl rfl) (iU rfl T.z_list (zU 4))))))
def zVl:FnScope ["self","curve","level","size","deeds"] ["self","curve","level","size","deeds"] (zS jH):=xX ja
def zLa:Lf:=(zY (eV 1) (zY (eV 2) (zY (eV 3) (zY (eL (gS (eV 4))) zR))))
def zW8:List D->Option (List D):=fun ds=>zLa (lG 5 ds)
def zNm (T:Txt w K mg):FnOk P w K mg base CX0 1 T.fi_Scene T.fdi_Scene ["self","curve","level","size","deeds"] (spI K T.C_Scene ["curve","level","size","deeds"] 4 zW8) :=
 zT5 (k:=0) T.Fi_Scene zVl ja jb fun j9 A outer s H E hr =>
   (sZ T.cl_Scene T.n_Scene_curve rfl (Or.inl rfl) (zU 1) (sZ T.cl_Scene T.n_Scene_level rfl (Or.inl rfl) (zU 2) (sZ T.cl_Scene T.n_Scene_size rfl (Or.inl rfl) (zU 3) (sZ T.cl_Scene T.n_Scene_deeds rfl (Or.inl rfl) (vT (iU rfl T.z_list (zU 4))) zT4))))
def zMd:Lf:=(gS (eV 4))
def zVf:List D->Option (List D):=fun ds=>zMd (lG 5 ds)
def zQk (T:Txt w K mg):FnOk P w K mg base CX0 1 T.fi_Scene T.fdi_Scene ["self","curve","level","size","deeds"] (zJA K T.C_Scene ["curve","level","size"] "deeds" 4 zVf) :=
 zRT (k:=0) T.Fi_Scene zVl ja jb jb fun j9 A outer s H E hr =>
   (mH 1 T.cl_Scene T.n_Scene_curve rfl (Or.inl rfl) rfl (Or.inl rfl) (mH 2 T.cl_Scene T.n_Scene_level rfl (Or.inl rfl) rfl (Or.inl rfl) (mH 3 T.cl_Scene T.n_Scene_size rfl (Or.inl rfl) rfl (Or.inl rfl) (zU4 T.cl_Scene T.n_Scene_deeds rfl (Or.inl rfl) (iU rfl T.z_list (zU 4))))))
def zWC:FnScope ["_law_cell","_law_factor","_law_mixed"] ["_law_cell","_law_factor"] (zS zYU):=xX ja
def zYp:Sf:=(yM (wJ (xG (rY (eV 2) (eV 2)) (eC (.int 2147483629))) jo))
def cZ:Sf:=(zQ (yK 2 (xG (uU (rY (eV 0) (eV 1)) (eC (.int 12345))) (eC (.int 2147483647))))
   (zYp))
def zVs:Sf :=
   (cZ)
def vY:jv:=fnF 3 zVs
def rD (T:Txt w K mg):OkT P w base T.q0 1 2 vY :=
 xE (k:=0) T.q0.F zWC fun j9 A outer s H E hr =>
   (zV cZ rfl (zJ 2 zWC.nd (yA (uQ (uW (zU 0) (zU 1)) zX) zX))
     (zT (zO (xD (yA (uW (zU 2) (zU 2)) zX) zX))))
def mE:FnScope ["_law_dims","_law_corners_here"] ["_law_dims"] (zS sA):=xX ja
def zXU:Sf:=(zWx 1)
def fG:Sf:=(zQ (sIf (eB2 gEq (eV 0) jo) (kB 1 (uO 1 (eT (yN (iL (eV 1)) 2 [] (gT (zM (gN 0) (zM (gN 1) xI))) tOK (yT (zY (eV 0) (zY (eV 1) (zY jl zR))))) (yN (iL (eV 1)) 2 [] (gT (zM (gN 0) (zM (gN 1) xI))) tOK (yT (zY (eV 0) (zY (eV 1) (zY jm zR)))))))) xQ)
   (zXU))
def eU:Sf:=(zQ (uO 1 (yD (zY (yT (zY jl (zY jl zR))) (zY (yT (zY jm (zY jl zR))) (zY (yT (zY jl (zY jm zR))) (zY (yT (zY jm (zY jm zR))) zR))))))
   (fG))
def zVQ:Sf :=
   (eU)
def oQ:List D->Option (List D):=fnL 2 zVQ
def zWJ (T:Txt w K mg):zP9 P w base T.q1 1 1 oQ :=
 zZV (k:=0) T.q1.F mE fun j9 A outer s H E hr =>
   (zV eU rfl (uF 1 mE.nd (yI (zZ (zL (zZ zX (zZ zX zW))) (zZ (zL (zZ zX (zZ zX zW))) (zZ (zL (zZ zX (zZ zX zW))) (zZ (zL (zZ zX (zZ zX zW))) zW))))))
     (zV fG rfl (yQ (zF vW (zU 0) zX) (zT (uS 1 (uF 1 mE.nd (zW3 (wZ (zS sA) ["_law_dims","_law_corners_here"] ["_law_x","_law_y"] [] [] (zXT (xN (vM 0) (xN (vM 1) rM))) (zSZ (zU 1)) rfl rfl rfl ja (fun _ _ _ _=>(nM 2 rfl (zH (xU 0 (show(jw ["_law_x","_law_y"]) from ja)) (zH (xU 1 (show(jw ["_law_x","_law_y"]) from ja)) xF)) (yS (yS wV)))) (fun _ _ _ _=>yP) (fun _ _ _ _=>(zL (zZ (zU 0) (zZ (zU 1) (zZ zX zW)))))) (wZ (zS sA) ["_law_dims","_law_corners_here"] ["_law_x","_law_y"] [] [] (zXT (xN (vM 0) (xN (vM 1) rM))) (zSZ (zU 1)) rfl rfl rfl ja (fun _ _ _ _=>(nM 2 rfl (zH (xU 0 (show(jw ["_law_x","_law_y"]) from ja)) (zH (xU 1 (show(jw ["_law_x","_law_y"]) from ja)) xF)) (yS (yS wV)))) (fun _ _ _ _=>yP) (fun _ _ _ _=>(zL (zZ (zU 0) (zZ (zU 1) (zZ zX zW)))))))))) zI)
     (zT (zZN 1))))
def kZ:FnScope ["_law_number","_law_dims","_law_axes"] ["_law_number","_law_dims"] (zS fK):=xX ja
def qX:Sf:=(yM (wC (eL (yN (iR (eV 1)) 1 [2,0] (gN 0) tOK (yT (zY (eIx (eV 1) (eV 0)) (zY (xG (wJ (eV 2) (eIx (eL (yD (zY jm (zY jn (zY jp zR))))) (eV 0))) jn) zR)))))))
def qW:Sf:=(zQ (sIf (eB2 gEq (eV 1) jo) (yK 2 (eIx (eL (yD (zY (eL (yD (zY jl (zY jm (zY jn zR))))) (zY (eL (yD (zY jl (zY jn (zY jm zR))))) (zY (eL (yD (zY jm (zY jl (zY jn zR))))) (zY (eL (yD (zY jm (zY jn (zY jl zR))))) (zY (eL (yD (zY jn (zY jl (zY jm zR))))) (zY (eL (yD (zY jn (zY jm (zY jl zR))))) zR)))))))) (xG (wJ (eV 0) ju) jr))) (sIf (eB2 gEq (xG (wJ (eV 0) ju) jn) jm) (yK 2 (eL (yD (zY jm (zY jl zR))))) xQ))
   (qX))
def qH:Sf:=(zQ (yK 2 (eL (yD (zY jl (zY jm zR)))))
   (qW))
def gE:Sf :=
   (qH)
def vK:jv:=fnF 3 gE
def zYg (T:Txt w K mg):OkT P w base T.q2 1 2 vK :=
 xE (k:=0) T.q2.F kZ fun j9 A outer s H E hr =>
   (zV qH rfl (zJ 2 kZ.nd (vT (yI (zZ zX (zZ zX zW)))))
     (zV qW rfl (yQ (zF vW (zU 1) zX) (zT (zJ 2 kZ.nd (yJ (vT (yI (zZ (vT (yI (zZ zX (zZ zX (zZ zX zW))))) (zZ (vT (yI (zZ zX (zZ zX (zZ zX zW))))) (zZ (vT (yI (zZ zX (zZ zX (zZ zX zW))))) (zZ (vT (yI (zZ zX (zZ zX (zZ zX zW))))) (zZ (vT (yI (zZ zX (zZ zX (zZ zX zW))))) (zZ (vT (yI (zZ zX (zZ zX (zZ zX zW))))) zW)))))))) (yA (xD (zU 0) zX) zX)))) (zT (yQ (zF vW (yA (xD (zU 0) zX) zX) zX) (zT (zJ 2 kZ.nd (vT (yI (zZ zX (zZ zX zW)))))) zI)))
     (zT (zO (vV rfl T.z_tuple (vT (wZ (zS fK) ["_law_number","_law_dims","_law_axes"] ["_law_k"] ["_law_axes","_law_number"] [2,0] (vM 0) (zYF rfl T.z_range (zU 1)) rfl rfl rfl ja (fun _ _ _ _=>(xU 0 (show(jw ["_law_k","_law_axes","_law_number"]) from ja))) (fun _ _ _ _=>yP) (fun _ _ _ _=>(zL (zZ (yJ (zU 1) (zU 0)) (zZ (yA (xD (zU 2) (yJ (vT (yI (zZ zX (zZ zX (zZ zX zW))))) (zU 0))) zX) zW)))))))))))
def qI:FnScope ["_law_dims","_law_cell","_law_left","_law_parts","_law_number","_law_corner"] ["_law_dims","_law_cell"] (zS cK):=xX ja
def zVV:Sf:=(zWx 3)
def jM:Sf:=(zQ (pS (zYE 2) (zQ (yK 4 (zN 2 vY (zY (eV 1) (zY (uU (eC (.int 48271)) (rY (eC (.int 997)) (dR 2))) zR))))
   (zQ (zNg 5 2 (xG (eV 4) (dR 2)))
   (jN 3 (yT (zY (eV 5) (zY (zN 2 vK (zY (wJ (eV 4) ju) (zY (eV 0) zR))) (zY (uZ (eB2 gEq (xG (wJ (eV 4) (eC (.int 800))) jn) jm)) zR))))))) 100)
   (zVV))
def jL:Sf:=(zQ (uO 3 (yD zR))
   (jM))
def oU:Sf:=(zQ (uO 2 (tR 1 oQ (zY (eV 0) zR)))
   (jL))
def zRY:Sf :=
   (oU)
def dF:List D->Option (List D):=fnL 6 zRY
def zTJ (T:Txt w K mg):zP9 P w base T.q3 2 2 dF :=
 zZV (k:=1) T.q3.F qI fun j9 A outer s H E hr =>
   (zV oU rfl (uF 2 qI.nd (zVF (zWJ T) hr (zZ (zU 0) zW)))
     (zV jL rfl (uF 3 qI.nd (yI zW))
     (zV jM rfl (zVt 100 El (zLm 2 hr) (vX (zJ 4 qI.nd (xJ (rD T) hr (zZ (zU 1) (zZ (uQ zX (uW zX (zTg 2 rfl T.z_len))) zW))))
     (vX (zJt 5 2 qI.nd (vZ Wr PySem.F.slot_list_pop PySem.F.type_list_pop zMr (pv 2) (zE (yA (zU 4) (zTg 2 rfl T.z_len)) yO)))
     (zT (qO 3 (vZ Wr Wi Wo wE (pv 3) (zE (zL (zZ (zU 5) (zZ (xJ (zYg T) hr (zZ (xD (zU 4) zX) (zZ (zU 0) zW))) (zZ (qG vW (yA (xD (zU 4) zX) zX) zX) zW)))) yO)))))))
     (zT (zZN 3)))))
def wU:FnScope ["_law_word_here","_law_joined_here","_law_dims","_law_parts","_law_rows","_law_corner","_law_turn_here","_law_back","_law_row"] ["_law_word_here","_law_joined_here","_law_dims","_law_parts"] (zS uN):=xX ja
def nR:Sf:=(jN 4 (xW (eV 8) (eIx (eL (yD (zY (eC (.str "")) (zY (eC (.str " back")) zR)))) (sB (eV 7)))))
def sE:Sf:=(zQ (yK 8 (xW (eV 8) (vB (eC (.str "")) (yN (iT (eV 6)) 2 [] (gT (zM (gN 0) (zM (gN 1) xI))) tOK (xW (eIx (eC (.str "+-")) (eV 1)) (eIx (eC (.str "xyz")) (eV 0)))))))
   (nR))
def wQ:Sf:=(zQ (yK 8 (xW (xW (eC (.str "part ")) (vB (eC (.str "")) (yN (iT (eV 5)) 1 [] (gN 0) tOK (wB (eV 0))))) (eC (.str " "))))
   (sE))
def aK:Sf:=(zWx 4)
def rJ:Sf:=(zQ (pQ (iL (eV 3)) (gT (zM (gN 5) (zM (gN 6) (zM (gN 7) xI)))) (wQ))
   (aK))
def uE:Sf:=(zQ (uO 4 (yD (zY (xW (xW (xW (xW (xW (eC (.str "curve ")) (eV 0)) (eC (.str " "))) (eIx (eL (yD (zY (eC (.str "loose")) (zY (eC (.str "joined")) zR)))) (sB (eV 1)))) (eC (.str " "))) (wB (eV 2))) zR)))
   (rJ))
def zY7:Sf :=
   (uE)
def pC:List D->Option (List D):=fnL 9 zY7
def zZG (T:Txt w K mg):zP9 P w base T.q4 1 4 pC :=
 zZV (k:=0) T.q4.F wU fun j9 A outer s H E hr =>
   (zV uE rfl (uF 4 wU.nd (yI (zZ (xA (xA (xA (xA (xA yV (zU 0)) yV) (yJ (vT (yI (zZ yV (zZ yV zW)))) (dM rfl T.z_int (zU 1)))) yV) (qF rfl T.z_str (zU 2))) zW)))
     (zV rJ rfl (rQ El rfl (zSZ (zU 3)) (nM 3 rfl (zH (xU 5 wU.nd) (zH (xU 6 wU.nd) (zH (xU 7 wU.nd) xF))) (yS (yS (yS wV)))) (zV wQ rfl (zJ 8 wU.nd (xA (xA yV (sO (vZ We Wc Wv sM yV (zE (nS (wZ (zS uN) ["_law_word_here","_law_joined_here","_law_dims","_law_parts","_law_rows","_law_corner","_law_turn_here","_law_back","_law_row"] ["_law_bit"] [] [] (vM 0) (zZl (zU 5)) rfl rfl rfl ja (fun _ _ _ _=>(xU 0 (show(jw ["_law_bit"]) from ja))) (fun _ _ _ _=>yP) (fun _ _ _ _=>(qF rfl T.z_str (zU 0))))) yO)))) yV))
     (zV sE rfl (zJ 8 wU.nd (xA (zU 8) (sO (vZ We Wc Wv sM yV (zE (nS (wZ (zS uN) ["_law_word_here","_law_joined_here","_law_dims","_law_parts","_law_rows","_law_corner","_law_turn_here","_law_back","_law_row"] ["_law_axis","_law_flip"] [] [] (zXT (xN (vM 0) (xN (vM 1) rM))) (zZl (zU 6)) rfl rfl rfl ja (fun _ _ _ _=>(nM 2 rfl (zH (xU 0 (show(jw ["_law_axis","_law_flip"]) from ja)) (zH (xU 1 (show(jw ["_law_axis","_law_flip"]) from ja)) xF)) (yS (yS wV)))) (fun _ _ _ _=>yP) (fun _ _ _ _=>(xA (yJ yV (zU 1)) (yJ yV (zU 0)))))) yO)))))
     (zT (qO 4 (vZ Wr Wi Wo wE (pv 4) (zE (xA (zU 8) (yJ (vT (yI (zZ yV (zZ yV zW)))) (dM rfl T.z_int (zU 7)))) yO)))))))
     (zT (zZN 4))))
def zXs:FnScope ["corner"] ["corner"] (zS oX):=xX ja
def zXQ:Sf:=(yM (vB (eC (.str "")) (yN (iT (eV 0)) 1 [] (gN 0) tOK (eIx (eC (.str "01")) (eV 0)))))
def zVY:Sf :=
   (zXQ)
def aW:jv:=fnF 1 zVY
def zWB (T:Txt w K mg):OkT P w base T.q5 1 1 aW :=
 xE (k:=0) T.q5.F zXs fun j9 A outer s H E hr =>
   (zT (zO (sO (vZ We Wc Wv sM yV (zE (nS (wZ (zS oX) ["corner"] ["bit"] [] [] (vM 0) (zZl (zU 0)) rfl rfl rfl ja (fun _ _ _ _=>(xU 0 (show(jw ["bit"]) from ja))) (fun _ _ _ _=>yP) (fun _ _ _ _=>(yJ (kO rfl T.c_BITS) (zU 0))))) yO)))))
def zUn:FnScope ["turn"] ["turn"] (zS kQ):=xX ja
def zVA:Sf:=(yM (vB (eC (.str "")) (yN (iT (eV 0)) 2 [] (gT (zM (gN 0) (zM (gN 1) xI))) tOK (xW (eIx (eC (.str "+-")) (eV 1)) (eIx (eC (.str "xyz")) (eV 0))))))
def zRy:Sf :=
   (zVA)
def zYw:jv:=fnF 1 zRy
def zTM (T:Txt w K mg):OkT P w base T.q6 1 1 zYw :=
 xE (k:=0) T.q6.F zUn fun j9 A outer s H E hr =>
   (zT (zO (sO (vZ We Wc Wv sM yV (zE (nS (wZ (zS kQ) ["turn"] ["axis","flip"] [] [] (zXT (xN (vM 0) (xN (vM 1) rM))) (zZl (zU 0)) rfl rfl rfl ja (fun _ _ _ _=>(nM 2 rfl (zH (xU 0 (show(jw ["axis","flip"]) from ja)) (zH (xU 1 (show(jw ["axis","flip"]) from ja)) xF)) (yS (yS wV)))) (fun _ _ _ _=>yP) (fun _ _ _ _=>(xA (yJ (kO rfl T.c_FLIPS) (zU 1)) (yJ (kO rfl T.c_AXES) (zU 0)))))) yO)))))
def zYc:FnScope ["part","words"] ["part"] (zS aC):=xX ja
def zT3:Sf:=(kB 1 (yM (vB (eC (.str " ")) (iL (eV 1)))))
def zZu:Sf:=(zQ (sIf (tB1 (yB "Part" "back" (eV 0))) (jN 1 (eC (.str "back"))) xQ)
   (zT3))
def zZx:Sf:=(zQ (uO 1 (yD (zY (eC (.str "part")) (zY (zN 1 aW (zY (yB "Part" "corner" (eV 0)) zR)) (zY (zN 1 zYw (zY (yB "Part" "turn" (eV 0)) zR)) zR)))))
   (zZu))
def zQI:Sf :=
   (zZx)
def pA:jv:=fnF 2 zQI
def zRg (T:Txt w K mg):OkT P w base T.q7 2 1 pA :=
 xE (k:=1) T.q7.F zYc fun j9 A outer s H E hr =>
   (zV zZx rfl (uF 1 zYc.nd (yI (zZ yV (zZ (xJ (zWB T) hr (zZ (xP T.ca_Part T.cl_Part T.n_Part_corner (zU 0)) zW)) (zZ (xJ (zTM T) hr (zZ (xP T.ca_Part T.cl_Part T.n_Part_turn (zU 0)) zW)) zW)))))
     (zV zZu rfl (yQ (wW (xP T.ca_Part T.cl_Part T.n_Part_back (zU 0))) (zT (qO 1 (vZ Wr Wi Wo wE (pv 1) (zE yV yO)))) zI)
     (zT (uS 1 (zO (sO (vZ We Wc Wv sM yV (zE (zYZ (zU 1)) yO))))))))
def jZ:FnScope ["curve","promise","head"] ["curve"] (zS nC):=xX ja
def dQ:Sf:=(zWN (eT (yD (zY (eV 2) zR)) (yN (iL (yB "Curve" "parts" (eV 0))) 1 [] (gN 0) tOK (zN 1 pA (zY (eV 0) zR)))))
def lQ:Sf:=(zQ (yK 2 (vB (eC (.str " ")) (yD (zY (eC (.str "curve")) (zY (yB "Curve" "name" (eV 0)) (zY (eV 1) (zY (wB (yB "Curve" "dims" (eV 0))) zR)))))))
   (dQ))
def pV:Sf:=(zQ (yK 1 (eIf (tB1 (yB "Curve" "joined" (eV 0))) (eC (.str "joined")) (eC (.str "loose"))))
   (lQ))
def zUl:Sf :=
   (pV)
def nI:List D->Option (List D):=fnL 3 zUl
def zVN (T:Txt w K mg):zP9 P w base T.q8 3 1 nI :=
 zZV (k:=2) T.q8.F jZ fun j9 A outer s H E hr =>
   (zV pV rfl (zJ 1 jZ.nd (zYv (wW (xP T.ca_Curve T.cl_Curve T.n_Curve_joined (zU 0))) yV yV))
     (zV lQ rfl (zJ 2 jZ.nd (sO (vZ We Wc Wv sM yV (zE (nS (yI (zZ yV (zZ (xP T.ca_Curve T.cl_Curve T.n_Curve_name (zU 0)) (zZ (zU 1) (zZ (qF rfl T.z_str (xP T.ca_Curve T.cl_Curve T.n_Curve_dims (zU 0))) zW)))))) yO))))
     (zT (zTz (zW3 (yI (zZ (zU 2) zW)) (wZ (zS nC) ["curve","promise","head"] ["part"] [] [] (vM 0) (zSZ (xP T.ca_Curve T.cl_Curve T.n_Curve_parts (zU 0))) rfl rfl rfl ja (fun _ _ _ _=>(xU 0 (show(jw ["part"]) from ja))) (fun _ _ _ _=>yP) (fun _ _ _ _=>(xJ (zRg T) hr (zZ (zU 0) zW)))))))))
def zVH:FnScope ["place"] ["place"] (zS mU):=xX ja
def zXo:Sf:=(yM (vB (eC (.str ",")) (yN (iT (eV 0)) 1 [] (gN 0) tOK (wB (eV 0)))))
def zTb:Sf :=
   (zXo)
def zZK:jv:=fnF 1 zTb
def zVL (T:Txt w K mg):OkT P w base T.q9 1 1 zZK :=
 xE (k:=0) T.q9.F zVH fun j9 A outer s H E hr =>
   (zT (zO (sO (vZ We Wc Wv sM yV (zE (nS (wZ (zS mU) ["place"] ["along"] [] [] (vM 0) (zZl (zU 0)) rfl rfl rfl ja (fun _ _ _ _=>(xU 0 (show(jw ["along"]) from ja))) (fun _ _ _ _=>yP) (fun _ _ _ _=>(qF rfl T.z_str (zU 0))))) yO)))))
def zVz:FnScope ["value"] ["value"] (zS fZ):=xX ja
def lU:Sf:=(yM (eIf (tB1 (pK rX (eV 0))) (zN 1 zZK (zY (eV 0) zR)) (zOH (eV 0))))
def zTX:Sf :=
   (lU)
def qA:jv:=fnF 1 zTX
def zVX (T:Txt w K mg):OkT P w base T.q10 2 1 qA :=
 xE (k:=1) T.q10.F zVz fun j9 A outer s H E hr =>
   (zT (zO (zYv (wW (pD (T:="tuple") (TT:="tuple") rfl zXq rfl T.z_isinstance rfl T.z_tuple (zU 0))) (xJ (zVL T) hr (zZ (zU 0) zW)) (zPj rfl T.z_str (zU 0)))))
def zRJ:FnScope ["deed"] ["deed"] (zS iJ):=xX ja
def iE:Sf:=(yM (vB (eC (.str " ")) (eT (yD (zY (eIx (eV 0) jl) zR)) (yN (iT (zZg (eV 0) (sI jm) oNo)) 1 [] (gN 0) tOK (zN 1 qA (zY (eV 0) zR))))))
def zQj:Sf :=
   (iE)
def lY:jv:=fnF 1 zQj
def zRi (T:Txt w K mg):OkT P w base T.q11 3 1 lY :=
 xE (k:=2) T.q11.F zRJ fun j9 A outer s H E hr =>
   (zT (zO (sO (vZ We Wc Wv sM yV (zE (nS (zW3 (yI (zZ (yJ (zU 0) zX) zW)) (wZ (zS iJ) ["deed"] ["value"] [] [] (vM 0) (zZl (zTE (zU 0) (zZd zX) zRK)) rfl rfl rfl ja (fun _ _ _ _=>(xU 0 (show(jw ["value"]) from ja))) (fun _ _ _ _=>yP) (fun _ _ _ _=>(xJ (zVX T) hr (zZ (zU 0) zW)))))) yO)))))
def bQ:FnScope ["scene","floor"] ["scene"] (zS mV):=xX ja
def dL:Sf:=(yM (vB (eC (.str "\n")) (eT (eT (tR 1 nI (zY (yB "Scene" "curve" (eV 0)) zR)) (yD (zY (eV 1) zR))) (yN (iL (yB "Scene" "deeds" (eV 0))) 1 [] (gN 0) tOK (zN 1 lY (zY (eV 0) zR))))))
def qM:Sf:=(zQ (yK 1 (vB (eC (.str " ")) (yD (zY (eC (.str "floor")) (zY (wB (yB "Scene" "level" (eV 0))) (zY (wB (yB "Scene" "size" (eV 0))) zR))))))
   (dL))
def zTC:Sf :=
   (qM)
def pU:jv:=fnF 2 zTC
def jT (T:Txt w K mg):OkT P w base T.q12 4 1 pU :=
 xE (k:=3) T.q12.F bQ fun j9 A outer s H E hr =>
   (zV qM rfl (zJ 1 bQ.nd (sO (vZ We Wc Wv sM yV (zE (nS (yI (zZ yV (zZ (qF rfl T.z_str (xP T.ca_Scene T.cl_Scene T.n_Scene_level (zU 0))) (zZ (qF rfl T.z_str (xP T.ca_Scene T.cl_Scene T.n_Scene_size (zU 0))) zW))))) yO))))
     (zT (zO (sO (vZ We Wc Wv sM yV (zE (nS (zW3 (zW3 (zVF (zVN T) hr (zZ (xP T.ca_Scene T.cl_Scene T.n_Scene_curve (zU 0)) zW)) (yI (zZ (zU 1) zW))) (wZ (zS mV) ["scene","floor"] ["deed"] [] [] (vM 0) (zSZ (xP T.ca_Scene T.cl_Scene T.n_Scene_deeds (zU 0))) rfl rfl rfl ja (fun _ _ _ _=>(xU 0 (show(jw ["deed"]) from ja))) (fun _ _ _ _=>yP) (fun _ _ _ _=>(xJ (zRi T) hr (zZ (zU 0) zW)))))) yO))))))
def zVG:FnScope ["text","signs","longest"] ["text","signs","longest"] (zS nF):=xX ja
def zWF:Sf:=(yM (zZa (uZ (eB3 gLe gLe jm (wT (eV 0)) (eV 2))) (zNl (eL (yN (iS (eV 0)) 1 [1] (gN 0) tOK (uZ (eB2 gIn (eV 0) (eV 1))))))))
def zUt:Sf :=
   (zWF)
def vR:jv:=fnF 3 zUt
def bN (T:Txt w K mg):OkT P w base T.q13 1 3 vR :=
 xE (k:=0) T.q13.F zVG fun j9 A outer s H E hr =>
   (zT (zO (zTm (zMR zIK zIK zX (vF rfl T.z_len (zU 0)) (zU 2)) (zQN (zIb rfl rfl T.z_all (vT (wZ (zS nF) ["text","signs","longest"] ["sign"] ["signs"] [1] (vM 0) (zJ4 (zU 0)) rfl rfl rfl ja (fun _ _ _ _=>(xU 0 (show(jw ["sign","signs"]) from ja))) (fun _ _ _ _=>yP) (fun _ _ _ _=>(qG zGb (zU 0) (zU 1))))))))))
def zQz:FnScope ["text"] ["text"] (zS zY8):=xX ja
def zSt:Sf:=(yM (zN 3 vR (zY (eV 0) (zY (eC (.str "abcdefghijklmnopqrstuvwxyz")) (zY (eC (.int 12)) zR)))))
def zOm:Sf :=
   (zSt)
def iW:jv:=fnF 1 zOm
def zWo (T:Txt w K mg):OkT P w base T.q14 2 1 iW :=
 xE (k:=1) T.q14.F zQz fun j9 A outer s H E hr =>
   (zT (zO (xJ (bN T) hr (zZ (zU 0) (zZ (kO rfl T.c_LETTERS) (zZ (gX rfl T.c_LONGEST_WORD) zW))))))
def zTB:FnScope ["words"] ["words"] (zS dU):=xX ja
def zV3:Sf:=(yM (yT (zY (eIx (eV 0) jm) (zY (zZU [("joined",.bl true),("loose",.bl false)] (eIx (eV 0) jn)) (zY (zZU [("2",.int 2),("3",.int 3)] (eIx (eV 0) jo)) zR)))))
def aY:Sf:=(zQ (sIf (pE (zSV false [("joined",.bl true),("loose",.bl false)] (eIx (eV 0) jn)) (zSV false [("2",.int 2),("3",.int 3)] (eIx (eV 0) jo))) (fun _=>none) xQ)
   (zV3))
def oY:Sf:=(zQ (sIf (pE (eB2 gNe (wT (eV 0)) jp) (pE (eB2 gNe (eIx (eV 0) jl) (eC (.str "curve"))) (tU (tB1 (zN 1 iW (zY (eIx (eV 0) jm) zR)))))) (fun _=>none) xQ)
   (aY))
def zRu:Sf :=
   (oY)
def kM:jv:=fnF 1 zRu
def zUe (T:Txt w K mg):OkT P w base T.q15 3 1 kM :=
 xE (k:=2) T.q15.F zTB fun j9 A outer s H E hr =>
   (zV oY rfl (yQ (lC (uA (zF iY (vF rfl T.z_len (zU 0)) zX) (uA (zF iY (yJ (zU 0) zX) yV) (vC (nG (wW (xJ (zWo T) hr (zZ (yJ (zU 0) zX) zW)))))))) (zT tQ) zI)
     (zV aY rfl (yQ (lC (uA (zUW T.dc_PROMISES rfl T.c_PROMISES (yJ (zU 0) zX)) (vC (zUW T.dc_DIMS rfl T.c_DIMS (yJ (zU 0) zX))))) (zT tQ) zI)
     (zT (zO (zL (zZ (yJ (zU 0) zX) (zZ (zLt T.dc_PROMISES rfl T.c_PROMISES (yJ (zU 0) zX)) (zZ (zLt T.dc_DIMS rfl T.c_DIMS (yJ (zU 0) zX)) zW))))))))
def zR6:FnScope ["rows","row"] ["rows","row"] (zS aL):=xX ja
def zZk:Sf:=(zWN (hV (eIx (eV 0) (rB (eV 1) jm)) (eC (.str " "))))
def mK:Sf:=(zQ (sIf (eB2 gGt (eV 1) (wT (eV 0))) (fun _=>none) xQ)
   (zZk))
def zQn:Sf :=
   (mK)
def uV:List D->Option (List D):=fnL 2 zQn
def kW (T:Txt w K mg):zP9 P w base T.q16 3 2 uV :=
 zZV (k:=2) T.q16.F zR6 fun j9 A outer s H E hr =>
   (zV mK rfl (yQ (zF zIU (zU 1) (vF rfl T.z_len (zU 0))) (zT tQ) zI)
     (zT (zTz (zXc (vZ We Uu Ui zXm (yJ (zU 0) (pN (zU 1) zX)) (zE yV yO))))))
def zZp:FnScope ["text","dims","bits"] ["text","dims"] (zS lB):=xX ja
def zVU:Sf:=(yM (wC (eV 2)))
def bP:Sf:=(zQ (kB 2 (sIf (pE (eB2 gNe (wT (eV 2)) (eV 1)) (eB2 zNn (zKe jm) (eV 2))) (yM (eC .non)) xQ))
   (zVU))
def bE:Sf:=(zQ (uO 2 (yN (iS (eV 0)) 1 [] (gN 0) tOK (zSx (eC (.str "01")) (eV 0))))
   (bP))
def zRa:Sf :=
   (bE)
def zYi:jv:=fnF 3 zRa
def zTh (T:Txt w K mg):OkT P w base T.q17 1 2 zYi :=
 xE (k:=0) T.q17.F zZp fun j9 A outer s H E hr =>
   (zV bE rfl (uB (zS lB) ["text","dims","bits"] ["sign"] [] [] (vM 0) 2 zZp.nd rfl rfl (zJ4 (zU 0)) rfl rfl rfl ja (fun _ _ _ _=>(xU 0 (show(jw ["sign"]) from ja))) (fun _ _ _ _=>yP) (fun _ _ _ _=>(zUb (vZ We Uf Ug zUw (kO rfl T.c_BITS) (zE (zU 0) yO)))))
     (zV bP rfl (uS 2 (yQ (lC (uA (zF iY (vF rfl T.z_len (zU 2)) (zU 1)) (vC (zF zMk (zKP zX) (zU 2))))) (zT (zO w4)) zI))
     (zT (zO (vV rfl T.z_tuple (zU 2))))))
def aQ:FnScope ["text","dims","flips","axes"] ["text","dims"] (zS iN):=xX ja
def zS7:Sf:=(yM (zTG (eV 3) (eV 2)))
def zYj:Sf:=(zQ (kB 2 (kB 3 (sIf (pE (eB2 zNn (zKe jm) (eV 2)) (eB2 zN1 (eL (zSU (iL (eV 3)))) (eL (zQQ (eV 1))))) (yM (eC .non)) xQ)))
   (zS7))
def zYo:Sf:=(zQ (uO 3 (yN (iS (zOJ (eV 0) jm jn)) 1 [] (gN 0) tOK (zSx (eC (.str "xyz")) (eV 0))))
   (zYj))
def zYn:Sf:=(zQ (uO 2 (yN (iS (zOJ (eV 0) jl jn)) 1 [] (gN 0) tOK (zSx (eC (.str "+-")) (eV 0))))
   (zYo))
def zYk:Sf:=(zQ (sIf (eB2 zN1 (wT (eV 0)) (rY jn (eV 1))) (yM (eC .non)) xQ)
   (zYn))
def zNf:Sf :=
   (zYk)
def zUF:jv:=fnF 4 zNf
def zQA (T:Txt w K mg):OkT P w base T.q18 1 2 zUF :=
 xE (k:=0) T.q18.F aQ fun j9 A outer s H E hr =>
   (zV zYk rfl (yQ (zF (zUh hr) (vF rfl T.z_len (zU 0)) (uW zX (zU 1))) (zT (zO w4)) zI)
     (zV zYn rfl (uB (zS iN) ["text","dims","flips","axes"] ["sign"] [] [] (vM 0) 2 aQ.nd rfl rfl (zJ4 (zRp (zU 0) zX zX)) rfl rfl rfl ja (fun _ _ _ _=>(xU 0 (show(jw ["sign"]) from ja))) (fun _ _ _ _=>yP) (fun _ _ _ _=>(zUb (vZ We Uf Ug zUw (kO rfl T.c_FLIPS) (zE (zU 0) yO)))))
     (zV zYo rfl (uB (zS iN) ["text","dims","flips","axes"] ["letter"] [] [] (vM 0) 3 aQ.nd rfl rfl (zJ4 (zRp (zU 0) zX zX)) rfl rfl rfl ja (fun _ _ _ _=>(xU 0 (show(jw ["letter"]) from ja))) (fun _ _ _ _=>yP) (fun _ _ _ _=>(zUb (vZ We Uf Ug zUw (kO rfl T.c_AXES) (zE (zU 0) yO)))))
     (zV zYj rfl (uS 2 (uS 3 (yQ (lC (uA (zF zMk (zKP zX) (zU 2)) (vC (zF (zUh hr) (vT (zND rfl T.z_sorted (zYZ (zU 3)))) (vT (zL8 rfl rfl T.z_list rfl T.z_range (zU 1))))))) (zT (zO w4)) zI)))
     (zT (zO (zNL rfl rfl T.z_tuple rfl T.z_zip (zU 3) (zU 2))))))))
def mN:FnScope ["words","dims","row","back","corner","turn"] ["words","dims","row"] (zS dJ):=xX ja
def zVZ:Sf:=(yM (dW "Part" ["corner","turn","back"] 3 zZS (zY (eV 4) (zY (eV 5) (zY (eV 3) zR)))))
def bB:Sf:=(zQ (sIf (pE (eB2 eR (eV 4) (eC .non)) (eB2 eR (eV 5) (eC .non))) (fun _=>none) xQ)
   (zVZ))
def bJ:Sf:=(zQ (yK 5 (zN 2 zUF (zY (eIx (eV 0) jn) (zY (eV 1) zR))))
   (bB))
def bI:Sf:=(zQ (yK 4 (zN 2 zYi (zY (eIx (eV 0) jm) (zY (eV 1) zR))))
   (bJ))
def bC:Sf:=(zQ (sIf (pE (eB2 zN1 (eIx (eV 0) jl) (eC (.str "part"))) (eB2 zN1 (wT (eV 0)) (eIf (tB1 (eV 3)) jp jo))) (fun _=>none) xQ)
   (bI))
def bH:Sf:=(zQ (yK 3 (uZ (eB2 zMe (eL (jX (eV 0) (sI jo) oNo)) (eL (yD (zY (eC (.str "back")) zR))))))
   (bC))
def zSl:Sf :=
   (bH)
def oI:jv:=fnF 6 zSl
def zSY (T:Txt w K mg):OkT P w base T.q19 3 3 oI :=
 xE (k:=2) T.q19.F mN fun j9 A outer s H E hr =>
   (zV bH rfl (zJ 3 mN.nd (qG (zTf hr) (vT (zWA (zU 0) (zZd zX) zRK)) (vT (yI (zZ yV zW)))))
     (zV bC rfl (yQ (lC (uA (zF (zUh hr) (yJ (zU 0) zX) yV) (vC (zF (zUh hr) (vF rfl T.z_len (zU 0)) (zYv (wW (zU 3)) zX zX))))) (zT tQ) zI)
     (zV bI rfl (zJ 4 mN.nd (xJ (zTh T) hr (zZ (yJ (zU 0) zX) (zZ (zU 1) zW))))
     (zV bJ rfl (zJ 5 mN.nd (xJ (zQA T) hr (zZ (yJ (zU 0) zX) (zZ (zU 1) zW))))
     (zV bB rfl (yQ (lC (uA (zF nY (zU 4) w4) (vC (zF nY (zU 5) w4)))) (zT tQ) zI)
     (zT (zO (zZ1 T.ca_Part T.mk_Part (zWS T) (hr.mono jc) T.mc_Part T.bi_Part rfl (zZ (zU 4) (zZ (zU 5) (zZ (zU 3) zW)))))))))))
def zXH:FnScope ["dims","level","places","halving"] ["dims","level"] (zS zQG):=xX ja
def zNJ:Sf:=(yK 2 (rY (eV 2) jn))
def zMN:Sf:=(yM (eV 2))
def zRx:Sf:=(zQ (pQ (iR (rY (eV 0) (eV 1))) (gN 3) (zNJ))
   (zMN))
def zSa:Sf:=(zQ (yK 2 jm)
   (zRx))
def zIE:Sf :=
   (zSa)
def zW4:jv:=fnF 4 zIE
def zJN (T:Txt w K mg):OkT P w base T.q20 1 2 zW4 :=
 xE (k:=0) T.q20.F zXH fun j9 A outer s H E hr =>
   (zV zSa rfl (zJ 2 zXH.nd zX)
     (zV zRx rfl (rQ El rfl (zYF rfl T.z_range (uW (zU 0) (zU 1))) (xU 3 zXH.nd) (zT (zJ 2 zXH.nd (uW (zU 2) zX))))
     (zT (zO (zU 2)))))
def vN:FnScope ["rows","name","joined","dims","parts","seen","row","part"] ["rows"] (zS gW):=xX ja
def fF:Sf:=(jN 4 (eV 7))
def nZ:Sf:=(zQ (zYt 5 (yB "Part" "corner" (eV 7)) (eC (.bl true)))
   (fF))
def oB:Sf:=(zQ (sIf (zTP 5 (yB "Part" "corner" (eV 7))) (fun _=>none) xQ)
   (nZ))
def tP:Sf:=(zQ (yK 7 (zN 3 oI (zY (eL (tR 2 uV (zY (eV 0) (zY (eV 6) zR)))) (zY (eV 3) (zY (eV 6) zR)))))
   (oB))
def zWz:Sf:=(kB 4 (yM (dW "Curve" ["name","dims","joined","parts"] 4 zZB (zY (eV 1) (zY (eV 3) (zY (eV 2) (zY (eV 4) zR)))))))
def lH:Sf:=(zQ (pQ (iR2 jn (uU jn (zN 2 zW4 (zY (eV 3) (zY jm zR))))) (gN 6) (tP))
   (zWz))
def lN:Sf:=(zQ (zKF 5)
   (lH))
def mC:Sf:=(zQ (uO 4 (yD zR))
   (lN))
def qJ:Sf:=(zQ (lE (zN 1 kM (zY (eL (tR 2 uV (zY (eV 0) (zY jm zR)))) zR)) (gT (zM (gN 1) (zM (gN 2) (zM (gN 3) xI)))))
   (mC))
def zTK:Sf :=
   (qJ)
def fT:jv:=fnF 8 zTK
def zVS (T:Txt w K mg):OkT P w base T.q21 4 1 fT :=
 xE (k:=3) T.q21.F vN fun j9 A outer s H E hr =>
   (zV qJ rfl (mP (xJ (zUe T) hr (zZ (vT (zVF (kW T) hr (zZ (zU 0) (zZ zX zW)))) zW)) (nM 3 rfl (zH (xU 1 vN.nd) (zH (xU 2 vN.nd) (zH (xU 3 vN.nd) xF))) (yS (yS (yS wV)))))
     (zV mC rfl (uF 4 vN.nd (yI zW))
     (zV lN rfl (zPp 5 vN.nd)
     (zV lH rfl (rQ El rfl (zIL rfl T.z_range zX (uQ zX (xJ (zJN T) hr (zZ (zU 3) (zZ zX zW))))) (xU 6 vN.nd) (zV tP rfl (zJ 7 vN.nd (xJ (zSY T) hr (zZ (vT (zVF (kW T) hr (zZ (zU 0) (zZ (zU 6) zW)))) (zZ (zU 3) (zZ (zU 6) zW)))))
     (zV oB rfl (yQ (zL3 5 hr (xP T.ca_Part T.cl_Part T.n_Part_corner (zU 7))) (zT tQ) zI)
     (zV nZ rfl (zOP 5 hr oJ (xP T.ca_Part T.cl_Part T.n_Part_corner (zU 7)))
     (zT (qO 4 (vZ Wr Wi Wo wE (pv 4) (zE (zU 7) yO))))))))
     (zT (uS 4 (zO (zZ1 T.ca_Curve T.mk_Curve (zNk T) (hr.mono jc) T.mc_Curve T.bi_Curve rfl (zZ (zU 1) (zZ (zU 3) (zZ (zU 2) (zZ (zU 4) zW))))))))))))
def zZb:FnScope ["text","most","number"] ["text","most"] (zS wK):=xX ja
def bK:Sf:=(yM (eV 2))
def tO:Sf:=(zQ (sIf (nU (eB2 lX (eV 1) (eC .non)) (eB2 gGt (eV 2) (eV 1))) (yM (eC .non)) xQ)
   (bK))
def rT:Sf:=(zQ (yK 2 (sB (eV 0)))
   (tO))
def vO:Sf:=(zQ (sIf (nU (eB2 gEq (eIx (eV 0) jl) (eC (.str "0"))) (eB2 gNe (eV 0) (eC (.str "0")))) (yM (eC .non)) xQ)
   (rT))
def kA:Sf:=(zQ (sIf (tU (tB1 (zN 3 vR (zY (eV 0) (zY (eC (.str "0123456789")) (zY (eC (.int 60)) zR)))))) (yM (eC .non)) xQ)
   (vO))
def b_number_of:Sf :=
   (kA)
def uJ:jv:=fnF 3 b_number_of
def nP (T:Txt w K mg):FnOk P w K mg base CX0 2 T.f_number_of T.fd_number_of ["text","most"] (spF K 2 uJ) :=
 zIF (k:=1) T.F_number_of zZb fun j9 A outer s H E hr =>
   (zV kA rfl (yQ (nG (wW (xJ (bN T) hr (zZ (zU 0) (zZ (kO rfl T.c_FIGURES) (zZ (gX rfl T.c_LONGEST_NUMBER) zW)))))) (zT (zO w4)) zI)
     (zV vO rfl (yQ (lC (zZM (zF vW (yJ (zU 0) zX) yV) (dB (zF iY (zU 0) yV)))) (zT (zO w4)) zI)
     (zV rT rfl (zJ 2 zZb.nd (dM rfl T.z_int (zU 0)))
     (zV tO rfl (yQ (lC (zZM (zF zWU (zU 1) w4) (dB (zF zIU (zU 2) (zU 1))))) (zT (zO w4)) zI)
     (zT (zO (zU 2)))))))
def tX:jv:=fun ds=>uJ (ds++[.non])
def cY:FnScope ["text","least","most","number"] ["text","least","most"] (zS kG):=xX ja
def fH:Sf:=(yM (eIf (pE (eB2 eR (eV 3) (eC .non)) (eB2 gLt (eV 3) (eV 1))) (eC .non) (eV 3)))
def rN:Sf:=(zQ (yK 3 (zN 2 uJ (zY (eV 0) (zY (eV 2) zR))))
   (fH))
def zVW:Sf :=
   (rN)
def oR:jv:=fnF 4 zVW
def dE (T:Txt w K mg):OkT P w base T.q23 3 3 oR :=
 xE (k:=2) T.q23.F cY fun j9 A outer s H E hr =>
   (zV rN rfl (zJ 3 cY.nd (zUz (nP T) (hr.mono jc) T.m_number_of T.F_number_of.kp T.b_number_of rfl (zZ (zU 0) (zZ (zU 2) zW))))
     (zT (zO (zYv (lC (uA (zF nY (zU 3) w4) (vC (zF zSM (zU 3) (zU 1))))) w4 (zU 3)))))
def jR:FnScope ["words","dims","row","level","size"] ["words","dims","row"] (zS gI):=xX ja
def zWI:Sf:=(yM (yT (zY (eV 3) (zY (eV 4) zR))))
def eQ:Sf:=(zQ (sIf (pE (eB2 eR (eV 3) (eC .non)) (eB2 eR (eV 4) (eC .non))) (fun _=>none) xQ)
   (zWI))
def eH:Sf:=(zQ (yK 4 (zN 3 oR (zY (eIx (eV 0) jn) (zY jp (zY (eC (.int 12)) zR)))))
   (eQ))
def dS:Sf:=(zQ (yK 3 (zN 2 uJ (zY (eIx (eV 0) jm) (zY (zH7 [(2,.int 6),(3,.int 4)] (eV 1)) zR))))
   (eH))
def cR:Sf:=(zQ (sIf (pE (eB2 gNe (wT (eV 0)) jo) (eB2 gNe (eIx (eV 0) jl) (eC (.str "floor")))) (fun _=>none) xQ)
   (dS))
def zT9:Sf :=
   (cR)
def pY:jv:=fnF 5 zT9
def zWc (T:Txt w K mg):OkT P w base T.q24 4 3 pY :=
 xE (k:=3) T.q24.F jR fun j9 A outer s H E hr =>
   (zV cR rfl (yQ (lC (uA (zF iY (vF rfl T.z_len (zU 0)) zX) (vC (zF iY (yJ (zU 0) zX) yV)))) (zT tQ) zI)
     (zV dS rfl (zJ 3 jR.nd (zUz (nP T) (hr.mono jc) T.m_number_of T.F_number_of.kp T.b_number_of rfl (zZ (yJ (zU 0) zX) (zZ (zHs T.dc_MOST_LEVEL rfl T.c_MOST_LEVEL (zU 1)) zW))))
     (zV eH rfl (zJ 4 jR.nd (xJ (dE T) hr (zZ (yJ (zU 0) zX) (zZ (gX rfl T.c_LEAST_SIZE) (zZ (gX rfl T.c_MOST_SIZE) zW)))))
     (zV eQ rfl (yQ (lC (uA (zF nY (zU 3) w4) (vC (zF nY (zU 4) w4)))) (zT tQ) zI)
     (zT (zO (zL (zZ (zU 3) (zZ (zU 4) zW)))))))))
def zLE:FnScope ["dims"] ["dims"] (zS zXN):=xX ja
def zNU:Sf:=(yM (wC (eL (yN (iR (eV 0)) 1 [] (gN 0) tOK (yT (zY (eV 0) (zY jl zR)))))))
def zJZ:Sf :=
   (zNU)
def zPu:jv:=fnF 1 zJZ
def zMS (T:Txt w K mg):OkT P w base T.q25 1 1 zPu :=
 xE (k:=0) T.q25.F zLE fun j9 A outer s H E hr =>
   (zT (zO (vV rfl T.z_tuple (vT (wZ (zS zXN) ["dims"] ["axis"] [] [] (vM 0) (zYF rfl T.z_range (zU 0)) rfl rfl rfl ja (fun _ _ _ _=>(xU 0 (show(jw ["axis"]) from ja))) (fun _ _ _ _=>yP) (fun _ _ _ _=>(zL (zZ (zU 0) (zZ zX zW)))))))))
def zWj:FnScope ["dims"] ["dims"] (zS jV):=xX ja
def zXR:Sf:=(yM (yT (zY (zN 1 zPu (zY (eV 0) zR)) (zY (eC (.bl false)) zR))))
def zV1:Sf :=
   (zXR)
def kE:jv:=fnF 1 zV1
def zWO (T:Txt w K mg):OkT P w base T.q26 2 1 kE :=
 xE (k:=1) T.q26.F zWj fun j9 A outer s H E hr =>
   (zT (zO (zL (zZ (xJ (zMS T) hr (zZ (zU 0) zW)) (zZ oJ zW)))))
def zNC:FnScope ["curve","back","number"] ["curve","back","number"] (zS zXh):=xX ja
def zPJ:Sf:=(yM (eIf (tB1 (eV 1)) (rB (rB (wT (yB "Curve" "parts" (eV 0))) jm) (eV 2)) (eV 2)))
def zLO:Sf :=
   (zPJ)
def dI:jv:=fnF 3 zLO
def zNa (T:Txt w K mg):OkT P w base T.q27 1 3 dI :=
 xE (k:=0) T.q27.F zNC fun j9 A outer s H E hr =>
   (zT (zO (zYv (wW (zU 1)) (pN (pN (vF rfl T.z_len (xP T.ca_Curve T.cl_Curve T.n_Curve_parts (zU 0))) zX) (zU 2)) (zU 2))))
def zLQ:FnScope ["one","other"] ["one","other"] (zS zXO):=xX ja
def zU5:Sf:=(yM (wC (eL (yN (iT (eV 0)) 2 [1] (gT (zM (gN 0) (zM (gN 1) xI))) tOK (yT (zY (eIx (eIx (eV 2) (eV 0)) jl) (zY (zTl (eIx (eIx (eV 2) (eV 0)) jm) (eV 1)) zR)))))))
def zOL:Sf :=
   (zU5)
def gG:jv:=fnF 2 zOL
def zLG (T:Txt w K mg):OkT P w base T.q28 1 2 gG :=
 xE (k:=0) T.q28.F zLQ fun j9 A outer s H E hr =>
   (zT (zO (vV rfl T.z_tuple (vT (wZ (zS zXO) ["one","other"] ["axis","flip"] ["other"] [1] (zXT (xN (vM 0) (xN (vM 1) rM))) (zZl (zU 0)) rfl rfl rfl ja (fun _ _ _ _=>(nM 2 rfl (zH (xU 0 (show(jw ["axis","flip","other"]) from ja)) (zH (xU 1 (show(jw ["axis","flip","other"]) from ja)) xF)) (yS (yS wV)))) (fun _ _ _ _=>yP) (fun _ _ _ _=>(zL (zZ (yJ (yJ (zU 2) (zU 0)) zX) (zZ (zTq (yJ (yJ (zU 2) (zU 0)) zX) (zU 1)) zW)))))))))
def zN3:FnScope ["turn","corner"] ["turn","corner"] (zS zYY):=xX ja
def zX5:Sf:=(yM (wC (eL (yN (iT (eV 0)) 2 [1] (gT (zM (gN 0) (zM (gN 1) xI))) tOK (zTl (eIx (eV 2) (eV 0)) (eV 1))))))
def zSq:Sf :=
   (zX5)
def lT:jv:=fnF 2 zSq
def zNN (T:Txt w K mg):OkT P w base T.q29 1 2 lT :=
 xE (k:=0) T.q29.F zN3 fun j9 A outer s H E hr =>
   (zT (zO (vV rfl T.z_tuple (vT (wZ (zS zYY) ["turn","corner"] ["axis","flip"] ["corner"] [1] (zXT (xN (vM 0) (xN (vM 1) rM))) (zZl (zU 0)) rfl rfl rfl ja (fun _ _ _ _=>(nM 2 rfl (zH (xU 0 (show(jw ["axis","flip","corner"]) from ja)) (zH (xU 1 (show(jw ["axis","flip","corner"]) from ja)) xF)) (yS (yS wV)))) (fun _ _ _ _=>yP) (fun _ _ _ _=>(zTq (yJ (zU 2) (zU 0)) (zU 1))))))))
def mF:FnScope ["curve","state","digit","turn","back","part","inner"] ["curve","state","digit"] (zS zYM):=xX ja
def zXZ:Sf:=(yM (yT (zY (zN 2 lT (zY (eV 3) (zY (yB "Part" "corner" (eV 5)) zR))) (zY (eV 6) zR))))
def cN:Sf:=(zQ (yK 6 (yT (zY (zN 2 gG (zY (eV 3) (zY (yB "Part" "turn" (eV 5)) zR))) (zY (uZ (eB2 gNe (eV 4) (yB "Part" "back" (eV 5)))) zR))))
   (zXZ))
def cX:Sf:=(zQ (yK 5 (eIx (yB "Curve" "parts" (eV 0)) (zN 3 dI (zY (eV 0) (zY (eV 4) (zY (eV 2) zR))))))
   (cN))
def zY0:Sf:=(zQ (lE (eV 1) (gT (zM (gN 3) (zM (gN 4) xI))))
   (cX))
def zNO:Sf :=
   (zY0)
def uL:jv:=fnF 7 zNO
def iF (T:Txt w K mg):OkT P w base T.q30 2 3 uL :=
 xE (k:=1) T.q30.F mF fun j9 A outer s H E hr =>
   (zV zY0 rfl (mP (zU 1) (nM 2 rfl (zH (xU 3 mF.nd) (zH (xU 4 mF.nd) xF)) (yS (yS wV))))
     (zV cX rfl (zJ 5 mF.nd (yJ (xP T.ca_Curve T.cl_Curve T.n_Curve_parts (zU 0)) (xJ (zNa T) hr (zZ (zU 0) (zZ (zU 4) (zZ (zU 2) zW))))))
     (zV cN rfl (zJ 6 mF.nd (zL (zZ (xJ (zLG T) hr (zZ (zU 3) (zZ (xP T.ca_Part T.cl_Part T.n_Part_turn (zU 5)) zW))) (zZ (qG iY (zU 4) (xP T.ca_Part T.cl_Part T.n_Part_back (zU 5))) zW))))
     (zT (zO (zL (zZ (xJ (zNN T) hr (zZ (zU 3) (zZ (xP T.ca_Part T.cl_Part T.n_Part_corner (zU 5)) zW))) (zZ (zU 6) zW))))))))
def zQS:FnScope ["one","other"] ["one","other"] (zS cD):=xX ja
def zSC:Sf:=(yM (uZ (eB2 gEq (zL7 (yN (zL6 (eV 0) (eV 1)) 2 [] (gT (zM (gN 0) (zM (gN 1) xI))) tOK (zHD (rB (eV 0) (eV 1))))) jm)))
def zNz:Sf :=
   (zSC)
def mG:jv:=fnF 2 zNz
def zQY (T:Txt w K mg):OkT P w base T.q31 1 2 mG :=
 xE (k:=0) T.q31.F zQS fun j9 A outer s H E hr =>
   (zT (zO (qG vW (zJB rfl rfl T.z_sum (nS (wZ (zS cD) ["one","other"] ["along","across"] [] [] (zXT (xN (vM 0) (xN (vM 1) rM))) (zPk rfl T.z_zip (zU 0) (zU 1)) rfl rfl rfl ja (fun _ _ _ _=>(nM 2 rfl (zH (xU 0 (show(jw ["along","across"]) from ja)) (zH (xU 1 (show(jw ["along","across"]) from ja)) xF)) (yS (yS wV)))) (fun _ _ _ _=>yP) (fun _ _ _ _=>(zHO rfl T.z_abs (pN (zU 0) (zU 1))))))) zX)))
def zNB:FnScope ["place","corner"] ["place","corner"] (zS zZw):=xX ja
def zQ1:Sf:=(yM (wC (eL (yN (zL6 (eV 0) (eV 1)) 2 [] (gT (zM (gN 0) (zM (gN 1) xI))) tOK (uU (rY jn (eV 0)) (eV 1))))))
def zMT:Sf :=
   (zQ1)
def qK:jv:=fnF 2 zMT
def zU9 (T:Txt w K mg):OkT P w base T.q32 1 2 qK :=
 xE (k:=0) T.q32.F zNB fun j9 A outer s H E hr =>
   (zT (zO (vV rfl T.z_tuple (vT (wZ (zS zZw) ["place","corner"] ["along","bit"] [] [] (zXT (xN (vM 0) (xN (vM 1) rM))) (zPk rfl T.z_zip (zU 0) (zU 1)) rfl rfl rfl ja (fun _ _ _ _=>(nM 2 rfl (zH (xU 0 (show(jw ["along","bit"]) from ja)) (zH (xU 1 (show(jw ["along","bit"]) from ja)) xF)) (yS (yS wV)))) (fun _ _ _ _=>yP) (fun _ _ _ _=>(uQ (uW zX (zU 0)) (zU 1))))))))
def xC:FnScope ["curve","first","whole","end","ending","start","starting","level","seen","corner"] ["curve","first"] (zS aN):=xX ja
def zZ6:Sf:=(yM (eV 7))
def gJ:Sf:=(zQ (pS (tB1 (zN 2 mG (zY (eV 3) (zY (eV 5) zR)))) (zQ (sIf (zTP 8 (yT (zY (eV 4) (zY (eV 6) zR)))) (yM (eC .non)) xQ)
   (zQ (zYt 8 (yT (zY (eV 4) (zY (eV 6) zR))) (eC (.bl true)))
   (zQ (lE (zN 3 uL (zY (eV 0) (zY (eV 4) (zY (rB (wT (yB "Curve" "parts" (eV 0))) jm) zR)))) (gT (zM (gN 9) (zM (gN 4) xI))))
   (zQ (yK 3 (zN 2 qK (zY (eV 3) (zY (eV 9) zR))))
   (zQ (lE (zN 3 uL (zY (eV 0) (zY (eV 6) (zY jl zR)))) (gT (zM (gN 9) (zM (gN 6) xI))))
   (zQ (yK 5 (zN 2 qK (zY (eV 5) (zY (eV 9) zR))))
   (yK 7 (uU (eV 7) jm)))))))) 10000)
   (zZ6))
def gQ:Sf:=(zQ (zKF 8)
   (gJ))
def gU:Sf:=(zQ (yK 7 jm)
   (gQ))
def fO:Sf:=(zQ (lE (zN 3 uL (zY (eV 0) (zY (eV 2) (zY (uU (eV 1) jm) zR)))) (gT (zM (gN 5) (zM (gN 6) xI))))
   (gU))
def fS:Sf:=(zQ (lE (zN 3 uL (zY (eV 0) (zY (eV 2) (zY (eV 1) zR)))) (gT (zM (gN 3) (zM (gN 4) xI))))
   (fO))
def mY:Sf:=(zQ (yK 2 (zN 1 kE (zY (yB "Curve" "dims" (eV 0)) zR)))
   (fS))
def zQb:Sf :=
   (mY)
def iK:jv:=fnF 10 zQb
def zRL (T:Txt w K mg):OkT P w base T.q33 3 2 iK :=
 xE (k:=2) T.q33.F xC fun j9 A outer s H E hr =>
   (zV mY rfl (zJ 2 xC.nd (xJ (zWO T) hr (zZ (xP T.ca_Curve T.cl_Curve T.n_Curve_dims (zU 0)) zW)))
     (zV fS rfl (mP (xJ (iF T) hr (zZ (zU 0) (zZ (zU 2) (zZ (zU 1) zW)))) (nM 2 rfl (zH (xU 3 xC.nd) (zH (xU 4 xC.nd) xF)) (yS (yS wV))))
     (zV fO rfl (mP (xJ (iF T) hr (zZ (zU 0) (zZ (zU 2) (zZ (uQ (zU 1) zX) zW)))) (nM 2 rfl (zH (xU 5 xC.nd) (zH (xU 6 xC.nd) xF)) (yS (yS wV))))
     (zV gU rfl (zJ 7 xC.nd zX)
     (zV gQ rfl (zPp 8 xC.nd)
     (zV gJ rfl (zVt 10000 El (wW (xJ (zQY T) hr (zZ (zU 3) (zZ (zU 5) zW)))) (vX (yQ (zL3 8 hr (zL (zZ (zU 4) (zZ (zU 6) zW)))) (zT (zO w4)) zI)
     (vX (zOP 8 hr oJ (zL (zZ (zU 4) (zZ (zU 6) zW))))
     (vX (mP (xJ (iF T) hr (zZ (zU 0) (zZ (zU 4) (zZ (pN (vF rfl T.z_len (xP T.ca_Curve T.cl_Curve T.n_Curve_parts (zU 0))) zX) zW)))) (nM 2 rfl (zH (xU 9 xC.nd) (zH (xU 4 xC.nd) xF)) (yS (yS wV))))
     (vX (zJ 3 xC.nd (xJ (zU9 T) hr (zZ (zU 3) (zZ (zU 9) zW))))
     (vX (mP (xJ (iF T) hr (zZ (zU 0) (zZ (zU 6) (zZ zX zW)))) (nM 2 rfl (zH (xU 9 xC.nd) (zH (xU 6 xC.nd) xF)) (yS (yS wV))))
     (vX (zJ 5 xC.nd (xJ (zU9 T) hr (zZ (zU 5) (zZ (zU 9) zW))))
     (zT (zJ 7 xC.nd (uQ (zU 7) zX))))))))))
     (zT (zO (zU 7)))))))))
def kH:FnScope ["curve","levels","least"] ["curve"] (zS qU):=xX ja
def zXA:Sf:=(yM (yT (zY (zQu (iL (eV 1)) (eV 2)) (zY (eV 2) zR))))
def cL:Sf:=(zQ (sIf (eB2 eR (eV 2) (eC .non)) (yM (eC .non)) xQ)
   (zXA))
def lJ:Sf:=(zQ (kB 1 (yK 2 (zR0 (yN (iL (eV 1)) 1 [] (gN 0) (eB2 lX (eV 0) (eC .non)) (eV 0)))))
   (cL))
def qZ:Sf:=(zQ (uO 1 (yN (iR (rB (wT (yB "Curve" "parts" (eV 0))) jm)) 1 [0] (gN 0) tOK (zN 2 iK (zY (eV 1) (zY (eV 0) zR)))))
   (lJ))
def zTN:Sf :=
   (qZ)
def mX:jv:=fnF 3 zTN
def zVM (T:Txt w K mg):OkT P w base T.q34 4 1 mX :=
 xE (k:=3) T.q34.F kH fun j9 A outer s H E hr =>
   (zV qZ rfl (uB (zS qU) ["curve","levels","least"] ["first"] ["curve"] [0] (vM 0) 1 kH.nd rfl rfl (zYF rfl T.z_range (pN (vF rfl T.z_len (xP T.ca_Curve T.cl_Curve T.n_Curve_parts (zU 0))) zX)) rfl rfl rfl ja (fun _ _ _ _=>(xU 0 (show(jw ["first","curve"]) from ja))) (fun _ _ _ _=>yP) (fun _ _ _ _=>(xJ (zRL T) hr (zZ (zU 1) (zZ (zU 0) zW)))))
     (zV lJ rfl (uS 1 (zJ 2 kH.nd (zK5 rfl rfl T.z_min (nS (wZ (zS qU) ["curve","levels","least"] ["level"] [] [] (vM 0) (zSZ (zU 1)) rfl rfl rfl ja (fun _ _ _ _=>(xU 0 (show(jw ["level"]) from ja))) (fun _ _ _ _=>(zNY (zF zWU (zU 0) w4))) (fun _ _ _ _=>(zU 0)))))))
     (zV cL rfl (yQ (zF nY (zU 2) w4) (zT (zO w4)) zI)
     (zT (zO (zL (zZ (zMJ hr (vZ Wr PySem.F.slot_list_index PySem.F.type_list_index (zLM hr) (zYZ (zU 1)) (zE (zU 2) yO))) (zZ (zU 2) zW))))))))
def cI:FnScope ["curve","unmet","first","level"] ["curve"] (zS zWG):=xX ja
def zP7:Sf:=(yM (eV 0))
def zX9:Sf:=(zQ (sIf (eB2 lX (eV 1) (eC .non)) (zQ (lE (eV 1) (gT (zM (gN 2) (zM (gN 3) xI))))
   (fun _=>none)) xQ)
   (zP7))
def hU:Sf:=(zQ (yK 1 (eIf (tB1 (yB "Curve" "joined" (eV 0))) (zN 1 mX (zY (eV 0) zR)) (eC .non)))
   (zX9))
def zLV:Sf :=
   (hU)
def oE:jv:=fnF 4 zLV
def zNi (T:Txt w K mg):OkT P w base T.q35 5 1 oE :=
 xE (k:=4) T.q35.F cI fun j9 A outer s H E hr =>
   (zV hU rfl (zJ 1 cI.nd (zYv (wW (xP T.ca_Curve T.cl_Curve T.n_Curve_joined (zU 0))) (xJ (zVM T) hr (zZ (zU 0) zW)) w4))
     (zV zX9 rfl (yQ (zF zWU (zU 1) w4) (vX (mP (zU 1) (nM 2 rfl (zH (xU 2 cI.nd) (zH (xU 3 cI.nd) xF)) (yS (yS wV))))
     (zT tQ)) zI)
     (zT (zO (zU 0)))))
def zYh:FnScope ["text","dims","place"] ["text","dims"] (zS gK):=xX ja
def zZz:Sf:=(kB 2 (yM (eIf (pE (eB2 gNe (wT (eV 2)) (eV 1)) (eB2 zUp (eC .non) (eV 2))) (eC .non) (wC (eV 2)))))
def mO:Sf:=(zQ (uO 2 (yN (hV (eV 0) (eC (.str ","))) 1 [] (gN 0) tOK (zN 1 tX (zY (eV 0) zR))))
   (zZz))
def zQF:Sf :=
   (mO)
def zZZ:jv:=fnF 3 zQF
def zSw (T:Txt w K mg):OkT P w base T.q36 3 2 zZZ :=
 xE (k:=2) T.q36.F zYh fun j9 A outer s H E hr =>
   (zV mO rfl (uB (zS gK) ["text","dims","place"] ["along"] [] [] (vM 0) 2 zYh.nd rfl rfl (zFN (zXc (vZ We Uu Ui zXm (zU 0) (zE yV yO)))) rfl rfl rfl ja (fun _ _ _ _=>(xU 0 (show(jw ["along"]) from ja))) (fun _ _ _ _=>yP) (fun _ _ _ _=>(zSK tX (nP T) (fun _=>rfl) (hr.mono jc) T.m_number_of T.F_number_of.kp T.bd_number_of rfl (zZ (zU 0) zW) rfl)))
     (zT (uS 2 (zO (zYv (lC (uA (zF iY (vF rfl T.z_len (zU 2)) (zU 1)) (vC (zF (zL2 hr) w4 (zU 2))))) w4 (vV rfl T.z_tuple (zU 2)))))))
def zVR:FnScope ["kind","word","dims"] ["kind","word","dims"] (zS fJ):=xX ja
def eG:Sf:=(yM (zN 1 tX (zY (eV 1) zR)))
def qV:Sf:=(zQ (sIf (eB2 zMe (eV 0) (eC (.str "many"))) (yM (zN 3 oR (zY (eV 1) (zY jm (zY (eC (.int 999)) zR))))) xQ)
   (eG))
def sY:Sf:=(zQ (sIf (eB2 zMe (eV 0) (eC (.str "place"))) (yM (zN 2 zZZ (zY (eV 1) (zY (eV 2) zR)))) xQ)
   (qV))
def wY:Sf:=(zQ (sIf (eB2 zMe (eV 0) (eC (.str "name"))) (yM (eIf (tB1 (zN 1 iW (zY (eV 1) zR))) (eV 1) (eC .non))) xQ)
   (sY))
def zTU:Sf :=
   (wY)
def sP:jv:=fnF 3 zTU
def zVK (T:Txt w K mg):OkT P w base T.q37 4 3 sP :=
 xE (k:=3) T.q37.F zVR fun j9 A outer s H E hr =>
   (zV wY rfl (yQ (zF (zTf hr) (zU 0) yV) (zT (zO (zYv (wW (xJ (zWo T) hr (zZ (zU 1) zW))) (zU 1) w4))) zI)
     (zV sY rfl (yQ (zF (zTf hr) (zU 0) yV) (zT (zO (xJ (zSw T) hr (zZ (zU 1) (zZ (zU 2) zW))))) zI)
     (zV qV rfl (yQ (zF (zTf hr) (zU 0) yV) (zT (zO (xJ (dE T) hr (zZ (zU 1) (zZ (gX rfl T.c_LEAST_MANY) (zZ (gX rfl T.c_MOST_MANY) zW)))))) zI)
     (zT (zO (zSK tX (nP T) (fun _=>rfl) (hr.mono jc) T.m_number_of T.F_number_of.kp T.bd_number_of rfl (zZ (zU 1) zW) rfl))))))
def zZP:FnScope ["words","dims","row","values"] ["words","dims","row"] (zS kU):=xX ja
def aX:Sf:=(yM (zYf (yT (zY (eIx (eV 0) jl) zR)) (wC (eV 3))))
def jW:Sf:=(zQ (kB 3 (sIf (eB2 zUp (eC .non) (eV 3)) (fun _=>none) xQ))
   (aX))
def jP:Sf:=(zQ (uO 3 (yN (zRr (zZU [("put",(.tup [.str "name",.str "place",.str "place"])),("move",(.tup [.str "name",.str "place",.str "place"])),("take",(.tup [.str "name"])),("names",(.tup [])),("where",(.tup [.str "name"])),("inside",(.tup [.str "place",.str "place"])),("meeting",(.tup [.str "place",.str "place"])),("near",(.tup [.str "place",.str "many"])),("sharing",(.tup [])),("number",(.tup [.str "place"])),("place",(.tup [.str "number"])),("spans",(.tup [.str "place",.str "place"])),("cover",(.tup [.str "place",.str "place",.str "many"]))] (eIx (eV 0) jl)) (eL (jX (eV 0) (sI jm) oNo))) 2 [1] (gT (zM (gN 0) (zM (gN 1) xI))) tOK (zN 3 sP (zY (eV 0) (zY (eV 1) (zY (eV 2) zR))))))
   (jW))
def oV:Sf:=(zQ (sIf (pE (zSV false [("put",(.tup [.str "name",.str "place",.str "place"])),("move",(.tup [.str "name",.str "place",.str "place"])),("take",(.tup [.str "name"])),("names",(.tup [])),("where",(.tup [.str "name"])),("inside",(.tup [.str "place",.str "place"])),("meeting",(.tup [.str "place",.str "place"])),("near",(.tup [.str "place",.str "many"])),("sharing",(.tup [])),("number",(.tup [.str "place"])),("place",(.tup [.str "number"])),("spans",(.tup [.str "place",.str "place"])),("cover",(.tup [.str "place",.str "place",.str "many"]))] (eIx (eV 0) jl)) (eB2 gNe (wT (eV 0)) (uU jm (wT (zZU [("put",(.tup [.str "name",.str "place",.str "place"])),("move",(.tup [.str "name",.str "place",.str "place"])),("take",(.tup [.str "name"])),("names",(.tup [])),("where",(.tup [.str "name"])),("inside",(.tup [.str "place",.str "place"])),("meeting",(.tup [.str "place",.str "place"])),("near",(.tup [.str "place",.str "many"])),("sharing",(.tup [])),("number",(.tup [.str "place"])),("place",(.tup [.str "number"])),("spans",(.tup [.str "place",.str "place"])),("cover",(.tup [.str "place",.str "place",.str "many"]))] (eIx (eV 0) jl)))))) (fun _=>none) xQ)
   (jP))
def zRZ:Sf :=
   (oV)
def kX:jv:=fnF 4 zRZ
def zTv (T:Txt w K mg):OkT P w base T.q38 5 3 kX :=
 xE (k:=4) T.q38.F zZP fun j9 A outer s H E hr =>
   (zV oV rfl (yQ (lC (uA (zN8 T.dc_FORMS rfl T.c_FORMS (yJ (zU 0) zX)) (vC (zF iY (vF rfl T.z_len (zU 0)) (uQ zX (vF rfl T.z_len (zM0 T.dc_FORMS rfl T.c_FORMS (yJ (zU 0) zX)))))))) (zT tQ) zI)
     (zV jP rfl (uB (zS kU) ["words","dims","row","values"] ["kind","word"] ["dims"] [1] (zXT (xN (vM 0) (xN (vM 1) rM))) 3 zZP.nd rfl rfl (zJQ rfl T.z_zip (zM0 T.dc_FORMS rfl T.c_FORMS (yJ (zU 0) zX)) (vT (zWA (zU 0) (zZd zX) zRK))) rfl rfl rfl ja (fun _ _ _ _=>(nM 2 rfl (zH (xU 0 (show(jw ["kind","word","dims"]) from ja)) (zH (xU 1 (show(jw ["kind","word","dims"]) from ja)) xF)) (yS (yS wV)))) (fun _ _ _ _=>yP) (fun _ _ _ _=>(xJ (zVK T) hr (zZ (zU 0) (zZ (zU 1) (zZ (zU 2) zW))))))
     (zV jW rfl (uS 3 (yQ (zF (zL2 hr) w4 (zU 3)) (zT tQ) zI))
     (zT (zO (zTS (zL (zZ (yJ (zU 0) zX) zW)) (vV rfl T.z_tuple (zU 3))))))))
def uG:FnScope ["text","rows","curve","floor","level","size","deeds","row"] ["text"] (zS aB):=xX ja
def bA:Sf:=(jN 6 (zN 3 kX (zY (eL (tR 2 uV (zY (eV 1) (zY (eV 7) zR)))) (zY (yB "Curve" "dims" (eV 2)) (zY (eV 7) zR)))))
def rW:Sf:=(zQ (sIf (eB2 gEq (dR 6) (eC (.int 400))) (fun _=>none) xQ)
   (bA))
def zZh:Sf:=(kB 6 (yM (dW "Scene" ["curve","level","size","deeds"] 4 zW8 (zY (zN 1 oE (zY (eV 2) zR)) (zY (eV 4) (zY (eV 5) (zY (eV 6) zR)))))))
def gO:Sf:=(zQ (pQ (iR2 (uU (eV 3) jm) (uU (wT (eV 1)) jm)) (gN 7) (rW))
   (zZh))
def gZ:Sf:=(zQ (uO 6 (yD zR))
   (gO))
def iI:Sf:=(zQ (lE (zN 3 pY (zY (eL (tR 2 uV (zY (eV 1) (zY (eV 3) zR)))) (zY (yB "Curve" "dims" (eV 2)) (zY (eV 3) zR)))) (gT (zM (gN 4) (zM (gN 5) xI))))
   (gZ))
def hW:Sf:=(zQ (yK 3 (uU jn (wT (yB "Curve" "parts" (eV 2)))))
   (iI))
def gL:Sf:=(zQ (yK 2 (zN 1 fT (zY (eV 1) zR)))
   (hW))
def nH:Sf:=(zQ (yK 1 (eL (hV (eV 0) (eC (.str "\n")))))
   (gL))
def zQP:Sf :=
   (nH)
def aO:jv:=fnF 8 zQP
def zRC (T:Txt w K mg):OkT P w base T.q39 6 1 aO :=
 xE (k:=5) T.q39.F uG fun j9 A outer s H E hr =>
   (zV nH rfl (zJ 1 uG.nd (vT (zXc (vZ We Uu Ui zXm (zU 0) (zE yV yO)))))
     (zV gL rfl (zJ 2 uG.nd (xJ (zVS T) hr (zZ (zU 1) zW)))
     (zV hW rfl (zJ 3 uG.nd (uQ zX (vF rfl T.z_len (xP T.ca_Curve T.cl_Curve T.n_Curve_parts (zU 2)))))
     (zV iI rfl (mP (xJ (zWc T) hr (zZ (vT (zVF (kW T) hr (zZ (zU 1) (zZ (zU 3) zW)))) (zZ (xP T.ca_Curve T.cl_Curve T.n_Curve_dims (zU 2)) (zZ (zU 3) zW)))) (nM 2 rfl (zH (xU 4 uG.nd) (zH (xU 5 uG.nd) xF)) (yS (yS wV))))
     (zV gZ rfl (uF 6 uG.nd (yI zW))
     (zV gO rfl (rQ El rfl (zIL rfl T.z_range (uQ (zU 3) zX) (uQ (vF rfl T.z_len (zU 1)) zX)) (xU 7 uG.nd) (zV rW rfl (yQ (zF vW (zTg 6 rfl T.z_len) (gX rfl T.c_MOST_DEEDS)) (zT tQ) zI)
     (zT (qO 6 (vZ Wr Wi Wo wE (pv 6) (zE (xJ (zTv T) hr (zZ (vT (zVF (kW T) hr (zZ (zU 1) (zZ (zU 7) zW)))) (zZ (xP T.ca_Curve T.cl_Curve T.n_Curve_dims (zU 2)) (zZ (zU 7) zW)))) yO))))))
     (zT (uS 6 (zO (zZ1 T.ca_Scene T.mk_Scene (zNm T) (hr.mono jc) T.mc_Scene T.bi_Scene rfl (zZ (xJ (zNi T) hr (zZ (zU 2) zW)) (zZ (zU 4) (zZ (zU 5) (zZ (zU 6) zW))))))))))))))
def zYu:FnScope ["_law_found","_law_due","_law_k"] ["_law_found","_law_due"] (zS aH):=xX ja
def oN (self:jv):Sf:=(sIf (tU (tB1 (zN 2 self (zY (eIx (eV 0) (eV 2)) (zY (eIx (eV 1) (eV 2)) zR))))) (yM (eC (.bl false))) xQ)
def zZQ (self:jv):Sf:=(yM (eC (.bl true)))
def qT (self:jv):Sf:=(zQ (pQ (iR (wT (eV 1))) (gN 2) (oN self))
   (zZQ self))
def nO (self:jv):Sf:=(zQ (sIf (eB2 gNe (wT (eV 0)) (wT (eV 1))) (yM (eC (.bl false))) xQ)
   (qT self))
def mQ (self:jv):Sf:=(zQ (sIf (nU (tB1 (pK rX (eV 1))) (tU (tB1 (pK rX (eV 0))))) (yM (eC (.bl false))) xQ)
   (nO self))
def mL (self:jv):Sf:=(zQ (sIf (nU (tB1 (pK aZ (eV 1))) (tU (tB1 (pK aZ (eV 0))))) (yM (eC (.bl false))) xQ)
   (mQ self))
def qY (self:jv):Sf:=(zQ (sIf (tB1 (pK eZ (eV 1))) (yM (zZa (pK eZ (eV 0)) (uZ (eB2 gEq (eV 0) (eV 1))))) xQ)
   (mL self))
def sJ (self:jv):Sf:=(zQ (sIf (tB1 (pK isInt (eV 1))) (yM (zZa (pK isInt (eV 0)) (zZa (uZ (tU (tB1 (pK cP (eV 0))))) (uZ (eB2 gEq (eV 0) (eV 1)))))) xQ)
   (qY self))
def sN (self:jv):Sf:=(zQ (sIf (eB2 eR (eV 1) (eC (.bl false))) (yM (uZ (eB2 eR (eV 0) (eC (.bl false))))) xQ)
   (sJ self))
def sU (self:jv):Sf:=(zQ (sIf (eB2 eR (eV 1) (eC (.bl true))) (yM (uZ (eB2 eR (eV 0) (eC (.bl true))))) xQ)
   (sN self))
def w6 (self:jv):Sf:=(zQ (sIf (eB2 eR (eV 1) (eC .non)) (yM (uZ (eB2 eR (eV 0) (eC .non)))) xQ)
   (sU self))
def zXB (self:jv):Sf :=
   (w6 self)
def yH:Nat->List D->Option D
 | 0,_=>none
 | n+1,ds=>fnF 3 (zXB (yH n)) ds
abbrev rF:jv:=yH 7
def zZn (T:Txt w K mg):∀n:Nat,FnOk P w K mg base CX0 (1+n) T.q40.f T.q40.fd ["_law_found","_law_due"] (spF K 2 (yH n))
 | 0=>zKS
 | n+1=>by
   have IH:=zZn T n
   exact xE (k:=1+n) (body:=zXB (yH n)) T.q40.F zYu fun j9 A outer s H E hr=>(zV (w6 (yH n)) rfl (yQ (zF nY (zU 1) w4) (zT (zO (qG nY (zU 0) w4))) zI)
     (zV (sU (yH n)) rfl (yQ (zF nY (zU 1) oJ) (zT (zO (qG nY (zU 0) oJ))) zI)
     (zV (sN (yH n)) rfl (yQ (zF nY (zU 1) oJ) (zT (zO (qG nY (zU 0) oJ))) zI)
     (zV (sJ (yH n)) rfl (yQ (wW (pD (T:="int") (TT:="int") rfl zME rfl T.z_isinstance rfl T.z_int (zU 1))) (zT (zO (zTm (pD (T:="int") (TT:="int") rfl zME rfl T.z_isinstance rfl T.z_int (zU 0)) (zTm (zIp (pD (T:="bool") (TT:="bool") rfl zJU rfl T.z_isinstance rfl T.z_bool (zU 0))) (zQN (qG vW (zU 0) (zU 1))))))) zI)
     (zV (qY (yH n)) rfl (yQ (wW (pD (T:="str") (TT:="str") rfl zQe rfl T.z_isinstance rfl T.z_str (zU 1))) (zT (zO (zTm (pD (T:="str") (TT:="str") rfl zQe rfl T.z_isinstance rfl T.z_str (zU 0)) (zQN (qG vW (zU 0) (zU 1)))))) zI)
     (zV (mL (yH n)) rfl (yQ (lC (zZM (wW (pD (T:="list") (TT:="list") rfl zMA rfl T.z_isinstance rfl T.z_list (zU 1))) (dB (nG (wW (pD (T:="list") (TT:="list") rfl zMA rfl T.z_isinstance rfl T.z_list (zU 0))))))) (zT (zO oJ)) zI)
     (zV (mQ (yH n)) rfl (yQ (lC (zZM (wW (pD (T:="tuple") (TT:="tuple") rfl zXq rfl T.z_isinstance rfl T.z_tuple (zU 1))) (dB (nG (wW (pD (T:="tuple") (TT:="tuple") rfl zXq rfl T.z_isinstance rfl T.z_tuple (zU 0))))))) (zT (zO oJ)) zI)
     (zV (nO (yH n)) rfl (yQ (zF iY (vF rfl T.z_len (zU 0)) (vF rfl T.z_len (zU 1))) (zT (zO oJ)) zI)
     (zV (qT (yH n)) rfl (rQ El rfl (zYF rfl T.z_range (vF rfl T.z_len (zU 1))) (xU 2 zYu.nd) (zT (yQ (nG (wW (xJ IH hr (zZ (yJ (zU 0) (zU 2)) (zZ (yJ (zU 1) (zU 2)) zW))))) (zT (zO oJ)) zI)))
     (zT (zO oJ)))))))))))
def cS (T:Txt w K mg):OkT P w base T.q40 8 2 rF:=zZn T 7
def kY:FnScope ["_law_scene","_law_word_here","_law_joined_here","_law_dims","_law_parts","_law_level","_law_size","_law_deeds","_law_told"] ["_law_scene","_law_word_here","_law_joined_here","_law_dims","_law_parts","_law_level","_law_size","_law_deeds"] (zS sT):=xX ja
def lF:Sf:=(yM (zN 2 rF (zY (eL (yN (iL (yB "Curve" "parts" (yB "Scene" "curve" (eV 0)))) 1 [] (gN 0) tOK (yT (zY (yB "Part" "corner" (eV 0)) (zY (yB "Part" "turn" (eV 0)) (zY (yB "Part" "back" (eV 0)) zR)))))) (zY (eV 4) zR))))
def rK:Sf:=(zQ (sIf (pE (tU (tB1 (zN 2 rF (zY (eV 8) (zY (eL (yD (zY (eV 1) (zY (eV 2) (zY (eV 3) (zY (eV 5) (zY (eV 6) zR))))))) zR))))) (tU (tB1 (zN 2 rF (zY (yB "Scene" "deeds" (eV 0)) (zY (eV 7) zR)))))) (yM (eC (.bl false))) xQ)
   (lF))
def tW:Sf:=(zQ (yK 8 (eL (yD (zY (yB "Curve" "name" (yB "Scene" "curve" (eV 0))) (zY (yB "Curve" "joined" (yB "Scene" "curve" (eV 0))) (zY (yB "Curve" "dims" (yB "Scene" "curve" (eV 0))) (zY (yB "Scene" "level" (eV 0)) (zY (yB "Scene" "size" (eV 0)) zR))))))))
   (rK))
def zY3:Sf :=
   (tW)
def sS:jv:=fnF 9 zY3
def kR (T:Txt w K mg):OkT P w base T.q41 9 8 sS :=
 xE (k:=8) T.q41.F kY fun j9 A outer s H E hr =>
   (zV tW rfl (zJ 8 kY.nd (vT (yI (zZ (xP T.ca_Curve T.cl_Curve T.n_Curve_name (xP T.ca_Scene T.cl_Scene T.n_Scene_curve (zU 0))) (zZ (xP T.ca_Curve T.cl_Curve T.n_Curve_joined (xP T.ca_Scene T.cl_Scene T.n_Scene_curve (zU 0))) (zZ (xP T.ca_Curve T.cl_Curve T.n_Curve_dims (xP T.ca_Scene T.cl_Scene T.n_Scene_curve (zU 0))) (zZ (xP T.ca_Scene T.cl_Scene T.n_Scene_level (zU 0)) (zZ (xP T.ca_Scene T.cl_Scene T.n_Scene_size (zU 0)) zW))))))))
     (zV rK rfl (yQ (lC (uA (nG (wW (xJ (cS T) hr (zZ (zU 8) (zZ (vT (yI (zZ (zU 1) (zZ (zU 2) (zZ (zU 3) (zZ (zU 5) (zZ (zU 6) zW))))))) zW))))) (vC (nG (wW (xJ (cS T) hr (zZ (xP T.ca_Scene T.cl_Scene T.n_Scene_deeds (zU 0)) (zZ (zU 7) zW)))))))) (zT (zO oJ)) zI)
     (zT (zO (xJ (cS T) hr (zZ (vT (wZ (zS sT) ["_law_scene","_law_word_here","_law_joined_here","_law_dims","_law_parts","_law_level","_law_size","_law_deeds","_law_told"] ["_law_part"] [] [] (vM 0) (zSZ (xP T.ca_Curve T.cl_Curve T.n_Curve_parts (xP T.ca_Scene T.cl_Scene T.n_Scene_curve (zU 0)))) rfl rfl rfl ja (fun _ _ _ _=>(xU 0 (show(jw ["_law_part"]) from ja))) (fun _ _ _ _=>yP) (fun _ _ _ _=>(zL (zZ (xP T.ca_Part T.cl_Part T.n_Part_corner (zU 0)) (zZ (xP T.ca_Part T.cl_Part T.n_Part_turn (zU 0)) (zZ (xP T.ca_Part T.cl_Part T.n_Part_back (zU 0)) zW))))))) (zZ (zU 4) zW)))))))
def zWV:FnScope ["_law_script","_law_k"] ["_law_script","_law_k"] (zS jU):=xX ja
def zXV:Sf:=(yM jl)
def rS:Sf:=(zQ (sIf (eB2 gLt (eV 1) (wT (eV 0))) (yM (eIx (eV 0) (eV 1))) xQ)
   (zXV))
def zVE:Sf :=
   (rS)
def vP:jv:=fnF 2 zVE
def qR (T:Txt w K mg):OkT P w base T.q42 1 2 vP :=
 xE (k:=0) T.q42.F zWV fun j9 A outer s H E hr =>
   (zV rS rfl (yQ (zF zSM (zU 1) (vF rfl T.z_len (zU 0))) (zT (zO (yJ (zU 0) (zU 1)))) zI)
     (zT (zO zX)))
def sX:FnScope ["_law_dims","_law_plain","_law_parts"] ["_law_dims"] (zS aR):=xX ja
def zUy:Sf:=(kB 2 (zWN (eT (iL (eV 2)) (yD (zY (yT (zY (yT (zY jm (zY jl (zY jl zR)))) (zY (yT (zY (yT (zY jm (zY jm zR))) (zY (yT (zY jl (zY jm zR))) (zY (yT (zY jn (zY jl zR))) zR)))) zR))) zR)))))
def zZ4:Sf:=(zQ (kB 2 (uO 2 (eT (iL (eV 2)) (yD (zY (yT (zY (yT (zY jm (zY jm (zY jm zR)))) (zY (eV 1) zR))) (zY (yT (zY (yT (zY jm (zY jm (zY jl zR)))) (zY (yT (zY (yT (zY jm (zY jm zR))) (zY (yT (zY jn (zY jl zR))) (zY (yT (zY jl (zY jm zR))) zR)))) zR))) zR))))))
   (zUy))
def zZ3:Sf:=(zQ (kB 2 (uO 2 (eT (iL (eV 2)) (yD (zY (yT (zY (yT (zY jl (zY jl (zY jm zR)))) (zY (yT (zY (yT (zY jm (zY jm zR))) (zY (yT (zY jn (zY jm zR))) (zY (yT (zY jl (zY jl zR))) zR)))) zR))) (zY (yT (zY (yT (zY jm (zY jl (zY jm zR)))) (zY (yT (zY (yT (zY jm (zY jl zR))) (zY (yT (zY jn (zY jm zR))) (zY (yT (zY jl (zY jm zR))) zR)))) zR))) zR))))))
   (zZ4))
def zZv:Sf:=(zQ (uO 2 (yD (zY (yT (zY (yT (zY jl (zY jl (zY jl zR)))) (zY (yT (zY (yT (zY jm (zY jl zR))) (zY (yT (zY jl (zY jl zR))) (zY (yT (zY jn (zY jl zR))) zR)))) zR))) (zY (yT (zY (yT (zY jl (zY jm (zY jl zR)))) (zY (yT (zY (yT (zY jm (zY jl zR))) (zY (yT (zY jn (zY jl zR))) (zY (yT (zY jl (zY jl zR))) zR)))) zR))) (zY (yT (zY (yT (zY jl (zY jm (zY jm zR)))) (zY (eV 1) zR))) zR)))))
   (zZ3))
def zZC:Sf:=(zQ (yK 1 (yT (zY (yT (zY jl (zY jl zR))) (zY (yT (zY jm (zY jl zR))) (zY (yT (zY jn (zY jl zR))) zR)))))
   (zZv))
def zZJ:Sf:=(zQ (sIf (eB2 gEq (eV 0) jn) (zQ (yK 1 (yT (zY (yT (zY jl (zY jl zR))) (zY (yT (zY jm (zY jl zR))) zR))))
   (zQ (uO 2 (yD (zY (yT (zY (yT (zY jl (zY jl zR))) (zY (yT (zY (yT (zY jm (zY jl zR))) (zY (yT (zY jl (zY jl zR))) zR))) zR))) (zY (yT (zY (yT (zY jl (zY jm zR))) (zY (eV 1) zR))) (zY (yT (zY (yT (zY jm (zY jm zR))) (zY (eV 1) zR))) (zY (yT (zY (yT (zY jm (zY jl zR))) (zY (yT (zY (yT (zY jm (zY jm zR))) (zY (yT (zY jl (zY jm zR))) zR))) zR))) zR))))))
   (zWx 2))) xQ)
   (zZC))
def zQd:Sf :=
   (zZJ)
def aM:List D->Option (List D):=fnL 3 zQd
def zRX (T:Txt w K mg):zP9 P w base T.q43 1 1 aM :=
 zZV (k:=0) T.q43.F sX fun j9 A outer s H E hr =>
   (zV zZJ rfl (yQ (zF vW (zU 0) zX) (vX (zJ 1 sX.nd (zL (zZ (zL (zZ zX (zZ zX zW))) (zZ (zL (zZ zX (zZ zX zW))) zW))))
     (vX (uF 2 sX.nd (yI (zZ (zL (zZ (zL (zZ zX (zZ zX zW))) (zZ (zL (zZ (zL (zZ zX (zZ zX zW))) (zZ (zL (zZ zX (zZ zX zW))) zW))) zW))) (zZ (zL (zZ (zL (zZ zX (zZ zX zW))) (zZ (zU 1) zW))) (zZ (zL (zZ (zL (zZ zX (zZ zX zW))) (zZ (zU 1) zW))) (zZ (zL (zZ (zL (zZ zX (zZ zX zW))) (zZ (zL (zZ (zL (zZ zX (zZ zX zW))) (zZ (zL (zZ zX (zZ zX zW))) zW))) zW))) zW))))))
     (zT (zZN 2)))) zI)
     (zV zZC rfl (zJ 1 sX.nd (zL (zZ (zL (zZ zX (zZ zX zW))) (zZ (zL (zZ zX (zZ zX zW))) (zZ (zL (zZ zX (zZ zX zW))) zW)))))
     (zV zZv rfl (uF 2 sX.nd (yI (zZ (zL (zZ (zL (zZ zX (zZ zX (zZ zX zW)))) (zZ (zL (zZ (zL (zZ zX (zZ zX zW))) (zZ (zL (zZ zX (zZ zX zW))) (zZ (zL (zZ zX (zZ zX zW))) zW)))) zW))) (zZ (zL (zZ (zL (zZ zX (zZ zX (zZ zX zW)))) (zZ (zL (zZ (zL (zZ zX (zZ zX zW))) (zZ (zL (zZ zX (zZ zX zW))) (zZ (zL (zZ zX (zZ zX zW))) zW)))) zW))) (zZ (zL (zZ (zL (zZ zX (zZ zX (zZ zX zW)))) (zZ (zU 1) zW))) zW)))))
     (zV zZ3 rfl (uS 2 (uF 2 sX.nd (zT6 (zYZ (zU 2)) (nS (yI (zZ (zL (zZ (zL (zZ zX (zZ zX (zZ zX zW)))) (zZ (zL (zZ (zL (zZ zX (zZ zX zW))) (zZ (zL (zZ zX (zZ zX zW))) (zZ (zL (zZ zX (zZ zX zW))) zW)))) zW))) (zZ (zL (zZ (zL (zZ zX (zZ zX (zZ zX zW)))) (zZ (zL (zZ (zL (zZ zX (zZ zX zW))) (zZ (zL (zZ zX (zZ zX zW))) (zZ (zL (zZ zX (zZ zX zW))) zW)))) zW))) zW)))))))
     (zV zZ4 rfl (uS 2 (uF 2 sX.nd (zT6 (zYZ (zU 2)) (nS (yI (zZ (zL (zZ (zL (zZ zX (zZ zX (zZ zX zW)))) (zZ (zU 1) zW))) (zZ (zL (zZ (zL (zZ zX (zZ zX (zZ zX zW)))) (zZ (zL (zZ (zL (zZ zX (zZ zX zW))) (zZ (zL (zZ zX (zZ zX zW))) (zZ (zL (zZ zX (zZ zX zW))) zW)))) zW))) zW)))))))
     (zT (uS 2 (zTz (zT6 (zYZ (zU 2)) (nS (yI (zZ (zL (zZ (zL (zZ zX (zZ zX (zZ zX zW)))) (zZ (zL (zZ (zL (zZ zX (zZ zX zW))) (zZ (zL (zZ zX (zZ zX zW))) (zZ (zL (zZ zX (zZ zX zW))) zW)))) zW))) zW))))))))))))
def zT7:FnScope ["_law_one","_law_other"] ["_law_one","_law_other"] (zS kL):=xX ja
def zV6:Sf:=(yM (wC (eL (yN (iT (eV 0)) 2 [1] (gT (zM (gN 0) (zM (gN 1) xI))) tOK (yT (zY (eIx (eIx (eV 2) (eV 0)) jl) (zY (zTl (eIx (eIx (eV 2) (eV 0)) jm) (eV 1)) zR)))))))
def zSd:Sf :=
   (zV6)
def uH:jv:=fnF 2 zSd
def qE (T:Txt w K mg):OkT P w base T.q44 1 2 uH :=
 xE (k:=0) T.q44.F zT7 fun j9 A outer s H E hr =>
   (zT (zO (vV rfl T.z_tuple (vT (wZ (zS kL) ["_law_one","_law_other"] ["_law_axis","_law_flip"] ["_law_other"] [1] (zXT (xN (vM 0) (xN (vM 1) rM))) (zZl (zU 0)) rfl rfl rfl ja (fun _ _ _ _=>(nM 2 rfl (zH (xU 0 (show(jw ["_law_axis","_law_flip","_law_other"]) from ja)) (zH (xU 1 (show(jw ["_law_axis","_law_flip","_law_other"]) from ja)) xF)) (yS (yS wV)))) (fun _ _ _ _=>yP) (fun _ _ _ _=>(zL (zZ (yJ (yJ (zU 2) (zU 0)) zX) (zZ (zTq (yJ (yJ (zU 2) (zU 0)) zX) (zU 1)) zW)))))))))
def jO:FnScope ["_law_turn_here","_law_back","_law_k"] ["_law_turn_here"] (zS gY):=xX ja
def zXS:Sf:=(eJ 1 (eIx (eIx (eV 0) (eV 2)) jl) (yT (zY (eV 2) (zY (eIx (eIx (eV 0) (eV 2)) jm) zR))))
def zXp:Sf:=(kB 1 (yM (wC (eV 1))))
def eD:Sf:=(zQ (pQ (iR (wT (eV 0))) (gN 2) (zXS))
   (zXp))
def dD:Sf:=(zQ (uO 1 (zIa (yD (zY (eC .non) zR)) (wT (eV 0))))
   (eD))
def zTT:Sf :=
   (dD)
def sR:jv:=fnF 3 zTT
def bF (T:Txt w K mg):OkT P w base T.q45 1 1 sR :=
 xE (k:=0) T.q45.F jO fun j9 A outer s H E hr =>
   (zV dD rfl (uF 1 jO.nd (zHv (yI (zZ w4 zW)) (vF rfl T.z_len (zU 0))))
     (zV eD rfl (rQ El rfl (zYF rfl T.z_range (vF rfl T.z_len (zU 0))) (xU 2 jO.nd) (zT (zXK 1 (zL (zZ (zU 2) (zZ (yJ (yJ (zU 0) (zU 2)) zX) zW))) (yJ (yJ (zU 0) (zU 2)) zX))))
     (zT (uS 1 (zO (vV rfl T.z_tuple (zU 1)))))))
def zV7:FnScope ["_law_turn_here","_law_corner"] ["_law_turn_here","_law_corner"] (zS nE):=xX ja
def zXr:Sf:=(yM (wC (eL (yN (iT (eV 0)) 2 [1] (gT (zM (gN 0) (zM (gN 1) xI))) tOK (zTl (eIx (eV 2) (eV 0)) (eV 1))))))
def zSR:Sf :=
   (zXr)
def mZ:jv:=fnF 2 zSR
def zV0 (T:Txt w K mg):OkT P w base T.q46 1 2 mZ :=
 xE (k:=0) T.q46.F zV7 fun j9 A outer s H E hr =>
   (zT (zO (vV rfl T.z_tuple (vT (wZ (zS nE) ["_law_turn_here","_law_corner"] ["_law_axis","_law_flip"] ["_law_corner"] [1] (zXT (xN (vM 0) (xN (vM 1) rM))) (zZl (zU 0)) rfl rfl rfl ja (fun _ _ _ _=>(nM 2 rfl (zH (xU 0 (show(jw ["_law_axis","_law_flip","_law_corner"]) from ja)) (zH (xU 1 (show(jw ["_law_axis","_law_flip","_law_corner"]) from ja)) xF)) (yS (yS wV)))) (fun _ _ _ _=>yP) (fun _ _ _ _=>(zTq (yJ (zU 2) (zU 0)) (zU 1))))))))
def xK:FnScope ["_law_dims","_law_number","_law_base_here","_law_turn_here","_law_mirror","_law_parts","_law_bits","_law_corner","_law_inner","_law_lies"] ["_law_dims","_law_number"] (zS mT):=xX ja
def zXW:Sf:=(yK 6 (wJ (eV 6) jn))
def rP:Sf:=(zQ (jN 5 (yT (zY (zN 2 mZ (zY (eV 3) (zY (eV 7) zR))) (zY (eV 9) (zY (uZ (eB2 gEq (xG (eV 6) jn) jm)) zR)))))
   (zXW))
def nV:Sf:=(zQ (sIf (eB2 gEq (xG (eV 6) jn) jm) (yK 9 (zN 2 uH (zY (eV 9) (zY (eV 4) zR)))) xQ)
   (rP))
def vE:Sf:=(zQ (yK 9 (zN 2 uH (zY (eV 3) (zY (zN 2 uH (zY (eV 8) (zY (zN 1 sR (zY (eV 3) zR)) zR))) zR))))
   (nV))
def zXf:Sf:=(zWx 5)
def mD:Sf:=(zQ (pQ (iL (eV 2)) (gT (zM (gN 7) (zM (gN 8) xI))) (vE))
   (zXf))
def lZ:Sf:=(zQ (yK 6 (wJ (eV 1) (eC (.int 96))))
   (mD))
def lK:Sf:=(zQ (uO 5 (yD zR))
   (lZ))
def lS:Sf:=(zQ (yK 4 (zN 2 uH (zY (eV 3) (zY (zN 2 uH (zY (eV 4) (zY (zN 1 sR (zY (eV 3) zR)) zR))) zR))))
   (lK))
def pR:Sf:=(zQ (yK 4 (wC (eL (yN (iR (eV 0)) 1 [] (gN 0) tOK (yT (zY (eV 0) (zY (sB (uZ (eB2 gEq (eV 0) jl))) zR)))))))
   (lS))
def lO:Sf:=(zQ (sIf (eB2 gEq (xG (wJ (eV 1) (eC (.int 48))) jn) jm) (yK 2 (eL (zQc (iL (eV 2))))) xQ)
   (pR))
def lL:Sf:=(zQ (yK 3 (zN 2 vK (zY (eV 1) (zY (eV 0) zR))))
   (lO))
def pZ:Sf:=(zQ (yK 2 (eL (tR 1 aM (zY (eV 0) zR))))
   (lL))
def zUd:Sf :=
   (pZ)
def iG:List D->Option (List D):=fnL 10 zUd
def zV8 (T:Txt w K mg):zP9 P w base T.q47 2 2 iG :=
 zZV (k:=1) T.q47.F xK fun j9 A outer s H E hr =>
   (zV pZ rfl (zJ 2 xK.nd (vT (zVF (zRX T) hr (zZ (zU 0) zW))))
     (zV lL rfl (zJ 3 xK.nd (xJ (zYg T) hr (zZ (zU 1) (zZ (zU 0) zW))))
     (zV lO rfl (yQ (zF vW (yA (xD (zU 1) zX) zX) zX) (zT (zJ 2 xK.nd (vT (zQM rfl rfl T.z_list rfl T.z_reversed (zYZ (zU 2)))))) zI)
     (zV pR rfl (zJ 4 xK.nd (vV rfl T.z_tuple (vT (wZ (zS mT) ["_law_dims","_law_number","_law_base_here","_law_turn_here","_law_mirror","_law_parts","_law_bits","_law_corner","_law_inner","_law_lies"] ["_law_axis"] [] [] (vM 0) (zYF rfl T.z_range (zU 0)) rfl rfl rfl ja (fun _ _ _ _=>(xU 0 (show(jw ["_law_axis"]) from ja))) (fun _ _ _ _=>yP) (fun _ _ _ _=>(zL (zZ (zU 0) (zZ (dM rfl T.z_int (qG vW (zU 0) zX)) zW))))))))
     (zV lS rfl (zJ 4 xK.nd (xJ (qE T) hr (zZ (zU 3) (zZ (xJ (qE T) hr (zZ (zU 4) (zZ (xJ (bF T) hr (zZ (zU 3) zW)) zW))) zW))))
     (zV lK rfl (uF 5 xK.nd (yI zW))
     (zV lZ rfl (zJ 6 xK.nd (xD (zU 1) zX))
     (zV mD rfl (rQ El rfl (zSZ (zU 2)) (nM 2 rfl (zH (xU 7 xK.nd) (zH (xU 8 xK.nd) xF)) (yS (yS wV))) (zV vE rfl (zJ 9 xK.nd (xJ (qE T) hr (zZ (zU 3) (zZ (xJ (qE T) hr (zZ (zU 8) (zZ (xJ (bF T) hr (zZ (zU 3) zW)) zW))) zW))))
     (zV nV rfl (yQ (zF vW (yA (zU 6) zX) zX) (zT (zJ 9 xK.nd (xJ (qE T) hr (zZ (zU 9) (zZ (zU 4) zW))))) zI)
     (zV rP rfl (qO 5 (vZ Wr Wi Wo wE (pv 5) (zE (zL (zZ (xJ (zV0 T) hr (zZ (zU 3) (zZ (zU 7) zW))) (zZ (zU 9) (zZ (qG vW (yA (zU 6) zX) zX) zW)))) yO)))
     (zT (zJ 6 xK.nd (xD (zU 6) zX)))))))
     (zT (zZN 5))))))))))
def wL:FnScope ["_law_cell","_law_k","_law_letters","_law_word_here","_law_n","_law_size","_law_place","_law_far"] ["_law_cell","_law_k"] (zS aJ):=xX ja
def rV:Sf:=(yK 3 (xW (eV 3) (eIx (eV 2) (xG (xW (xW (wJ (eV 0) (eC (.int 7200))) (rY jt (eV 1))) (rY (eV 4) (eV 4))) (eC (.int 26))))))
def kF:Sf:=(yK 3 (xW (eV 3) (eIx (eV 2) (xG (xW (wJ (eV 0) (eC (.int 144))) (eV 7)) (eC (.int 26))))))
def jY:Sf:=(zQ (sIf (eB2 gEq (eV 4) (eV 6)) (yK 7 (xW (wJ (eV 0) (eC (.int 97))) (rY jo (eV 1)))) xQ)
   (kF))
def tN:Sf:=(zQ (yK 7 (rY (rY (eV 4) (eV 4)) (xG (wJ (eV 0) jt) jo)))
   (jY))
def zUi:Sf:=(yM (eV 3))
def fN:Sf:=(zQ (pQ (iR (eV 5)) (gN 4) (tN))
   (zUi))
def gF:Sf:=(zQ (yK 3 (eC (.str "")))
   (fN))
def iA:Sf:=(zQ (yK 6 (xG (wJ (eV 0) (eC (.int 12))) (eV 5)))
   (gF))
def nD:Sf:=(zQ (yK 5 (xW jm (xG (eV 0) (eC (.int 12)))))
   (iA))
def nL:Sf:=(zQ (sIf (eB2 gEq (xG (wJ (eV 0) ju) jo) jl) (zQ (yK 3 (eIx (eV 2) (xG (xW (wJ (eV 0) (eC (.int 24))) (rY jo (wJ (eV 1) jn))) (eC (.int 26)))))
   (zQ (pQ (iR (xG (xW (wJ (eV 0) (eC (.int 600))) (rY jq (eV 1))) (eC (.int 12)))) (gN 4) (rV))
   (yM (eV 3)))) xQ)
   (nD))
def mJ:Sf:=(zQ (sIf (nU (eB2 gEq (xG (eV 0) ju) jq) (eB2 gEq (xG (eV 1) jo) jm)) (yM (eIx (eL (yD (zY (eC (.str "near")) (zY (eC (.str "place")) (zY (eC (.str "names")) (zY (eC (.str "floor")) (zY (eC (.str "part")) (zY (eC (.str "back")) (zY (eC (.str "none")) (zY (eC (.str "put")) zR)))))))))) (xG (xW (wJ (eV 0) ju) (eV 1)) ju))) xQ)
   (nL))
def mW:Sf:=(zQ (yK 2 (eC (.str "abcdefghijklmnopqrstuvwxyz")))
   (mJ))
def zQy:Sf :=
   (mW)
def fX:jv:=fnF 8 zQy
def zR1 (T:Txt w K mg):OkT P w base T.q48 1 2 fX :=
 xE (k:=0) T.q48.F wL fun j9 A outer s H E hr =>
   (zV mW rfl (zJ 2 wL.nd yV)
     (zV mJ rfl (yQ (lC (zZM (zF vW (yA (zU 0) zX) zX) (dB (zF vW (yA (zU 1) zX) zX)))) (zT (zO (yJ (vT (yI (zZ yV (zZ yV (zZ yV (zZ yV (zZ yV (zZ yV (zZ yV (zZ yV zW)))))))))) (yA (xA (xD (zU 0) zX) (zU 1)) zX)))) zI)
     (zV nL rfl (yQ (zF vW (yA (xD (zU 0) zX) zX) zX) (vX (zJ 3 wL.nd (yJ (zU 2) (yA (xA (xD (zU 0) zX) (uW zX (xD (zU 1) zX))) zX)))
     (vX (rQ El rfl (zYF rfl T.z_range (yA (xA (xD (zU 0) zX) (uW zX (zU 1))) zX)) (xU 4 wL.nd) (zT (zJ 3 wL.nd (xA (zU 3) (yJ (zU 2) (yA (xA (xA (xD (zU 0) zX) (uW zX (zU 1))) (uW (zU 4) (zU 4))) zX))))))
     (zT (zO (zU 3))))) zI)
     (zV nD rfl (zJ 5 wL.nd (xA zX (yA (zU 0) zX)))
     (zV iA rfl (zJ 6 wL.nd (yA (xD (zU 0) zX) (zU 5)))
     (zV gF rfl (zJ 3 wL.nd yV)
     (zV fN rfl (rQ El rfl (zYF rfl T.z_range (zU 5)) (xU 4 wL.nd) (zV tN rfl (zJ 7 wL.nd (uW (uW (zU 4) (zU 4)) (yA (xD (zU 0) zX) zX)))
     (zV jY rfl (yQ (zF vW (zU 4) (zU 6)) (zT (zJ 7 wL.nd (xA (xD (zU 0) zX) (uW zX (zU 1))))) zI)
     (zT (zJ 3 wL.nd (xA (zU 3) (yJ (zU 2) (yA (xA (xD (zU 0) zX) (zU 7)) zX))))))))
     (zT (zO (zU 3))))))))))
def oM:FnScope ["_law_deed_here","_law_parts","_law_part"] ["_law_deed_here"] (zS mI):=xX ja
def nW:Sf:=(jN 1 (eV 2))
def wO:Sf:=(zQ (sIf (tB1 (pK rX (eV 2))) (yK 2 (wC (eL (yN (iT (eV 2)) 1 [] (gN 0) tOK (zJ6 jl (eV 0)))))) xQ)
   (nW))
def zXD:Sf:=(kB 1 (yM (wC (eV 1))))
def lV:Sf:=(zQ (pQ (iT (zZg (eV 0) (sI jm) oNo)) (gN 2) (wO))
   (zXD))
def qD:Sf:=(zQ (uO 1 (yD (zY (eIx (eV 0) jl) zR)))
   (lV))
def zSQ:Sf :=
   (qD)
def iC:jv:=fnF 3 zSQ
def zVO (T:Txt w K mg):OkT P w base T.q49 1 1 iC :=
 xE (k:=0) T.q49.F oM fun j9 A outer s H E hr =>
   (zV qD rfl (uF 1 oM.nd (yI (zZ (yJ (zU 0) zX) zW)))
     (zV lV rfl (rQ El rfl (zZl (zTE (zU 0) (zZd zX) zRK)) (xU 2 oM.nd) (zV wO rfl (yQ (wW (pD (T:="tuple") (TT:="tuple") rfl zXq rfl T.z_isinstance rfl T.z_tuple (zU 2))) (zT (zJ 2 oM.nd (vV rfl T.z_tuple (vT (wZ (zS mI) ["_law_deed_here","_law_parts","_law_part"] ["_law_each"] [] [] (vM 0) (zZl (zU 2)) rfl rfl rfl ja (fun _ _ _ _=>(xU 0 (show(jw ["_law_each"]) from ja))) (fun _ _ _ _=>yP) (fun _ _ _ _=>(zHj rfl rfl T.z_max zX (zU 0)))))))) zI)
     (zT (qO 1 (vZ Wr Wi Wo wE (pv 1) (zE (zU 2) yO))))))
     (zT (uS 1 (zO (vV rfl T.z_tuple (zU 1)))))))
def zZt:FnScope ["_law_place"] ["_law_place"] (zS sK):=xX ja
def rC:Sf:=(yM (vB (eC (.str ",")) (yN (iT (eV 0)) 1 [] (gN 0) tOK (wB (eV 0)))))
def zYR:Sf :=
   (rC)
def pG:jv:=fnF 1 zYR
def zZj (T:Txt w K mg):OkT P w base T.q50 1 1 pG :=
 xE (k:=0) T.q50.F zZt fun j9 A outer s H E hr =>
   (zT (zO (sO (vZ We Wc Wv sM yV (zE (nS (wZ (zS sK) ["_law_place"] ["_law_each"] [] [] (vM 0) (zZl (zU 0)) rfl rfl rfl ja (fun _ _ _ _=>(xU 0 (show(jw ["_law_each"]) from ja))) (fun _ _ _ _=>yP) (fun _ _ _ _=>(qF rfl T.z_str (zU 0))))) yO)))))
def nX:FnScope ["_law_deed_here","_law_words","_law_part"] ["_law_deed_here"] (zS lW):=xX ja
def tH:Sf:=(sIf (tB1 (pK rX (eV 2))) (jN 1 (zN 1 pG (zY (eV 2) zR))) (jN 1 (zOH (eV 2))))
def jD:Sf:=(kB 1 (yM (vB (eC (.str " ")) (iL (eV 1)))))
def pJ:Sf:=(zQ (pQ (iT (zZg (eV 0) (sI jm) oNo)) (gN 2) (tH))
   (jD))
def sQ:Sf:=(zQ (uO 1 (yD (zY (eIx (eV 0) jl) zR)))
   (pJ))
def zWk:Sf :=
   (sQ)
def lI:jv:=fnF 3 zWk
def zXY (T:Txt w K mg):OkT P w base T.q51 2 1 lI :=
 xE (k:=1) T.q51.F nX fun j9 A outer s H E hr =>
   (zV sQ rfl (uF 1 nX.nd (yI (zZ (yJ (zU 0) zX) zW)))
     (zV pJ rfl (rQ El rfl (zZl (zTE (zU 0) (zZd zX) zRK)) (xU 2 nX.nd) (zT (yQ (wW (pD (T:="tuple") (TT:="tuple") rfl zXq rfl T.z_isinstance rfl T.z_tuple (zU 2))) (zT (qO 1 (vZ Wr Wi Wo wE (pv 1) (zE (xJ (zZj T) hr (zZ (zU 2) zW)) yO)))) (zT (qO 1 (vZ Wr Wi Wo wE (pv 1) (zE (zPj rfl T.z_str (zU 2)) yO)))))))
     (zT (uS 1 (zO (sO (vZ We Wc Wv sM yV (zE (zYZ (zU 1)) yO))))))))
def zR2:FnScope ["_law_number","_law_dims","_law_level"] ["_law_number","_law_dims","_law_level"] (zS gP):=xX ja
def gH:Sf:=(yM (wC (eL (yN (iR (eV 1)) 1 [0,2] (gN 0) tOK (xG (zN 2 vY (zY (eV 1) (zY (uU (eC (.int 16807)) (rY (eC (.int 14)) (eV 0))) zR))) (zX7 jm (eV 2)))))))
def zPM:Sf :=
   (gH)
def aT:jv:=fnF 3 zPM
def zSm (T:Txt w K mg):OkT P w base T.q52 2 3 aT :=
 xE (k:=1) T.q52.F zR2 fun j9 A outer s H E hr =>
   (zT (zO (vV rfl T.z_tuple (vT (wZ (zS gP) ["_law_number","_law_dims","_law_level"] ["_law_axis"] ["_law_number","_law_level"] [0,2] (vM 0) (zYF rfl T.z_range (zU 1)) rfl rfl rfl ja (fun _ _ _ _=>(xU 0 (show(jw ["_law_axis","_law_number","_law_level"]) from ja))) (fun _ _ _ _=>yP) (fun _ _ _ _=>(yA (xJ (rD T) hr (zZ (zU 1) (zZ (uQ zX (uW zX (zU 0))) zW))) (zUk zX (zU 2)))))))))
def pB:FnScope ["_law_number","_law_dims","_law_level","_law_most","_law_low","_law_far","_law_high","_law_way","_law_axis"] ["_law_number","_law_dims","_law_level","_law_most"] (zS jE):=xX ja
def dH:Sf:=(kB 6 (yM (yT (zY (eV 4) (zY (wC (eV 6)) zR)))))
def kK:Sf:=(zQ (sIf (eB2 gEq (xG (eV 7) (eC (.int 12))) jn) (eJ 6 (eV 8) (uU (zNt 6 (eV 8)) (zSL (eC (.int 10)) (eC (.int 17))))) xQ)
   (dH))
def kN:Sf:=(zQ (sIf (eB2 gEq (xG (eV 7) (eC (.int 12))) jm) (eJ 6 (eV 8) (uU (zX7 jm (eV 2)) (xG (wJ (eV 7) (eC (.int 72))) jo))) xQ)
   (kK))
def dG:Sf:=(zQ (sIf (eB2 gEq (xG (eV 7) (eC (.int 12))) jl) (eJ 6 (eV 8) (rB (eIx (eV 4) (eV 8)) jm)) xQ)
   (kN))
def dX:Sf:=(zQ (yK 8 (xG (wJ (eV 7) (eC (.int 24))) (eV 1)))
   (dG))
def dZ:Sf:=(zQ (yK 7 (zN 2 vY (zY (eV 0) (zY (eC (.int 39373)) zR))))
   (dX))
def eO:Sf:=(zQ (uO 6 (yN (iR (eV 1)) 1 [2,4,5] (gN 0) tOK (zKB (rB (zX7 jm (eV 1)) jm) (uU (eIx (eV 2) (eV 0)) (eIx (eV 3) (eV 0))))))
   (dZ))
def cQ:Sf:=(zQ (yK 5 (eL (yN (iR (eV 1)) 1 [3,0] (gN 0) tOK (xG (zN 2 vY (zY (eV 2) (zY (uU (eC (.int 69621)) (rY (eC (.int 22)) (eV 0))) zR))) (eV 1)))))
   (eO))
def kT:Sf:=(zQ (yK 4 (zN 3 aT (zY (eV 0) (zY (eV 1) (zY (eV 2) zR)))))
   (cQ))
def zOj:Sf :=
   (kT)
def cA:jv:=fnF 9 zOj
def zXv (T:Txt w K mg):OkT P w base T.q53 3 4 cA :=
 xE (k:=2) T.q53.F pB fun j9 A outer s H E hr =>
   (zV kT rfl (zJ 4 pB.nd (xJ (zSm T) hr (zZ (zU 0) (zZ (zU 1) (zZ (zU 2) zW)))))
     (zV cQ rfl (zJ 5 pB.nd (vT (wZ (zS jE) ["_law_number","_law_dims","_law_level","_law_most","_law_low","_law_far","_law_high","_law_way","_law_axis"] ["_law_axis"] ["_law_most","_law_number"] [3,0] (vM 0) (zYF rfl T.z_range (zU 1)) rfl rfl rfl ja (fun _ _ _ _=>(xU 0 (show(jw ["_law_axis","_law_most","_law_number"]) from ja))) (fun _ _ _ _=>yP) (fun _ _ _ _=>(yA (xJ (rD T) hr (zZ (zU 2) (zZ (uQ zX (uW zX (zU 0))) zW))) (zU 1))))))
     (zV eO rfl (uB (zS jE) ["_law_number","_law_dims","_law_level","_law_most","_law_low","_law_far","_law_high","_law_way","_law_axis"] ["_law_axis"] ["_law_level","_law_low","_law_far"] [2,4,5] (vM 0) 6 pB.nd rfl rfl (zYF rfl T.z_range (zU 1)) rfl rfl rfl ja (fun _ _ _ _=>(xU 0 (show(jw ["_law_axis","_law_level","_law_low","_law_far"]) from ja))) (fun _ _ _ _=>yP) (fun _ _ _ _=>(zIG rfl rfl T.z_min (pN (zUk zX (zU 1)) zX) (uQ (yJ (zU 2) (zU 0)) (yJ (zU 3) (zU 0))))))
     (zV dZ rfl (zJ 7 pB.nd (xJ (rD T) hr (zZ (zU 0) (zZ zX zW))))
     (zV dX rfl (zJ 8 pB.nd (yA (xD (zU 7) zX) (zU 1)))
     (zV dG rfl (yQ (zF vW (yA (zU 7) zX) zX) (zT (zXK 6 (pN (yJ (zU 4) (zU 8)) zX) (zU 8))) zI)
     (zV kN rfl (yQ (zF vW (yA (zU 7) zX) zX) (zT (zXK 6 (uQ (zUk zX (zU 2)) (yA (xD (zU 7) zX) zX)) (zU 8))) zI)
     (zV kK rfl (yQ (zF vW (yA (zU 7) zX) zX) (zT (zXK 6 (uQ (zPI 6 (zU 8)) (zQ4 zX zX)) (zU 8))) zI)
     (zT (uS 6 (zO (zL (zZ (zU 4) (zZ (vV rfl T.z_tuple (zU 6)) zW))))))))))))))
def uI:FnScope ["_law_number","_law_dims","_law_level","_law_names","_law_most","_law_drawn","_law_name","_law_low","_law_high","_law_wide","_law_many","_law_what"] ["_law_number","_law_dims","_law_level","_law_names","_law_most"] (zS zZX):=xX ja
def jQ:Sf:=(yM (yT (zY (eC (.str "cover")) (zY (eV 7) (zY (eV 8) (zY (eV 10) zR))))))
def oO:Sf:=(zQ (sIf (eB2 gEq (eV 11) (eC (.int 18))) (yM (yT (zY (eC (.str "spans")) (zY (eV 7) (zY (eV 8) zR))))) xQ)
   (jQ))
def oS:Sf:=(zQ (sIf (eB2 gEq (eV 11) (eC (.int 17))) (yM (yT (zY (eC (.str "place")) (zY (eIx (eL (yD (zY (xG (eV 0) (uU (zX7 jm (rY (eV 1) (eV 2))) jn)) (zY (xG (eV 0) (zSL (eC (.int 10)) (eC (.int 60)))) zR)))) (wJ (xG (wJ (eV 5) (eC (.int 640))) jq) jp)) zR)))) xQ)
   (oO))
def oP:Sf:=(zQ (sIf (eB2 gEq (eV 11) (eC (.int 16))) (yM (yT (zY (eC (.str "number")) (zY (eIx (eV 9) (wJ (xG (wJ (eV 5) (eC (.int 640))) ju) jt)) zR)))) xQ)
   (oS))
def oW:Sf:=(zQ (sIf (eB2 gEq (eV 11) (eC (.int 15))) (yM (yT (zY (eC (.str "near")) (zY (eIx (eV 9) (wJ (xG (wJ (eV 5) (eC (.int 640))) ju) jt)) (zY (eV 10) zR))))) xQ)
   (oP))
def oZ:Sf:=(zQ (sIf (pE (eB2 gEq (eV 11) (eC (.int 13))) (eB2 gEq (eV 11) (eC (.int 14)))) (yM (eIx (eL (yD (zY (zYf (yT (zY (eC (.str "inside")) zR)) (eV 9)) (zY (zYf (yT (zY (eC (.str "meeting")) zR)) (eV 9)) zR)))) (rB (eV 11) (eC (.int 13))))) xQ)
   (oW))
def nA:Sf:=(zQ (sIf (pE (eB2 gEq (eV 11) (eC (.int 11))) (eB2 gEq (eV 11) (eC (.int 12)))) (yM (eIx (eL (yD (zY (yT (zY (eC (.str "names")) zR)) (zY (yT (zY (eC (.str "sharing")) zR)) zR)))) (rB (eV 11) (eC (.int 11))))) xQ)
   (oZ))
def nJ:Sf:=(zQ (sIf (pE (eB2 gEq (eV 11) (eC (.int 9))) (eB2 gEq (eV 11) (eC (.int 10)))) (yM (eIx (eL (yD (zY (yT (zY (eC (.str "take")) (zY (eV 6) zR))) (zY (yT (zY (eC (.str "where")) (zY (eV 6) zR))) zR)))) (rB (eV 11) (eC (.int 9))))) xQ)
   (nA))
def nK:Sf:=(zQ (sIf (eB2 gLt (eV 11) (eC (.int 9))) (yM (yT (zY (eC (.str "move")) (zY (eV 6) (zY (eV 7) (zY (eV 8) zR)))))) xQ)
   (nJ))
def nN:Sf:=(zQ (sIf (eB2 gLt (eV 11) jt) (yM (yT (zY (eC (.str "put")) (zY (eV 6) (zY (eV 7) (zY (eV 8) zR)))))) xQ)
   (nK))
def fU:Sf:=(zQ (yK 11 (xG (eV 5) (eC (.int 20))))
   (nN))
def iB:Sf:=(zQ (yK 10 (eIx (eL (yD (zY (uU jm (xG (wJ (eV 5) (eC (.int 160))) jp)) (zY (uU jm (xG (wJ (eV 5) (eC (.int 160))) (eC (.int 999)))) (zY (eC (.int 999)) zR))))) (xG (wJ (eV 5) (eC (.int 640))) jo)))
   (fU))
def fQ:Sf:=(zQ (yK 9 (zN 4 cA (zY (eV 0) (zY (eV 1) (zY (eV 2) (zY (uU (uU (eV 4) jn) (rY jo (sB (uZ (eB2 gLt (eV 2) (rB jr (eV 1))))))) zR))))))
   (iB))
def fL:Sf:=(zQ (lE (zN 4 cA (zY (eV 0) (zY (eV 1) (zY (eV 2) (zY (eV 4) zR))))) (gT (zM (gN 7) (zM (gN 8) xI))))
   (fQ))
def iD:Sf:=(zQ (yK 6 (eIx (eV 3) (xG (wJ (eV 5) (eC (.int 20))) (wT (eV 3)))))
   (fL))
def mR:Sf:=(zQ (yK 5 (zN 2 vY (zY (eV 0) (zY (eC (.int 48271)) zR))))
   (iD))
def zQ5:Sf :=
   (mR)
def aV:jv:=fnF 12 zQ5
def zSe (T:Txt w K mg):OkT P w base T.q54 4 5 aV :=
 xE (k:=3) T.q54.F uI fun j9 A outer s H E hr =>
   (zV mR rfl (zJ 5 uI.nd (xJ (rD T) hr (zZ (zU 0) (zZ zX zW))))
     (zV iD rfl (zJ 6 uI.nd (yJ (zU 3) (yA (xD (zU 5) zX) (vF rfl T.z_len (zU 3)))))
     (zV fL rfl (mP (xJ (zXv T) hr (zZ (zU 0) (zZ (zU 1) (zZ (zU 2) (zZ (zU 4) zW))))) (nM 2 rfl (zH (xU 7 uI.nd) (zH (xU 8 uI.nd) xF)) (yS (yS wV))))
     (zV fQ rfl (zJ 9 uI.nd (xJ (zXv T) hr (zZ (zU 0) (zZ (zU 1) (zZ (zU 2) (zZ (uQ (uQ (zU 4) zX) (uW zX (dM rfl T.z_int (qG zSM (zU 2) (pN zX (zU 1)))))) zW))))))
     (zV iB rfl (zJ 10 uI.nd (yJ (vT (yI (zZ (uQ zX (yA (xD (zU 5) zX) zX)) (zZ (uQ zX (yA (xD (zU 5) zX) zX)) (zZ zX zW))))) (yA (xD (zU 5) zX) zX)))
     (zV fU rfl (zJ 11 uI.nd (yA (zU 5) zX))
     (zV nN rfl (yQ (zF zSM (zU 11) zX) (zT (zO (zL (zZ yV (zZ (zU 6) (zZ (zU 7) (zZ (zU 8) zW))))))) zI)
     (zV nK rfl (yQ (zF zSM (zU 11) zX) (zT (zO (zL (zZ yV (zZ (zU 6) (zZ (zU 7) (zZ (zU 8) zW))))))) zI)
     (zV nJ rfl (yQ (lC (uA (zF vW (zU 11) zX) (vC (zF vW (zU 11) zX)))) (zT (zO (yJ (vT (yI (zZ (zL (zZ yV (zZ (zU 6) zW))) (zZ (zL (zZ yV (zZ (zU 6) zW))) zW)))) (pN (zU 11) zX)))) zI)
     (zV nA rfl (yQ (lC (uA (zF vW (zU 11) zX) (vC (zF vW (zU 11) zX)))) (zT (zO (yJ (vT (yI (zZ (zL (zZ yV zW)) (zZ (zL (zZ yV zW)) zW)))) (pN (zU 11) zX)))) zI)
     (zV oZ rfl (yQ (lC (uA (zF vW (zU 11) zX) (vC (zF vW (zU 11) zX)))) (zT (zO (yJ (vT (yI (zZ (zTS (zL (zZ yV zW)) (zU 9)) (zZ (zTS (zL (zZ yV zW)) (zU 9)) zW)))) (pN (zU 11) zX)))) zI)
     (zV oW rfl (yQ (zF vW (zU 11) zX) (zT (zO (zL (zZ yV (zZ (yJ (zU 9) (xD (yA (xD (zU 5) zX) zX) zX)) (zZ (zU 10) zW)))))) zI)
     (zV oP rfl (yQ (zF vW (zU 11) zX) (zT (zO (zL (zZ yV (zZ (yJ (zU 9) (xD (yA (xD (zU 5) zX) zX) zX)) zW))))) zI)
     (zV oS rfl (yQ (zF vW (zU 11) zX) (zT (zO (zL (zZ yV (zZ (yJ (vT (yI (zZ (yA (zU 0) (uQ (zUk zX (uW (zU 1) (zU 2))) zX)) (zZ (yA (zU 0) (zQ4 zX zX)) zW)))) (xD (yA (xD (zU 5) zX) zX) zX)) zW))))) zI)
     (zV oO rfl (yQ (zF vW (zU 11) zX) (zT (zO (zL (zZ yV (zZ (zU 7) (zZ (zU 8) zW)))))) zI)
     (zT (zO (zL (zZ yV (zZ (zU 7) (zZ (zU 8) (zZ (zU 10) zW))))))))))))))))))))))
def uK:FnScope ["_law_script","_law_number","_law_dims","_law_joined_here","_law_parts","_law_level","_law_size","_law_names","_law_deeds","_law_rows","_law_k","_law_cell","_law_handed","_law_curve","_law_handed_deeds","_law_scene","_law_text","_law_found","_law_other"] ["_law_script"] (zS zRl):=xX ja
def zRS:Sf:=(jN 9 (zN 1 lI (zY (zNt 8 (eV 10)) zR)))
def iZ:Sf:=(zQ (jN 8 (zN 1 iC (zY (zN 5 aV (zY (xW (eV 11) (rY (rY (eC (.int 65537)) (eV 10)) (eV 10))) (zY (eV 2) (zY (eV 5) (zY (eV 7) (zY jp zR)))))) zR)))
   (zRS))
def zS8:Sf:=(yM (zN 8 sS (zY (eV 18) (zY (eIx (eV 7) jt) (zY (eV 3) (zY (eV 2) (zY (eV 4) (zY (eV 5) (zY (eV 6) (zY (eV 8) zR))))))))))
def zW6:Sf:=(zQ (sIf (eB2 gNe (zN 1 pU (zY (eV 18) zR)) (eV 16)) (yM (eC (.bl false))) xQ)
   (zS8))
def zXu:Sf:=(zQ (yK 18 (zN 1 aO (zY (eV 16) zR)))
   (zW6))
def zWi:Sf:=(zQ (sIf (tU (tB1 (zN 8 sS (zY (eV 15) (zY (eIx (eV 7) jt) (zY (eV 3) (zY (eV 2) (zY (eV 4) (zY (eV 5) (zY (eV 6) (zY (eV 8) zR))))))))))) (yM (eC (.bl false))) xQ)
   (zXu))
def zXk:Sf:=(zQ (sIf (pE (tU (tB1 (pK eZ (eV 17)))) (pE (eB2 gNe (eV 17) (eV 16)) (eB2 gNe (zN 1 pU (zY (eV 15) zR)) (eV 16)))) (yM (eC (.bl false))) xQ)
   (zWi))
def zZE:Sf:=(zQ (yK 17 (zN 1 pU (zY (eV 15) zR)))
   (zXk))
def zX1:Sf:=(zQ (kB 9 (yK 16 (vB (eC (.str "\n")) (iL (eV 9)))))
   (zZE))
def zX0:Sf:=(zQ (jN 14 (yT (zY (eC (.str "names")) zR)))
   (zX1))
def zX8:Sf:=(zQ (jN 12 (dW "Part" ["corner","turn","back"] 3 zZS (zY (eIx (eIx (eV 4) jl) jl) (zY (eIx (eIx (eV 4) jl) jm) (zY (eC (.bl false)) zR)))))
   (zX0))
def zW0:Sf:=(zQ (yK 15 (zYN 14 "Scene" ["curve","level","size"] "deeds" 4 zVf (zY (eV 13) (zY (eV 5) (zY (eV 6) zR)))))
   (zX8))
def zXz:Sf:=(zQ (kB 8 (uO 14 (gS (eV 8))))
   (zW0))
def zWm:Sf:=(zQ (yK 13 (zYN 12 "Curve" ["name","dims","joined"] "parts" 4 zVq (zY (eIx (eV 7) jt) (zY (eV 2) (zY (eV 3) zR)))))
   (zXz))
def zZI:Sf:=(zQ (uO 12 (yN (iL (eV 4)) 3 [] (gT (zM (gN 0) (zM (gN 1) (zM (gN 2) xI)))) tOK (dW "Part" ["corner","turn","back"] 3 zZS (zY (eV 0) (zY (eV 1) (zY (eV 2) zR))))))
   (zWm))
def zWv:Sf:=(zQ (kB 7 (pQ (zSG (jX (eV 0) (sI jo) (sI (eC (.int 63))))) (gT (zM (gN 10) (zM (gN 11) xI))) (iZ)))
   (zZI))
def zWr:Sf:=(zQ (jN 9 (xW (xW (xW (eC (.str "floor ")) (wB (eV 5))) (eC (.str " "))) (wB (eV 6))))
   (zWv))
def zUf:Sf:=(zQ (uO 9 (tR 4 pC (zY (zNt 7 jt) (zY (eV 3) (zY (eV 2) (zY (eV 4) zR))))))
   (zWr))
def zTs:Sf:=(zQ (uO 8 (yD zR))
   (zUf))
def zTI:Sf:=(zQ (uO 7 (yN (iR ju) 1 [0] (gN 0) tOK (zN 2 fX (zY (xG (zN 2 vP (zY (eV 1) (zY jn zR))) (zSL (eC (.int 10)) (eC (.int 12)))) (zY (eV 0) zR)))))
   (zTs))
def zTW:Sf:=(zQ (yK 6 (xW jp (xG (wJ (eV 1) (eC (.int 256))) (eC (.int 9)))))
   (zTI))
def zXG:Sf:=(zQ (yK 5 (xG (wJ (eV 1) (eC (.int 16))) (rB (eC (.int 11)) (rY jn (eV 2)))))
   (zTW))
def zXF:Sf:=(zQ (sIf (pE (tB1 (eV 3)) (eB2 gEq (xG (wJ (eV 1) jp) jp) jm)) (yK 4 (eL (tR 2 iG (zY (eV 2) (zY (zN 2 vY (zY (zN 2 vP (zY (eV 0) (zY jm zR))) (zY (eC (.int 16807)) zR))) zR))))) xQ)
   (zXG))
def zZs:Sf:=(zQ (yK 4 (eL (tR 2 dF (zY (eV 2) (zY (zN 2 vP (zY (eV 0) (zY jm zR))) zR)))))
   (zXF))
def zUc:Sf:=(zQ (yK 3 (uZ (eB2 gEq (xG (wJ (eV 1) jn) jn) jm)))
   (zZs))
def zTo:Sf:=(zQ (yK 2 (xW jn (xG (eV 1) jn)))
   (zUc))
def zXJ:Sf:=(zQ (yK 1 (zN 2 vY (zY (zN 2 vP (zY (eV 0) (zY jl zR))) (zY (eC (.int 39373)) zR))))
   (zTo))
def zHe:Sf :=
   (zXJ)
def zUI:jv:=fnF 19 zHe
def zHQ (T:Txt w K mg):OkT P w base T.q55 10 1 zUI :=
 xE (k:=9) T.q55.F uK fun j9 A outer s H E hr =>
   (zV zXJ rfl (zJ 1 uK.nd (xJ (rD T) hr (zZ (xJ (qR T) hr (zZ (zU 0) (zZ zX zW))) (zZ zX zW))))
     (zV zTo rfl (zJ 2 uK.nd (xA zX (yA (zU 1) zX)))
     (zV zUc rfl (zJ 3 uK.nd (qG vW (yA (xD (zU 1) zX) zX) zX))
     (zV zZs rfl (zJ 4 uK.nd (vT (zVF (zTJ T) hr (zZ (zU 2) (zZ (xJ (qR T) hr (zZ (zU 0) (zZ zX zW))) zW)))))
     (zV zXF rfl (yQ (lC (uA (wW (zU 3)) (vC (zF vW (yA (xD (zU 1) zX) zX) zX)))) (zT (zJ 4 uK.nd (vT (zVF (zV8 T) hr (zZ (zU 2) (zZ (xJ (rD T) hr (zZ (xJ (qR T) hr (zZ (zU 0) (zZ zX zW))) (zZ zX zW))) zW)))))) zI)
     (zV zXG rfl (zJ 5 uK.nd (yA (xD (zU 1) zX) (pN zX (uW zX (zU 2)))))
     (zV zTW rfl (zJ 6 uK.nd (xA zX (yA (xD (zU 1) zX) zX)))
     (zV zTI rfl (uB (zS zRl) ["_law_script","_law_number","_law_dims","_law_joined_here","_law_parts","_law_level","_law_size","_law_names","_law_deeds","_law_rows","_law_k","_law_cell","_law_handed","_law_curve","_law_handed_deeds","_law_scene","_law_text","_law_found","_law_other"] ["_law_k"] ["_law_script"] [0] (vM 0) 7 uK.nd rfl rfl (zYF rfl T.z_range zX) rfl rfl rfl ja (fun _ _ _ _=>(xU 0 (show(jw ["_law_k","_law_script"]) from ja))) (fun _ _ _ _=>yP) (fun _ _ _ _=>(xJ (zR1 T) hr (zZ (yA (xJ (qR T) hr (zZ (zU 1) (zZ zX zW))) (zQ4 zX zX)) (zZ (zU 0) zW)))))
     (zV zTs rfl (uF 8 uK.nd (yI zW))
     (zV zUf rfl (uF 9 uK.nd (zVF (zZG T) hr (zZ (zPI 7 zX) (zZ (zU 3) (zZ (zU 2) (zZ (zU 4) zW))))))
     (zV zWr rfl (qO 9 (vZ Wr Wi Wo wE (pv 9) (zE (xA (xA (xA yV (qF rfl T.z_str (zU 5))) yV) (qF rfl T.z_str (zU 6))) yO)))
     (zV zWv rfl (uS 7 (rQ El rfl (zKu rfl T.z_enumerate (nS (zWA (zU 0) (zZd zX) (zZd zX)))) (nM 2 rfl (zH (xU 10 uK.nd) (zH (xU 11 uK.nd) xF)) (yS (yS wV))) (zV iZ rfl (qO 8 (vZ Wr Wi Wo wE (pv 8) (zE (xJ (zVO T) hr (zZ (xJ (zSe T) hr (zZ (xA (zU 11) (uW (uW zX (zU 10)) (zU 10))) (zZ (zU 2) (zZ (zU 5) (zZ (zU 7) (zZ zX zW)))))) zW)) yO)))
     (zT (qO 9 (vZ Wr Wi Wo wE (pv 9) (zE (xJ (zXY T) hr (zZ (zPI 8 (zU 10)) zW)) yO)))))))
     (zV zZI rfl (uB (zS zRl) ["_law_script","_law_number","_law_dims","_law_joined_here","_law_parts","_law_level","_law_size","_law_names","_law_deeds","_law_rows","_law_k","_law_cell","_law_handed","_law_curve","_law_handed_deeds","_law_scene","_law_text","_law_found","_law_other"] ["_law_corner","_law_turn_here","_law_back"] [] [] (zXT (xN (vM 0) (xN (vM 1) (xN (vM 2) rM)))) 12 uK.nd rfl rfl (zSZ (zU 4)) rfl rfl rfl ja (fun _ _ _ _=>(nM 3 rfl (zH (xU 0 (show(jw ["_law_corner","_law_turn_here","_law_back"]) from ja)) (zH (xU 1 (show(jw ["_law_corner","_law_turn_here","_law_back"]) from ja)) (zH (xU 2 (show(jw ["_law_corner","_law_turn_here","_law_back"]) from ja)) xF))) (yS (yS (yS wV))))) (fun _ _ _ _=>yP) (fun _ _ _ _=>(zZ1 T.ca_Part T.mk_Part (zWS T) (hr.mono jc) T.mc_Part T.bi_Part rfl (zZ (zU 0) (zZ (zU 1) (zZ (zU 2) zW))))))
     (zV zWm rfl (zJ 13 uK.nd (zS2 12 T.ca_Curve T.mk_Curve (zQv T) (hr.mono jc) rfl T.mc_Curve T.bi_Curve (jK (yJ (zU 7) zX) (jK (zU 2) (jK (zU 3) (zSv 12))))))
     (zV zXz rfl (uS 8 (uF 14 uK.nd (iU rfl T.z_list (zU 8))))
     (zV zW0 rfl (zJ 15 uK.nd (zS2 14 T.ca_Scene T.mk_Scene (zQk T) (hr.mono jc) rfl T.mc_Scene T.bi_Scene (jK (zU 13) (jK (zU 5) (jK (zU 6) (zSv 14))))))
     (zV zX8 rfl (qO 12 (vZ Wr Wi Wo wE (pv 12) (zE (zZ1 T.ca_Part T.mk_Part (zWS T) (hr.mono jc) T.mc_Part T.bi_Part rfl (zZ (yJ (yJ (zU 4) zX) zX) (zZ (yJ (yJ (zU 4) zX) zX) (zZ oJ zW)))) yO)))
     (zV zX0 rfl (qO 14 (vZ Wr Wi Wo wE (pv 14) (zE (zL (zZ yV zW)) yO)))
     (zV zX1 rfl (uS 9 (zJ 16 uK.nd (sO (vZ We Wc Wv sM yV (zE (zYZ (zU 9)) yO)))))
     (zV zZE rfl (zJ 17 uK.nd (xJ (jT T) hr (zZ (zU 15) zW)))
     (zV zXk rfl (yQ (lC (uA (nG (wW (pD (T:="str") (TT:="str") rfl zQe rfl T.z_isinstance rfl T.z_str (zU 17)))) (uA (zF iY (zU 17) (zU 16)) (vC (zF iY (xJ (jT T) hr (zZ (zU 15) zW)) (zU 16)))))) (zT (zO oJ)) zI)
     (zV zWi rfl (yQ (nG (wW (xJ (kR T) hr (zZ (zU 15) (zZ (yJ (zU 7) zX) (zZ (zU 3) (zZ (zU 2) (zZ (zU 4) (zZ (zU 5) (zZ (zU 6) (zZ (zU 8) zW))))))))))) (zT (zO oJ)) zI)
     (zV zXu rfl (zJ 18 uK.nd (xJ (zRC T) hr (zZ (zU 16) zW)))
     (zV zW6 rfl (yQ (zF iY (xJ (jT T) hr (zZ (zU 18) zW)) (zU 16)) (zT (zO oJ)) zI)
     (zT (zO (xJ (kR T) hr (zZ (zU 18) (zZ (yJ (zU 7) zX) (zZ (zU 3) (zZ (zU 2) (zZ (zU 4) (zZ (zU 5) (zZ (zU 6) (zZ (zU 8) zW)))))))))))))))))))))))))))))))))))
end
open PySem.W
def zHH {l:OpenLaw}{w:World}{K:Frag}{h:Heap}{mg:Str->Option Value}{fa:Addr}
   {f22:Addr} {od22 an22:Option Addr} {sl22:Array (Option Value)} {oc22 kV22 dc22 pm22 cd22 ct22:Value}
   {tD22:Addr} {oD22:Obj} {nD22:Nat}
   {cC0 cF0:Addr} {codi0 cani0:Option Addr} {csl0:Array (Option Value)} {coc0 ckV0 cdc0 cpm0 ccd0 cct0:Value}
   {cC1 cF1:Addr} {codi1 cani1:Option Addr} {csl1:Array (Option Value)} {coc1 ckV1 cdc1 cpm1 ccd1 cct1:Value}
   {cC2 cF2:Addr} {codi2 cani2:Option Addr} {csl2:Array (Option Value)} {coc2 ckV2 cdc2 cpm2 ccd2 cct2:Value}
   {t_BITS:Tok}
   {t_FLIPS:Tok}
   {t_AXES:Tok}
   {t_FIGURES:Tok}
   {t_LETTERS:Tok}
   {t_LONGEST_NUMBER:Tok}
   {t_LONGEST_WORD:Tok}
   {da_PROMISES:Addr} {dn_PROMISES:Nat} {dt_PROMISES_0  dt_PROMISES_1  : Tok}
   {da_DIMS:Addr} {dn_DIMS:Nat} {dt_DIMS_0 dv_DIMS_0 dt_DIMS_1 dv_DIMS_1:Tok}
   {da_MOST_LEVEL:Addr} {dn_MOST_LEVEL:Nat} {dt_MOST_LEVEL_0 dv_MOST_LEVEL_0 dt_MOST_LEVEL_1 dv_MOST_LEVEL_1:Tok}
   {t_LEAST_SIZE:Tok}
   {t_MOST_SIZE:Tok}
   {t_LEAST_MANY:Tok}
   {t_MOST_MANY:Tok}
   {t_MOST_DEEDS:Tok}
   {da_FORMS:Addr} {dn_FORMS:Nat} {dt_FORMS_0 tt_FORMS_0_0 tt_FORMS_0_1 tt_FORMS_0_2 dt_FORMS_1 tt_FORMS_1_0 tt_FORMS_1_1 tt_FORMS_1_2 dt_FORMS_2 tt_FORMS_2_0 dt_FORMS_3 dt_FORMS_4 tt_FORMS_4_0 dt_FORMS_5 tt_FORMS_5_0 tt_FORMS_5_1 dt_FORMS_6 tt_FORMS_6_0 tt_FORMS_6_1 dt_FORMS_7 tt_FORMS_7_0 tt_FORMS_7_1 dt_FORMS_8 dt_FORMS_9 tt_FORMS_9_0 dt_FORMS_10 tt_FORMS_10_0 dt_FORMS_11 tt_FORMS_11_0 tt_FORMS_11_1 dt_FORMS_12 tt_FORMS_12_0 tt_FORMS_12_1 tt_FORMS_12_2:Tok} {ta_FORMS_0 ta_FORMS_1 ta_FORMS_2 ta_FORMS_3 ta_FORMS_4 ta_FORMS_5 ta_FORMS_6 ta_FORMS_7 ta_FORMS_8 ta_FORMS_9 ta_FORMS_10 ta_FORMS_11 ta_FORMS_12:Addr} {tn_FORMS_0 tn_FORMS_1 tn_FORMS_2 tn_FORMS_3 tn_FORMS_4 tn_FORMS_5 tn_FORMS_6 tn_FORMS_7 tn_FORMS_8 tn_FORMS_9 tn_FORMS_10 tn_FORMS_11 tn_FORMS_12:Nat} (X:K.In h) (G:h.Ns mainGlobals mg) (hfa:mg "law"=some (.ref fa))
   (g0:wG K "_law_mix" zYU)
   (g1:wG K "_law_corners" sA)
   (g2:wG K "_law_turn" fK)
   (g3:wG K "_law_loose" cK)
   (g4:wG K "_law_curve_rows" uN)
   (g5:wG K "corner_text" oX)
   (g6:wG K "turn_text" kQ)
   (g7:wG K "part_row" aC)
   (g8:wG K "curve_rows" nC)
   (g9:wG K "place_text" mU)
   (g10:wG K "value_text" fZ)
   (g11:wG K "deed_row" iJ)
   (g12:wG K "scene_text" mV)
   (g13:wG K "is_made_of" nF)
   (g14:wG K "is_word" zY8)
   (g15:wG K "read_head" dU)
   (g16:wG K "words_at" aL)
   (g17:wG K "corner_of" lB)
   (g18:wG K "turn_of" iN)
   (g19:wG K "read_part" dJ)
   (g20:wG K "full" zQG)
   (g21:wG K "curve_from" gW)
   (a22:nsIn K mainGlobals "number_of"=some (some (.ref f22))) (l22:K.lookup f22=some ⟨oc22,od22,.func (fnOf "number_of" "number_of" (uT wK) (wH wK) (zS wK) (.ref tD22) kV22 dc22 pm22 an22 cd22 ct22),sl22⟩) (c22:codeIn K cd22 "number_of"=true) (k22:keepIn K (.ref f22)=true)
   (dl22:K.lookup tD22=some oD22) (dd22:oD22.data = .seq #[.none] nD22)
   (g23:wG K "number_from" kG)
   (g24:wG K "read_floor" gI)
   (g25:wG K "still" zXN)
   (g26:wG K "first_state" jV)
   (g27:wG K "walked" zXh)
   (g28:wG K "after" zXO)
   (g29:wG K "turned" zYY)
   (g30:wG K "part_at" zYM)
   (g31:wG K "next_to" cD)
   (g32:wG K "deeper" zZw)
   (g33:wG K "unmet_at" aN)
   (g34:wG K "meeting_of" qU)
   (g35:wG K "fitted" zWG)
   (g36:wG K "place_of" gK)
   (g37:wG K "read_value" fJ)
   (g38:wG K "read_deed" kU)
   (g39:wG K "scene_of" aB)
   (g40:wG K "_law_same" aH)
   (g41:wG K "_law_scene_same" sT)
   (g42:wG K "_law_cell_at" jU)
   (g43:wG K "_law_base" aR)
   (g44:wG K "_law_after" kL)
   (g45:wG K "_law_undone" gY)
   (g46:wG K "_law_turned" nE)
   (g47:wG K "_law_joined" mT)
   (g48:wG K "_law_word" aJ)
   (g49:wG K "_law_raised" mI)
   (g50:wG K "_law_place_text" sK)
   (g51:wG K "_law_deed_row" lW)
   (g52:wG K "_law_spot" gP)
   (g53:wG K "_law_box" jE)
   (g54:wG K "_law_deed" zZX)
   (g55:wG K "law" zRl)
   (ca0:nsIn K mainGlobals "Part"=some (some (.ref cC0))) (ci0:findIn K (.ref cC0) "__init__"=some (some (.ref cF0))) (cn0:isFn K (.ref cF0)=true) (cl0:K.lookup cF0=some ⟨coc0,codi0,.func (fnOf "__init__" "Part.__init__" (uT cB) (wH cB) (zS cB) .none ckV0 cdc0 cpm0 cani0 ccd0 cct0),csl0⟩) (cc0:codeIn K ccd0 "Part.__init__"=true) (ck0:keepIn K (.ref cF0)=true)
   (cpg0:plainGet K cC0 Str.empty=true) (chd0:hasDictIn K cC0=true) (cpo0:plainOver K cC0=true) (csa0:findIn K (.ref cC0) "__setattr__"=some (some (.builtin "object.__setattr__"))) (cmk0:makesIn K cC0=true) (ckc0:keepIn K (.ref cC0)=true)
   (cf0_back:findIn K (.ref cC0) "back"=some none)
   (cf0_corner:findIn K (.ref cC0) "corner"=some none)
   (cf0_turn:findIn K (.ref cC0) "turn"=some none)
   (ca1:nsIn K mainGlobals "Curve"=some (some (.ref cC1))) (ci1:findIn K (.ref cC1) "__init__"=some (some (.ref cF1))) (cn1:isFn K (.ref cF1)=true) (cl1:K.lookup cF1=some ⟨coc1,codi1,.func (fnOf "__init__" "Curve.__init__" (uT jC) (wH jC) (zS jC) .none ckV1 cdc1 cpm1 cani1 ccd1 cct1),csl1⟩) (cc1:codeIn K ccd1 "Curve.__init__"=true) (ck1:keepIn K (.ref cF1)=true)
   (cpg1:plainGet K cC1 Str.empty=true) (chd1:hasDictIn K cC1=true) (cpo1:plainOver K cC1=true) (csa1:findIn K (.ref cC1) "__setattr__"=some (some (.builtin "object.__setattr__"))) (cmk1:makesIn K cC1=true) (ckc1:keepIn K (.ref cC1)=true)
   (cf1_dims:findIn K (.ref cC1) "dims"=some none)
   (cf1_joined:findIn K (.ref cC1) "joined"=some none)
   (cf1_name:findIn K (.ref cC1) "name"=some none)
   (cf1_parts:findIn K (.ref cC1) "parts"=some none)
   (ca2:nsIn K mainGlobals "Scene"=some (some (.ref cC2))) (ci2:findIn K (.ref cC2) "__init__"=some (some (.ref cF2))) (cn2:isFn K (.ref cF2)=true) (cl2:K.lookup cF2=some ⟨coc2,codi2,.func (fnOf "__init__" "Scene.__init__" (uT jH) (wH jH) (zS jH) .none ckV2 cdc2 cpm2 cani2 ccd2 cct2),csl2⟩) (cc2:codeIn K ccd2 "Scene.__init__"=true) (ck2:keepIn K (.ref cF2)=true)
   (cpg2:plainGet K cC2 Str.empty=true) (chd2:hasDictIn K cC2=true) (cpo2:plainOver K cC2=true) (csa2:findIn K (.ref cC2) "__setattr__"=some (some (.builtin "object.__setattr__"))) (cmk2:makesIn K cC2=true) (ckc2:keepIn K (.ref cC2)=true)
   (cf2_curve:findIn K (.ref cC2) "curve"=some none)
   (cf2_deeds:findIn K (.ref cC2) "deeds"=some none)
   (cf2_level:findIn K (.ref cC2) "level"=some none)
   (cf2_size:findIn K (.ref cC2) "size"=some none)
   (g_BITS:nsIn K mainGlobals "BITS"=some (some (.str "01" t_BITS)))
   (g_FLIPS:nsIn K mainGlobals "FLIPS"=some (some (.str "+-" t_FLIPS)))
   (g_AXES:nsIn K mainGlobals "AXES"=some (some (.str "xyz" t_AXES)))
   (g_FIGURES:nsIn K mainGlobals "FIGURES"=some (some (.str "0123456789" t_FIGURES)))
   (g_LETTERS:nsIn K mainGlobals "LETTERS"=some (some (.str "abcdefghijklmnopqrstuvwxyz" t_LETTERS)))
   (g_LONGEST_NUMBER:nsIn K mainGlobals "LONGEST_NUMBER"=some (some (.int 60 t_LONGEST_NUMBER)))
   (g_LONGEST_WORD:nsIn K mainGlobals "LONGEST_WORD"=some (some (.int 12 t_LONGEST_WORD)))
   (g_PROMISES:nsIn K mainGlobals "PROMISES"=some (some (.ref da_PROMISES))) (dl_PROMISES:K.lookup da_PROMISES=some ⟨.type "dict",none,.dict #[⟨PyData.keyHash w.params "joined",.str "joined" dt_PROMISES_0,.bool true⟩,⟨PyData.keyHash w.params "loose",.str "loose" dt_PROMISES_1,.bool false⟩] dn_PROMISES,#[]⟩) (ds_PROMISES:(da_PROMISES==sysModules)=false)
   (g_DIMS:nsIn K mainGlobals "DIMS"=some (some (.ref da_DIMS))) (dl_DIMS:K.lookup da_DIMS=some ⟨.type "dict",none,.dict #[⟨PyData.keyHash w.params "2",.str "2" dt_DIMS_0,.int 2 dv_DIMS_0⟩,⟨PyData.keyHash w.params "3",.str "3" dt_DIMS_1,.int 3 dv_DIMS_1⟩] dn_DIMS,#[]⟩) (ds_DIMS:(da_DIMS==sysModules)=false)
   (g_MOST_LEVEL:nsIn K mainGlobals "MOST_LEVEL"=some (some (.ref da_MOST_LEVEL))) (dl_MOST_LEVEL:K.lookup da_MOST_LEVEL=some ⟨.type "dict",none,.dict #[⟨2,.int 2 dt_MOST_LEVEL_0,.int 6 dv_MOST_LEVEL_0⟩,⟨3,.int 3 dt_MOST_LEVEL_1,.int 4 dv_MOST_LEVEL_1⟩] dn_MOST_LEVEL,#[]⟩)
   (g_LEAST_SIZE:nsIn K mainGlobals "LEAST_SIZE"=some (some (.int 4 t_LEAST_SIZE)))
   (g_MOST_SIZE:nsIn K mainGlobals "MOST_SIZE"=some (some (.int 12 t_MOST_SIZE)))
   (g_LEAST_MANY:nsIn K mainGlobals "LEAST_MANY"=some (some (.int 1 t_LEAST_MANY)))
   (g_MOST_MANY:nsIn K mainGlobals "MOST_MANY"=some (some (.int 999 t_MOST_MANY)))
   (g_MOST_DEEDS:nsIn K mainGlobals "MOST_DEEDS"=some (some (.int 400 t_MOST_DEEDS)))
   (g_FORMS:nsIn K mainGlobals "FORMS"=some (some (.ref da_FORMS))) (dl_FORMS:K.lookup da_FORMS=some ⟨.type "dict",none,.dict #[⟨PyData.keyHash w.params "put",.str "put" dt_FORMS_0,.ref ta_FORMS_0⟩,⟨PyData.keyHash w.params "move",.str "move" dt_FORMS_1,.ref ta_FORMS_1⟩,⟨PyData.keyHash w.params "take",.str "take" dt_FORMS_2,.ref ta_FORMS_2⟩,⟨PyData.keyHash w.params "names",.str "names" dt_FORMS_3,.ref ta_FORMS_3⟩,⟨PyData.keyHash w.params "where",.str "where" dt_FORMS_4,.ref ta_FORMS_4⟩,⟨PyData.keyHash w.params "inside",.str "inside" dt_FORMS_5,.ref ta_FORMS_5⟩,⟨PyData.keyHash w.params "meeting",.str "meeting" dt_FORMS_6,.ref ta_FORMS_6⟩,⟨PyData.keyHash w.params "near",.str "near" dt_FORMS_7,.ref ta_FORMS_7⟩,⟨PyData.keyHash w.params "sharing",.str "sharing" dt_FORMS_8,.ref ta_FORMS_8⟩,⟨PyData.keyHash w.params "number",.str "number" dt_FORMS_9,.ref ta_FORMS_9⟩,⟨PyData.keyHash w.params "place",.str "place" dt_FORMS_10,.ref ta_FORMS_10⟩,⟨PyData.keyHash w.params "spans",.str "spans" dt_FORMS_11,.ref ta_FORMS_11⟩,⟨PyData.keyHash w.params "cover",.str "cover" dt_FORMS_12,.ref ta_FORMS_12⟩] dn_FORMS,#[]⟩) (ds_FORMS:(da_FORMS==sysModules)=false)
   (tl_FORMS_0:K.lookup ta_FORMS_0=some ⟨.type "tuple",none,.seq #[.str "name" tt_FORMS_0_0,.str "place" tt_FORMS_0_1,.str "place" tt_FORMS_0_2] tn_FORMS_0,#[]⟩)
   (tl_FORMS_1:K.lookup ta_FORMS_1=some ⟨.type "tuple",none,.seq #[.str "name" tt_FORMS_1_0,.str "place" tt_FORMS_1_1,.str "place" tt_FORMS_1_2] tn_FORMS_1,#[]⟩)
   (tl_FORMS_2:K.lookup ta_FORMS_2=some ⟨.type "tuple",none,.seq #[.str "name" tt_FORMS_2_0] tn_FORMS_2,#[]⟩)
   (tl_FORMS_3:K.lookup ta_FORMS_3=some ⟨.type "tuple",none,.seq #[] tn_FORMS_3,#[]⟩)
   (tl_FORMS_4:K.lookup ta_FORMS_4=some ⟨.type "tuple",none,.seq #[.str "name" tt_FORMS_4_0] tn_FORMS_4,#[]⟩)
   (tl_FORMS_5:K.lookup ta_FORMS_5=some ⟨.type "tuple",none,.seq #[.str "place" tt_FORMS_5_0,.str "place" tt_FORMS_5_1] tn_FORMS_5,#[]⟩)
   (tl_FORMS_6:K.lookup ta_FORMS_6=some ⟨.type "tuple",none,.seq #[.str "place" tt_FORMS_6_0,.str "place" tt_FORMS_6_1] tn_FORMS_6,#[]⟩)
   (tl_FORMS_7:K.lookup ta_FORMS_7=some ⟨.type "tuple",none,.seq #[.str "place" tt_FORMS_7_0,.str "many" tt_FORMS_7_1] tn_FORMS_7,#[]⟩)
   (tl_FORMS_8:K.lookup ta_FORMS_8=some ⟨.type "tuple",none,.seq #[] tn_FORMS_8,#[]⟩)
   (tl_FORMS_9:K.lookup ta_FORMS_9=some ⟨.type "tuple",none,.seq #[.str "place" tt_FORMS_9_0] tn_FORMS_9,#[]⟩)
   (tl_FORMS_10:K.lookup ta_FORMS_10=some ⟨.type "tuple",none,.seq #[.str "number" tt_FORMS_10_0] tn_FORMS_10,#[]⟩)
   (tl_FORMS_11:K.lookup ta_FORMS_11=some ⟨.type "tuple",none,.seq #[.str "place" tt_FORMS_11_0,.str "place" tt_FORMS_11_1] tn_FORMS_11,#[]⟩)
   (tl_FORMS_12:K.lookup ta_FORMS_12=some ⟨.type "tuple",none,.seq #[.str "place" tt_FORMS_12_0,.str "place" tt_FORMS_12_1,.str "many" tt_FORMS_12_2] tn_FORMS_12,#[]⟩)
   (z_abs:nsIn K mainGlobals "abs"=some none)
   (z_all:nsIn K mainGlobals "all"=some none)
   (z_bool:nsIn K mainGlobals "bool"=some none)
   (z_enumerate:nsIn K mainGlobals "enumerate"=some none)
   (z_int:nsIn K mainGlobals "int"=some none)
   (z_isinstance:nsIn K mainGlobals "isinstance"=some none)
   (z_len:nsIn K mainGlobals "len"=some none)
   (z_list:nsIn K mainGlobals "list"=some none)
   (z_max:nsIn K mainGlobals "max"=some none)
   (z_min:nsIn K mainGlobals "min"=some none)
   (z_range:nsIn K mainGlobals "range"=some none)
   (z_reversed:nsIn K mainGlobals "reversed"=some none)
   (z_sorted:nsIn K mainGlobals "sorted"=some none)
   (z_str:nsIn K mainGlobals "str"=some none)
   (z_sum:nsIn K mainGlobals "sum"=some none)
   (z_tuple:nsIn K mainGlobals "tuple"=some none)
   (z_zip:nsIn K mainGlobals "zip"=some none) :
   ∃fd:FuncData,(∀(s:Shared) (v:Value),BindsTo s fd ⟨[v],[]⟩ [("_law_script",v)])/\∀base:Heap,K.In base->base.Ns mainGlobals mg->FnOk l.prog w K mg base CX0 10 fa fd ["_law_script"] (spF K 1 zUI):=by
 have F22:FunD K "number_of" "number_of" wK _ _:=⟨⟨_,_,_,_,_,_,_,_,_,_,rfl,l22,c22⟩,k22⟩
 have b22:Binds K (fnOf "number_of" "number_of" (uT wK) (wH wK) (zS wK) (.ref tD22) kV22 dc22 pm22 an22 cd22 ct22) ["text","most"] []:=fun s us hK hl=>by
   rw[Wx] at hl ⊢
   obtain⟨u0,u1,rfl⟩:∃u0 u1,us=[u0,u1]:=by
     have hl':us.length=2:=by simpa using hl
     match us,hl' with
     | [u0,u1],_=>exact⟨u0,u1,rfl⟩
   exact binds_K hK rfl dl22 dd22 rfl rfl
 have e22:Binds K (fnOf "number_of" "number_of" (uT wK) (wH wK) (zS wK) (.ref tD22) kV22 dc22 pm22 an22 cd22 ct22) ["text","most"] [.none]:=fun s us hK hl=>by
   obtain⟨u0,rfl⟩:∃u0,us=[u0]:=by
     have hl':us.length=1:=by simpa using hl
     match us,hl' with
     | [u0],_=>exact⟨u0,rfl⟩
   exact binds_K hK rfl dl22 dd22 rfl rfl
 have cFF0:=zXa (st:=cB) cl0 cc0 ck0
 have cb0:=cFF0.binds (ps:=["self","corner","turn","back"]) fun _ _ _ _ _ _ us hl=>match us,hl with | [_,_,_,_],_=>rfl
 have cFF1:=zXa (st:=jC) cl1 cc1 ck1
 have cb1:=cFF1.binds (ps:=["self","name","dims","joined","parts"]) fun _ _ _ _ _ _ us hl=>match us,hl with | [_,_,_,_,_],_=>rfl
 have cFF2:=zXa (st:=jH) cl2 cc2 ck2
 have cb2:=cFF2.binds (ps:=["self","curve","level","size","deeds"]) fun _ _ _ _ _ _ us hl=>match us,hl with | [_,_,_,_,_],_=>rfl
 exact zHI _ (bd1 fun _ _ _ _ _ _ _=>rfl) hfa fun base=>zHQ ({ q0:=wD X G g0 (bd2 fun _ _ _ _ _ _ _ _=>rfl),q1:=wD X G g1 (bd1 fun _ _ _ _ _ _ _=>rfl),q2:=wD X G g2 (bd2 fun _ _ _ _ _ _ _ _=>rfl),q3:=wD X G g3 (bd2 fun _ _ _ _ _ _ _ _=>rfl),q4:=wD X G g4 (bd4 fun _ _ _ _ _ _ _ _ _ _=>rfl),q5:=wD X G g5 (bd1 fun _ _ _ _ _ _ _=>rfl),q6:=wD X G g6 (bd1 fun _ _ _ _ _ _ _=>rfl),q7:=wD X G g7 (bd1 fun _ _ _ _ _ _ _=>rfl),q8:=wD X G g8 (bd1 fun _ _ _ _ _ _ _=>rfl),q9:=wD X G g9 (bd1 fun _ _ _ _ _ _ _=>rfl),q10:=wD X G g10 (bd1 fun _ _ _ _ _ _ _=>rfl),q11:=wD X G g11 (bd1 fun _ _ _ _ _ _ _=>rfl),q12:=wD X G g12 (bd1 fun _ _ _ _ _ _ _=>rfl),q13:=wD X G g13 (bd3 fun _ _ _ _ _ _ _ _ _=>rfl),q14:=wD X G g14 (bd1 fun _ _ _ _ _ _ _=>rfl),q15:=wD X G g15 (bd1 fun _ _ _ _ _ _ _=>rfl),q16:=wD X G g16 (bd2 fun _ _ _ _ _ _ _ _=>rfl),q17:=wD X G g17 (bd2 fun _ _ _ _ _ _ _ _=>rfl),q18:=wD X G g18 (bd2 fun _ _ _ _ _ _ _ _=>rfl),q19:=wD X G g19 (bd3 fun _ _ _ _ _ _ _ _ _=>rfl),q20:=wD X G g20 (bd2 fun _ _ _ _ _ _ _ _=>rfl),q21:=wD X G g21 (bd1 fun _ _ _ _ _ _ _=>rfl),f_number_of:=_,fd_number_of:=_,F_number_of:=F22,b_number_of:=b22,bd_number_of:=e22,m_number_of:=mg_of X G a22,q23:=wD X G g23 (bd3 fun _ _ _ _ _ _ _ _ _=>rfl),q24:=wD X G g24 (bd3 fun _ _ _ _ _ _ _ _ _=>rfl),q25:=wD X G g25 (bd1 fun _ _ _ _ _ _ _=>rfl),q26:=wD X G g26 (bd1 fun _ _ _ _ _ _ _=>rfl),q27:=wD X G g27 (bd3 fun _ _ _ _ _ _ _ _ _=>rfl),q28:=wD X G g28 (bd2 fun _ _ _ _ _ _ _ _=>rfl),q29:=wD X G g29 (bd2 fun _ _ _ _ _ _ _ _=>rfl),q30:=wD X G g30 (bd3 fun _ _ _ _ _ _ _ _ _=>rfl),q31:=wD X G g31 (bd2 fun _ _ _ _ _ _ _ _=>rfl),q32:=wD X G g32 (bd2 fun _ _ _ _ _ _ _ _=>rfl),q33:=wD X G g33 (bd2 fun _ _ _ _ _ _ _ _=>rfl),q34:=wD X G g34 (bd1 fun _ _ _ _ _ _ _=>rfl),q35:=wD X G g35 (bd1 fun _ _ _ _ _ _ _=>rfl),q36:=wD X G g36 (bd2 fun _ _ _ _ _ _ _ _=>rfl),q37:=wD X G g37 (bd3 fun _ _ _ _ _ _ _ _ _=>rfl),q38:=wD X G g38 (bd3 fun _ _ _ _ _ _ _ _ _=>rfl),q39:=wD X G g39 (bd1 fun _ _ _ _ _ _ _=>rfl),q40:=wD X G g40 (bd2 fun _ _ _ _ _ _ _ _=>rfl),q41:=wD X G g41 (bd8 fun _ _ _ _ _ _ _ _ _ _ _ _ _ _=>rfl),q42:=wD X G g42 (bd2 fun _ _ _ _ _ _ _ _=>rfl),q43:=wD X G g43 (bd1 fun _ _ _ _ _ _ _=>rfl),q44:=wD X G g44 (bd2 fun _ _ _ _ _ _ _ _=>rfl),q45:=wD X G g45 (bd1 fun _ _ _ _ _ _ _=>rfl),q46:=wD X G g46 (bd2 fun _ _ _ _ _ _ _ _=>rfl),q47:=wD X G g47 (bd2 fun _ _ _ _ _ _ _ _=>rfl),q48:=wD X G g48 (bd2 fun _ _ _ _ _ _ _ _=>rfl),q49:=wD X G g49 (bd1 fun _ _ _ _ _ _ _=>rfl),q50:=wD X G g50 (bd1 fun _ _ _ _ _ _ _=>rfl),q51:=wD X G g51 (bd1 fun _ _ _ _ _ _ _=>rfl),q52:=wD X G g52 (bd3 fun _ _ _ _ _ _ _ _ _=>rfl),q53:=wD X G g53 (bd4 fun _ _ _ _ _ _ _ _ _ _=>rfl),q54:=wD X G g54 (bd5 fun _ _ _ _ _ _ _ _ _ _ _=>rfl),q55:=wD X G g55 (bd1 fun _ _ _ _ _ _ _=>rfl),C_Part:=_,fi_Part:=_,fdi_Part:=_,ca_Part:=ca0,cl_Part:=⟨cpg0,chd0,cpo0,csa0⟩,mc_Part:=mg_of X G ca0,Fi_Part:=cFF0,bi_Part:=cb0,mk_Part:=⟨cmk0,ci0,cn0,ckc0⟩,n_Part_back:=cf0_back,n_Part_corner:=cf0_corner,n_Part_turn:=cf0_turn,C_Curve:=_,fi_Curve:=_,fdi_Curve:=_,ca_Curve:=ca1,cl_Curve:=⟨cpg1,chd1,cpo1,csa1⟩,mc_Curve:=mg_of X G ca1,Fi_Curve:=cFF1,bi_Curve:=cb1,mk_Curve:=⟨cmk1,ci1,cn1,ckc1⟩,n_Curve_dims:=cf1_dims,n_Curve_joined:=cf1_joined,n_Curve_name:=cf1_name,n_Curve_parts:=cf1_parts,C_Scene:=_,fi_Scene:=_,fdi_Scene:=_,ca_Scene:=ca2,cl_Scene:=⟨cpg2,chd2,cpo2,csa2⟩,mc_Scene:=mg_of X G ca2,Fi_Scene:=cFF2,bi_Scene:=cb2,mk_Scene:=⟨cmk2,ci2,cn2,ckc2⟩,n_Scene_curve:=cf2_curve,n_Scene_deeds:=cf2_deeds,n_Scene_level:=cf2_level,n_Scene_size:=cf2_size,t_BITS:=t_BITS,c_BITS:=mg_of X G g_BITS,t_FLIPS:=t_FLIPS,c_FLIPS:=mg_of X G g_FLIPS,t_AXES:=t_AXES,c_AXES:=mg_of X G g_AXES,t_FIGURES:=t_FIGURES,c_FIGURES:=mg_of X G g_FIGURES,t_LETTERS:=t_LETTERS,c_LETTERS:=mg_of X G g_LETTERS,t_LONGEST_NUMBER:=t_LONGEST_NUMBER,c_LONGEST_NUMBER:=mg_of X G g_LONGEST_NUMBER,t_LONGEST_WORD:=t_LONGEST_WORD,c_LONGEST_WORD:=mg_of X G g_LONGEST_WORD,da_PROMISES:=da_PROMISES,c_PROMISES:=mg_of X G g_PROMISES,dc_PROMISES:=zRB [("joined",dt_PROMISES_0,.bool true),("loose",dt_PROMISES_1,.bool false)] dl_PROMISES ds_PROMISES,da_DIMS:=da_DIMS,c_DIMS:=mg_of X G g_DIMS,dc_DIMS:=zRB [("2",dt_DIMS_0,.int 2 dv_DIMS_0),("3",dt_DIMS_1,.int 3 dv_DIMS_1)] dl_DIMS ds_DIMS,da_MOST_LEVEL:=da_MOST_LEVEL,c_MOST_LEVEL:=mg_of X G g_MOST_LEVEL,dc_MOST_LEVEL:=zKH [(2,dt_MOST_LEVEL_0,.int 6 dv_MOST_LEVEL_0),(3,dt_MOST_LEVEL_1,.int 4 dv_MOST_LEVEL_1)] dl_MOST_LEVEL,t_LEAST_SIZE:=t_LEAST_SIZE,c_LEAST_SIZE:=mg_of X G g_LEAST_SIZE,t_MOST_SIZE:=t_MOST_SIZE,c_MOST_SIZE:=mg_of X G g_MOST_SIZE,t_LEAST_MANY:=t_LEAST_MANY,c_LEAST_MANY:=mg_of X G g_LEAST_MANY,t_MOST_MANY:=t_MOST_MANY,c_MOST_MANY:=mg_of X G g_MOST_MANY,t_MOST_DEEDS:=t_MOST_DEEDS,c_MOST_DEEDS:=mg_of X G g_MOST_DEEDS,da_FORMS:=da_FORMS,c_FORMS:=mg_of X G g_FORMS,dc_FORMS:=zKO [("put",dt_FORMS_0,.ref ta_FORMS_0),("move",dt_FORMS_1,.ref ta_FORMS_1),("take",dt_FORMS_2,.ref ta_FORMS_2),("names",dt_FORMS_3,.ref ta_FORMS_3),("where",dt_FORMS_4,.ref ta_FORMS_4),("inside",dt_FORMS_5,.ref ta_FORMS_5),("meeting",dt_FORMS_6,.ref ta_FORMS_6),("near",dt_FORMS_7,.ref ta_FORMS_7),("sharing",dt_FORMS_8,.ref ta_FORMS_8),("number",dt_FORMS_9,.ref ta_FORMS_9),("place",dt_FORMS_10,.ref ta_FORMS_10),("spans",dt_FORMS_11,.ref ta_FORMS_11),("cover",dt_FORMS_12,.ref ta_FORMS_12)] dl_FORMS ds_FORMS (.cons ⟨rfl,uR [("name",tt_FORMS_0_0),("place",tt_FORMS_0_1),("place",tt_FORMS_0_2)] tl_FORMS_0⟩ (.cons ⟨rfl,uR [("name",tt_FORMS_1_0),("place",tt_FORMS_1_1),("place",tt_FORMS_1_2)] tl_FORMS_1⟩ (.cons ⟨rfl,uR [("name",tt_FORMS_2_0)] tl_FORMS_2⟩ (.cons ⟨rfl,uR [] tl_FORMS_3⟩ (.cons ⟨rfl,uR [("name",tt_FORMS_4_0)] tl_FORMS_4⟩ (.cons ⟨rfl,uR [("place",tt_FORMS_5_0),("place",tt_FORMS_5_1)] tl_FORMS_5⟩ (.cons ⟨rfl,uR [("place",tt_FORMS_6_0),("place",tt_FORMS_6_1)] tl_FORMS_6⟩ (.cons ⟨rfl,uR [("place",tt_FORMS_7_0),("many",tt_FORMS_7_1)] tl_FORMS_7⟩ (.cons ⟨rfl,uR [] tl_FORMS_8⟩ (.cons ⟨rfl,uR [("place",tt_FORMS_9_0)] tl_FORMS_9⟩ (.cons ⟨rfl,uR [("number",tt_FORMS_10_0)] tl_FORMS_10⟩ (.cons ⟨rfl,uR [("place",tt_FORMS_11_0),("place",tt_FORMS_11_1)] tl_FORMS_11⟩ (.cons ⟨rfl,uR [("place",tt_FORMS_12_0),("place",tt_FORMS_12_1),("many",tt_FORMS_12_2)] tl_FORMS_12⟩ (.nil)))))))))))))),z_abs:=mg_none_of X G z_abs,z_all:=mg_none_of X G z_all,z_bool:=mg_none_of X G z_bool,z_enumerate:=mg_none_of X G z_enumerate,z_int:=mg_none_of X G z_int,z_isinstance:=mg_none_of X G z_isinstance,z_len:=mg_none_of X G z_len,z_list:=mg_none_of X G z_list,z_max:=mg_none_of X G z_max,z_min:=mg_none_of X G z_min,z_range:=mg_none_of X G z_range,z_reversed:=mg_none_of X G z_reversed,z_sorted:=mg_none_of X G z_sorted,z_str:=mg_none_of X G z_str,z_sum:=mg_none_of X G z_sum,z_tuple:=mg_none_of X G z_tuple,z_zip:=mg_none_of X G z_zip }:Txt w K mg)
def zHr {K:Frag}{H:Hp}{a:Addr}{ns:List Int}(hS:SqL K H a (ns.map V.int))(h:zUI [.lst (ns.map .int)]=some (.bl true)):spF K 1 zUI [.ref a] H (fun v _=>v = .bl true) fun _ _ _=>False:=by
 have rs:∀ns:List Int,Reps K H (ns.map .int) (ns.map V.int):=fun ns=>by
   induction ns with
   | nil=>exact yR.mpr rfl
   | cons n r ih=>exact zB.mpr ⟨_,_,rfl,zD.mpr rfl,ih⟩
 exact⟨H,[.lst (ns.map .int)],.bl true,Same.refl _,zB.mpr ⟨_,_,rfl,xB.mpr ⟨a,_,rfl,hS,rs ns⟩,yR.mpr rfl⟩,rfl,h,fun v H' G' _ r=>vU.mp r⟩
end My
end
namespace My
open PySem L2
def zIN:tD 0 2=[.int 0,.int 1]:=rfl
def zG9:tD 0 3=[.int 0,.int 1,.int 2]:=rfl
def bit (x:Int):x % 2=0∨x % 2=1:=jc
def zOy (a b c:Int):Prop:=(a=0/\b=1/\c=2)∨(a=0/\b=2/\c=1)∨(a=1/\b=0/\c=2)∨(a=1/\b=2/\c=0)∨(a=2/\b=0/\c=1)∨(a=2/\b=1/\c=0)
abbrev Tn:=List (Int×Int)
def iM (p:Int×Int):D:=.tup [.int p.1,.int p.2]
def yU (t:Tn):D:=.tup (t.map iM)
def yX (c:List Int):D:=.tup (c.map .int)
def zP (t:Tn)(c:List Int):List Int:=t.map fun p=>Builtin.bitXor (c.getD p.1.toNat 0) p.2
def yC (t u:Tn):Tn:=t.map fun p=>((u.getD p.1.toNat (0,0)).1,Builtin.bitXor (u.getD p.1.toNat (0,0)).2 p.2)
def aG {elt:Ef}{h:Int×Int->D}{rest:List B}:∀(t:Tn) (x0 x1:B) (j7:List D),(∀p∈t,elt (.fz (.int p.1) :: .fz (.int p.2)::rest)=some (h p)) ->
   vL (gT (zM (gN 0) (zM (gN 1) xI))) tOK elt (t.map iM) (x0::x1::rest) j7=some (j7++t.map h)
 | [],_,_,j7,_=>by simp[vL]
 | p::r,x0,x1,j7,hh=>by
   rw[Qu]
   unfold vL
   have e1:gT (zM (gN 0) (zM (gN 1) xI)) (iM p) (x0::x1::rest)=some (.fz (.int p.1) :: .fz (.int p.2)::rest):=rfl
   rw[e1,Qq]
   have e2:tOK (.fz (.int p.1) :: .fz (.int p.2)::rest)=some true:=rfl
   rw[e2,Qq,Qv rfl,hh p Qf,Qq,aG r _ _ _ fun q hq=>hh q (Qa _ hq)]
   simp
def cM {α:Type}(xs:List α)(i:Int)(d:α)(h0:0<=i)(h1:i < xs.length):atI xs i=some (xs.getD i.toNat d):=by
 unfold atI ixN
 rw[Qv h0,Qv h1]
 have:i.toNat < xs.length:=jc
 simp[List.getD,this]
def zIq (t:Tn)(n:Nat):Prop:=∀p∈t,0<=p.1/\p.1 < n
def zPl {t:List D}(h:t.length<=1000):okL t=some t:=by
 unfold okL
 rw[Qv (Ep h jb)]
def bY {α β:Type}(f:α->β)(xs:List α)(i:Int):atI (xs.map f) i=(atI xs i).map f:=by
 unfold atI
 rw[Qt]
 cases ixN xs.length i with
 | none=>rfl
 | some j=>simp
def zVw (t:Tn)(c:List Int)(h:zIq t c.length)(hl:t.length<=1000):lT [yU t,yX c]=some (yX (zP t c)):=by
 have e1:lM 2 [yU t,yX c]=[.fz (yU t),.fz (yX c)]:=rfl
 have e2:=aG (elt:=zTl (eIx (eV 2) (eV 0)) (eV 1)) (h:=fun p=>.int (Builtin.bitXor (c.getD p.1.toNat 0) p.2)) (rest:=[.fz (yX c)]) t .no .no [] fun p hp=>by
   obtain⟨h0,h1⟩:=h p hp
   simp[eI,eIx,eV,rG,yX,atD,bY,cM c p.1 0 h0 h1]
 have e3:okL (t.map iM)=some (t.map iM):=zPl (by rw[Qt];exact hl)
 have e4:upB 2 [1] [.fz (yU t),.fz (yX c)]=[.no,.no,.fz (yX c)]:=rfl
 unfold lT fnF
 rw[e1]
 have e5:yN (iT (eV 0)) 2 [1] (gT (zM (gN 0) (zM (gN 1) xI))) tOK (zTl (eIx (eV 2) (eV 0)) (eV 1)) [.fz (yU t),.fz (yX c)]=some (t.map fun p=>D.int (Builtin.bitXor (c.getD p.1.toNat 0) p.2)):=by
   unfold yN
   have e6:iT (eV 0) [.fz (yU t),.fz (yX c)]=some (t.map iM):=rfl
   rw[e6,Qq,e3,Qq,e4,e2]
   simp
 simp only[zSq,zX5,yM,wC,eL,e5,Wq,Qq,zQC,xR]
 simp only[yX,zP,Rq,Ij]
def zRW (t u:Tn)(h:zIq t u.length)(hl:t.length<=1000):gG [yU t,yU u]=some (yU (yC t u)):=by
 have e1:lM 2 [yU t,yU u]=[.fz (yU t),.fz (yU u)]:=rfl
 have e2:=aG (elt:=yT (zY (eIx (eIx (eV 2) (eV 0)) jl) (zY (zTl (eIx (eIx (eV 2) (eV 0)) jm) (eV 1)) zR))) (h:=fun p=>iM ((u.getD p.1.toNat (0,0)).1,Builtin.bitXor (u.getD p.1.toNat (0,0)).2 p.2)) (rest:=[.fz (yU u)]) t .no .no [] fun p hp=>by
   obtain⟨h0,h1⟩:=h p hp
   have a0:∀x y:D,atI [x,y] 0=some x:=fun _ _=>rfl
   have a1:∀x y:D,atI [x,y] 1=some y:=fun _ _=>rfl
   simp[eI,eIx,eV,eC,rG,yU,atD,bY,cM u p.1 (0,0) h0 h1,iM,yT,zY,zR,okL,lim,a0,a1]
 have e3:okL (t.map iM)=some (t.map iM):=zPl (by rw[Qt];exact hl)
 have e4:upB 2 [1] [.fz (yU t),.fz (yU u)]=[.no,.no,.fz (yU u)]:=rfl
 unfold gG fnF
 rw[e1]
 have e5:yN (iT (eV 0)) 2 [1] (gT (zM (gN 0) (zM (gN 1) xI))) tOK (yT (zY (eIx (eIx (eV 2) (eV 0)) jl) (zY (zTl (eIx (eIx (eV 2) (eV 0)) jm) (eV 1)) zR))) [.fz (yU t),.fz (yU u)]=some (t.map fun p=>iM ((u.getD p.1.toNat (0,0)).1,Builtin.bitXor (u.getD p.1.toNat (0,0)).2 p.2)):=by
   unfold yN
   have e6:iT (eV 0) [.fz (yU t),.fz (yU u)]=some (t.map iM):=rfl
   rw[e6,Qq,e3,Qq,e4,e2]
   simp
 simp only[zOL,zU5,yM,wC,eL,e5,Wq,Qq,zQC,xR]
 simp only[yU,yC,Rq,Ij]
def rA:List Int:=[0,1]
def tJ:List Tn:=[((0:Int),(1:Int)),(1,0)].flatMap fun o=>rA.flatMap fun f=>rA.map fun g=>[(o.1,f),(o.2,g)]
def tG:List Tn:=[((0:Int),(1:Int),(2:Int)),(0,2,1),(1,0,2),(1,2,0),(2,0,1),(2,1,0)].flatMap fun o=>rA.flatMap fun f=>rA.flatMap fun g=>rA.map fun h=>[(o.1,f),(o.2.1,g),(o.2.2,h)]
def zIf {a b f g:Int}(h1:a=0/\b=1∨a=1/\b=0)(h2:f=0∨f=1)(h3:g=0∨g=1):[(a,f),(b,g)]∈tJ:=by
 rcases h1 with⟨rfl,rfl⟩ | ⟨rfl,rfl⟩<;>rcases h2 with rfl | rfl<;>rcases h3 with rfl | rfl<;>decide
def zGr {a b c f g h:Int}(h1:zOy a b c)(h2:f=0∨f=1)(h3:g=0∨g=1)(h4:h=0∨h=1):[(a,f),(b,g),(c,h)]∈tG:=by
 rcases h1 with⟨rfl,rfl,rfl⟩ | ⟨rfl,rfl,rfl⟩ | ⟨rfl,rfl,rfl⟩ | ⟨rfl,rfl,rfl⟩ | ⟨rfl,rfl,rfl⟩ | ⟨rfl,rfl,rfl⟩<;>rcases h2 with rfl | rfl<;>rcases h3 with rfl | rfl<;>rcases h4 with rfl | rfl<;>decide
def zP0 {t:Tn}(h:t∈tJ):∃a b f g,(a=0/\b=1∨a=1/\b=0)/\(f=0∨f=1)/\(g=0∨g=1)/\t=[(a,f),(b,g)]:=by
 simp only[tJ,rA,Tg,Wj,Qh,Wf,Ra] at h
 obtain⟨o,ho,f,hf,g,hg,rfl⟩:=h
 refine⟨o.1,o.2,f,g,?_,hf,hg,rfl⟩
 rcases ho with rfl | rfl
 · exact .inl ⟨rfl,rfl⟩
 · exact .inr ⟨rfl,rfl⟩
def zPy {t:Tn}(h:t∈tG):∃a b c f g j,zOy a b c/\(f=0∨f=1)/\(g=0∨g=1)/\(j=0∨j=1)/\t=[(a,f),(b,g),(c,j)]:=by
 simp only[tG,rA,Tg,Wj,Qh,Wf,Ra] at h
 obtain⟨o,ho,f,hf,g,hg,j,hj,rfl⟩:=h
 refine⟨o.1,o.2.1,o.2.2,f,g,j,?_,hf,hg,hj,rfl⟩
 unfold zOy
 rcases ho with rfl | rfl | rfl | rfl | rfl | rfl<;>simp
structure Tr (n:Nat)(t:Tn):Prop where
 len:t.length=n
 fits:zIq t n
 flip:∀p∈t,p.2=0∨p.2=1
def tr2 {t:Tn}(h:t∈tJ):Tr 2 t:=by
 obtain⟨a,b,f,g,h1,h2,h3,rfl⟩:=zP0 h
 refine⟨rfl,fun p hp=>?_,fun p hp=>?_⟩
 · simp only[Qh,Wf,Ra] at hp
   rcases h1 with⟨rfl,rfl⟩ | ⟨rfl,rfl⟩<;>rcases hp with rfl | rfl<;>exact⟨jd,jd⟩
 · simp only[Qh,Wf,Ra] at hp
   rcases hp with rfl | rfl
   · exact h2
   · exact h3
def tr3 {t:Tn}(h:t∈tG):Tr 3 t:=by
 obtain⟨a,b,c,f,g,j,h1,h2,h3,h4,rfl⟩:=zPy h
 refine⟨rfl,fun p hp=>?_,fun p hp=>?_⟩
 · simp only[Qh,Wf,Ra] at hp
   unfold zOy at h1
   rcases h1 with⟨rfl,rfl,rfl⟩ | ⟨rfl,rfl,rfl⟩ | ⟨rfl,rfl,rfl⟩ | ⟨rfl,rfl,rfl⟩ | ⟨rfl,rfl,rfl⟩ | ⟨rfl,rfl,rfl⟩<;>rcases hp with rfl | rfl | rfl<;>exact⟨jd,jd⟩
 · simp only[Qh,Wf,Ra] at hp
   rcases hp with rfl | rfl | rfl
   · exact h2
   · exact h3
   · exact h4
def zO0 {x y z:Int}(hx:x=0∨x=1)(hy:y=0∨y=1)(hz:z=0∨z=1):Builtin.bitXor x (Builtin.bitXor y z)=Builtin.bitXor (Builtin.bitXor x y) z:=by
 rcases hx with rfl | rfl<;>rcases hy with rfl | rfl<;>rcases hz with rfl | rfl<;>rfl
def zOR {α:Type}(l:List α)(i:Int)(d:α)(h0:0<=i)(h1:i < l.length):l.getD i.toNat d∈l:=by
 have:i.toNat < l.length:=jc
 rw[Wu,Qi this]
 exact Rj this
def zMo {α β:Type}(f:α->β)(l:List α)(i:Int)(d:α)(e:β)(h0:0<=i)(h1:i < l.length):(l.map f).getD i.toNat e=f (l.getD i.toNat d):=by
 have:i.toNat < l.length:=jc
 rw[Wu,Wu,Wa,Qi this]
 rfl
def zZ5 {n:Nat}{t u:Tn}{c:List Int}(ht:Tr n t)(hu:Tr n u)(hc:c.length=n)(bc:∀x∈c,x=0∨x=1):zP (yC t u) c=zP t (zP u c):=by
 unfold zP yC
 rw[Rq]
 refine Tq fun p hp=>?_
 obtain⟨h0,h1⟩:=ht.fits p hp
 have hul:p.1 < u.length:=by rw[hu.len];exact h1
 have hq:=zOR u p.1 (0,0) h0 hul
 obtain⟨q0,q1⟩:=hu.fits _ hq
 show Builtin.bitXor (c.getD (u.getD p.1.toNat (0,0)).1.toNat 0) (Builtin.bitXor (u.getD p.1.toNat (0,0)).2 p.2)=Builtin.bitXor ((u.map fun p=>Builtin.bitXor (c.getD p.1.toNat 0) p.2).getD p.1.toNat 0) p.2
 rw[zMo _ u p.1 (0,0) 0 h0 hul]
 exact zO0 (bc _ (zOR c _ 0 q0 (by rw[hc];exact q1))) (hu.flip _ hq) (ht.flip p hp)
def zKE (t:Tn):Bool:=match t with | [(a,f),(b,g)]=>(decide (a=0)&&decide (b=1)||decide (a=1)&&decide (b=0))&&(decide (f=0)||decide (f=1))&&(decide (g=0)||decide (g=1)) | _=>false
def zGw (a b c:Int):Bool:=(decide (a=0)&&decide (b=1)&&decide (c=2))||(decide (a=0)&&decide (b=2)&&decide (c=1))||(decide (a=1)&&decide (b=0)&&decide (c=2))||(decide (a=1)&&decide (b=2)&&decide (c=0))||(decide (a=2)&&decide (b=0)&&decide (c=1))||(decide (a=2)&&decide (b=1)&&decide (c=0))
def zL1 (t:Tn):Bool:=match t with | [(a,f),(b,g),(c,h)]=>zGw a b c&&(decide (f=0)||decide (f=1))&&(decide (g=0)||decide (g=1))&&(decide (h=0)||decide (h=1)) | _=>false
def zRR {t:Tn}(h:zKE t=true):t∈tJ:=by
 unfold zKE at h
 split at h
 · simp only[Qc,Tl,Wb] at h
   exact zIf h.1.1 h.1.2 h.2
 · cases h
def zSk {t:Tn}(h:zL1 t=true):t∈tG:=by
 unfold zL1 zGw at h
 split at h
 · simp only[Qc,Tl,Wb] at h
   obtain⟨⟨⟨h1,h2⟩,h3⟩,h4⟩:=h
   refine zGr ?_ h2 h3 h4
   unfold zOy
   rcases h1 with((((h1 | h1) | h1) | h1) | h1) | h1
   · exact .inl ⟨h1.1.1,h1.1.2,h1.2⟩
   · exact .inr (.inl ⟨h1.1.1,h1.1.2,h1.2⟩)
   · exact .inr (.inr (.inl ⟨h1.1.1,h1.1.2,h1.2⟩))
   · exact .inr (.inr (.inr (.inl ⟨h1.1.1,h1.1.2,h1.2⟩)))
   · exact .inr (.inr (.inr (.inr (.inl ⟨h1.1.1,h1.1.2,h1.2⟩))))
   · exact .inr (.inr (.inr (.inr (.inr ⟨h1.1.1,h1.1.2,h1.2⟩))))
 · cases h
def zQX {t u:Tn}(ht:t∈tJ)(hu:u∈tJ):yC t u∈tJ:=by
 have key:(tJ.all fun t=>tJ.all fun u=>zKE (yC t u))=true:=ja
 exact zRR (Qn.mp (Qn.mp key t ht) u hu)
def zQ3 {t u:Tn}(ht:t∈tG)(hu:u∈tG):yC t u∈tG:=by
 have key:(tG.all fun t=>tG.all fun u=>zL1 (yC t u))=true:=ja
 exact zSk (Qn.mp (Qn.mp key t ht) u hu)
def zJs (k n:Nat):List Int:=(List.range n).map fun i=>(((k >>> i) % 2:Nat):Int)
def zG (n:Nat):List (List Int):=(List.range (2^n)).map fun k=>zJs k n
def qP (n:Nat):Tn:=(List.range n).map fun(i:Nat)=>((i:Int),(0:Int))
def vI (t:Tn):Tn:=(List.range t.length).map fun(i:Nat)=>match t.zipIdx.find? fun q=>q.1.1==(i:Int) with | some q=>((q.2:Int),q.1.2) | none=>(0,0)
def jJ (n:Nat)(ok:Tn->Bool)(t:Tn):Bool:=ok (vI t)&&decide (yC (vI t) t=qP n)&&decide (yC t (vI t)=qP n)&&(zG n).all fun c=>decide (zP (vI t) (zP t c)=c)
def zQx {t:Tn}(ht:t∈tJ):jJ 2 zKE t=true:=Qn.mp (show(tJ.all (jJ 2 zKE))=true by decide +kernel) t ht
def zQK {t:Tn}(ht:t∈tG):jJ 3 zL1 t=true:=Qn.mp (show(tG.all (jJ 3 zL1))=true by decide +kernel) t ht
def zC (n:Nat):List Tn:=if n=2 then tJ else tG
section
variable {n:Nat} (hn:n=2∨n=3)
include hn
theorem trM {t:Tn}(h:t∈zC n):Tr n t:=by
 rcases hn with rfl | rfl
 · exact tr2 h
 · exact tr3 h
theorem oF {t u:Tn}(h:t∈zC n)(h':u∈zC n):yC t u∈zC n:=by
 rcases hn with rfl | rfl
 · exact zQX h h'
 · exact zQ3 h h'
theorem cV {t:Tn}(h:t∈zC n):vI t∈zC n/\∀c∈zG n,zP (vI t) (zP t c)=c:=by
 rcases hn with rfl | rfl
 · have q:=zQx h
   unfold jJ at q
   simp only[Qc,Wb,Qn] at q
   exact⟨zRR q.1.1.1,q.2⟩
 · have q:=zQK h
   unfold jJ at q
   simp only[Qc,Wb,Qn] at q
   exact⟨zSk q.1.1.1,q.2⟩
end
def zXb (c f:Int):Int:=((c*f+12345) % 2147483647)*((c*f+12345) % 2147483647) % 2147483629 / 3
def aS (c f:Int)(h1 : -18446744073709551616 < f)(h2:f < 18446744073709551616):vY [.int c,.int f]=some (.int (zXb c f)):=by
 have e1:zYK c f=true:=zKU h1 h2
 have e2:zYK ((c*f+12345) % 2147483647) ((c*f+12345) % 2147483647)=true:=rE jc jc
 have d1:decide ((0:Int) < 2147483647)=true:=rfl
 have d2:decide ((0:Int) < 2147483629)=true:=rfl
 have d3:(decide ((0:Int) < 3)&&decide ((3:Int) < 1073741824))=true:=rfl
 simp only[vY,fnF,zVs,cZ,zYp,lM,zQ,yK,yM,eI,eV,eC,rG,List.map,Qo,Eh,List.replicate,Re,Ws,Qm,Qx,Qq,Wq,e1,e2,d1,d2,d3,Rt,xR,List.set,zTj]
 rfl
mutual
def okS:Nat->D->Bool
 | 0,_=>false
 | _+1,.obj _ _ _=>false
 | _+1,.exc _ _ _=>false
 | n+1,.tup ds=>decide (ds.length<=1000)&&bW n ds
 | n+1,.lst ds=>decide (ds.length<=1000)&&bW n ds
 | _+1,_=>true
def bW:Nat->List D->Bool
 | _,[]=>true
 | n,d::r=>okS n d&&bW n r
end
def zX2 {n:Nat}:∀ {ds:List D} {i:Nat} {d:D},bW n ds=true->ds[i]?=some d->okS n d=true
 | [],_,_,_,h=>by simp at h
 | x::r,0,_,h,e=>by
   unfold bW at h
   rw[Qc] at h
   cases e
   exact h.1
 | x::r,i+1,_,h,e=>by
   unfold bW at h
   rw[Qc] at h
   exact zX2 h.2 (by simpa using e)
def iV {α:Type}{n:Nat}{f:α->D}:∀ {l:List α},(∀x∈l,okS n (f x)=true)->bW n (l.map f)=true
 | [],_=>rfl
 | x::r,h=>by
   rw[Qu]
   unfold bW
   rw[h x Qf,iV fun y hy=>h y (Qa _ hy)]
   rfl
def zPw {n:Nat}{ds:List D}(hl:ds.length<=1000)(h:bW n ds=true):okS (n+1) (.tup ds)=true:=by
 unfold okS
 rw[Qp hl,h]
 rfl
def bX {n:Nat}{d:D}{r:List D}(h1:okS n d=true)(h2:bW n r=true):bW n (d::r)=true:=by
 unfold bW
 rw[h1,h2]
 rfl
def zIM {n:Nat}{c:List Int}(h:c.length<=1000):okS (n+2) (yX c)=true:=by
 unfold yX okS
 rw[Qt,Qp h,iV fun x _=>rfl]
 rfl
def zGl {n:Nat}{t:Tn}(h:t.length<=1000):okS (n+3) (yU t)=true:=by
 unfold yU okS
 rw[Qt,Qp h,iV fun x _=>rfl]
 rfl
structure Pt where
 c:List Int
 t:Tn
 b:Bool
def xO (p:Pt):D:=.tup [yX p.c,yU p.t,.bl p.b]
def yF (p:Pt):D:=.obj (Str.ofString "Part") [Str.ofString "corner",Str.ofString "turn",Str.ofString "back"] [yX p.c,yU p.t,.bl p.b]
def zA (wN:Str)(n:Int)(j:Bool)(ps:List Pt):D:=.obj (Str.ofString "Curve") [Str.ofString "name",Str.ofString "dims",Str.ofString "joined",Str.ofString "parts"] [.str wN,.int n,.bl j,.lst (ps.map yF)]
def zXw (ρ:List B)(f:Ef)(p:Pt)(h:f ρ=some (yF p)):yB (Str.ofString "Part") (Str.ofString "corner") f ρ=some (yX p.c):=by
 unfold yB;rw[h];rfl
def zMH (ρ:List B)(f:Ef)(p:Pt)(h:f ρ=some (yF p)):yB (Str.ofString "Part") (Str.ofString "turn") f ρ=some (yU p.t):=by
 unfold yB;rw[h];rfl
def zKJ (ρ:List B)(f:Ef)(p:Pt)(h:f ρ=some (yF p)):yB (Str.ofString "Part") (Str.ofString "back") f ρ=some (.bl p.b):=by
 unfold yB;rw[h];rfl
def cF (ρ:List B)(f:Ef){n:Int}{j:Bool}{ps:List Pt}(h:f ρ=some (zA wN n j ps)):yB (Str.ofString "Curve") (Str.ofString "parts") f ρ=some (.lst (ps.map yF)):=by
 unfold yB;rw[h];rfl
structure PtsOk (n:Nat)(ps:List Pt):Prop where
 perm:(ps.map (·.c)).Perm (zG n)
 turn:∀p∈ps,p.t∈zC n
def zWE {n:Nat}(hn:n=2∨n=3):(zG n).Nodup:=by
 rcases hn with rfl | rfl<;>decide +kernel
def uD {n:Nat}(hn:n=2∨n=3):∀c∈zG n,c.length=n:=by
 rcases hn with rfl | rfl<;>decide +kernel
def bD (n:Nat):(zG n).length=2^n:=by simp[zG]
def PtsOk.len {n:Nat}{ps:List Pt}(h:PtsOk n ps):ps.length=2^n:=by
 have:=h.perm.length_eq
 rw[Qt,bD] at this
 exact this
def PtsOk.small {n:Nat}{ps:List Pt}(hn:n=2∨n=3)(h:PtsOk n ps):ps.length<=8:=by
 rw[h.len]
 rcases hn with rfl | rfl<;>decide
def zP1 (q:Int){n:Nat}(hn:n=2∨n=3):∃t∈zC n,vK [.int q,.int n]=some (yU t):=by
 have q1:q / 1=q:=Int.ediv_one q
 rcases hn with rfl | rfl
 · rcases bit (q / 8) with h | h
   · refine⟨[(0,q / 1 % 2),(1,q / 2 % 2)],zIf (.inl ⟨rfl,rfl⟩) (bit _) (bit _),?_⟩
     simp[vK,fnF,gE,qH,qW,qX,lM,zQ,yK,sIf,yM,xQ,eI,eV,eC,rG,xR,zTj,eL,yD,zR,zY,okL,lim,eB2,gEq,h,yN,iR,zIN,upB,vL,gN,tOK,yT,eIx,atD,atI,ixN,wC,zQC,yU,iM]
   · refine⟨[(1,q / 1 % 2),(0,q / 2 % 2)],zIf (.inr ⟨rfl,rfl⟩) (bit _) (bit _),?_⟩
     simp[vK,fnF,gE,qH,qW,qX,lM,zQ,yK,sIf,yM,xQ,eI,eV,eC,rG,xR,zTj,eL,yD,zR,zY,okL,lim,eB2,gEq,h,yN,iR,zIN,upB,vL,gN,tOK,yT,eIx,atD,atI,ixN,wC,zQC,yU,iM]
 · have h6:q / 8 % 6=0∨q / 8 % 6=1∨q / 8 % 6=2∨q / 8 % 6=3∨q / 8 % 6=4∨q / 8 % 6=5:=by omega
   have key:∀a b c:Int,zOy a b c->atD (.lst [.lst [.int 0,.int 1,.int 2],.lst [.int 0,.int 2,.int 1],.lst [.int 1,.int 0,.int 2],.lst [.int 1,.int 2,.int 0],.lst [.int 2,.int 0,.int 1],.lst [.int 2,.int 1,.int 0]]) (.int (q / 8 % 6))=some (.lst [.int a,.int b,.int c])->∃t∈zC 3,vK [.int q,.int 3]=some (yU t):=fun a b c ho ha=>by
     refine⟨[(a,q / 1 % 2),(b,q / 2 % 2),(c,q / 4 % 2)],zGr ho (bit _) (bit _) (bit _),?_⟩
     have r:vK [.int q,.int 3]=(qX [.fz (.int q),.fz (.int 3),.fz (.lst [.int a,.int b,.int c])]).bind xR:=by
       have d6:decide ((0:Int) < 6)=true:=rfl
       have o3:∀x y z:D,okL [x,y,z]=some [x,y,z]:=fun _ _ _=>rfl
       have o2:∀x y:D,okL [x,y]=some [x,y]:=fun _ _=>rfl
       have o6:∀x y z u v w:D,okL [x,y,z,u,v,w]=some [x,y,z,u,v,w]:=fun _ _ _ _ _ _=>rfl
       have g3:gEq (.int 3) (.int 3)=some true:=rfl
       have c8:zTj q 8=true:=rfl
       simp only[vK,fnF,gE,qH,qW,lM,zQ,yK,sIf,eI,eV,eC,rG,eL,yD,zR,zY,eB2,eIx,Qu,Wz,Qo,Eh,List.replicate,Re,Ws,Qm,Qx,Qq,Wq,o2,o3,o6,g3,c8,d6,Rt,ha,List.set]
     rw[r]
     simp[qX,yM,eI,eV,eC,rG,xR,zTj,eL,yD,zR,zY,okL,lim,yN,iR,zG9,upB,vL,gN,tOK,yT,eIx,atD,atI,ixN,wC,zQC,yU,iM]
   rcases h6 with h | h | h | h | h | h
   · exact key 0 1 2 (.inl ⟨rfl,rfl,rfl⟩) (by rw[h];rfl)
   · exact key 0 2 1 (.inr (.inl ⟨rfl,rfl,rfl⟩)) (by rw[h];rfl)
   · exact key 1 0 2 (.inr (.inr (.inl ⟨rfl,rfl,rfl⟩))) (by rw[h];rfl)
   · exact key 1 2 0 (.inr (.inr (.inr (.inl ⟨rfl,rfl,rfl⟩)))) (by rw[h];rfl)
   · exact key 2 0 1 (.inr (.inr (.inr (.inr (.inl ⟨rfl,rfl,rfl⟩))))) (by rw[h];rfl)
   · exact key 2 1 0 (.inr (.inr (.inr (.inr (.inr ⟨rfl,rfl,rfl⟩))))) (by rw[h];rfl)
def zYJ:Sf:=zQ (yK 4 (zN 2 vY (zY (eV 1) (zY (uU (eC (.int 48271)) (rY (eC (.int 997)) (dR 2))) zR))))
   (zQ (zNg 5 2 (xG (eV 4) (dR 2)))
   (jN 3 (yT (zY (eV 5) (zY (zN 2 vK (zY (wJ (eV 4) ju) (zY (eV 0) zR))) (zY (uZ (eB2 gEq (xG (wJ (eV 4) (eC (.int 800))) jn) jm)) zR))))))
def bO {α:Type}:∀(l:List α) (i:Nat) (x:α),l[i]?=some x->(x::l.eraseIdx i).Perm l
 | [],_,_,h=>by simp at h
 | a::r,0,x,h=>by cases h;exact .refl _
 | a::r,i+1,x,h=>by
   rw[Qx] at h
   rw[Uq]
   exact(List.Perm.swap a x _).trans (List.Perm.cons a (bO r i x h))
def zZD {α β:Type}(f:α->β):∀(l:List α) (i:Nat),(l.map f).eraseIdx i=(l.eraseIdx i).map f
 | [],_=>rfl
 | a::r,0=>rfl
 | a::r,i+1=>by rw[Qu,Uq,Uq,Qu,zZD f r i]
def zQL {n:Nat}(hn:n=2∨n=3)(cell:Int)(left:List (List Int))(j7:List Pt)(x4 x5:B)(h0:left≠[])(hl:left.length<=8)(ha:j7.length<=8)(ht:∀p∈j7,p.t∈zC n) :
   ∃(left':List (List Int)) (acc':List Pt) (y4 y5:B),left'.length+1=left.length/\acc'.length=j7.length+1/\(acc'.map (·.c)++left').Perm (j7.map (·.c)++left)/\(∀p∈acc',p.t∈zC n) /\
     zYJ [.fz (.int n),.fz (.int cell),.ow (left.map yX),.ow (j7.map xO),x4,x5]=some (.nx [.fz (.int n),.fz (.int cell),.ow (left'.map yX),.ow (acc'.map xO),y4,y5]):=by
 have hpos:0 < left.length:=List.length_pos_iff.mpr h0
 have m1:zYK 997 (left.length:Int)=true:=rE jb jb
 have hm:=aS cell (48271+997*(left.length:Int)) jc jc
 generalize zXb cell (48271+997*(left.length:Int))=r at hm
 have i0:0<=r % (left.length:Int):=Rn _ jc
 have i1:r % (left.length:Int) < left.length:=Rl _ jc
 generalize hi:r % (left.length:Int)=iv at i0 i1
 have hlt:iv.toNat < left.length:=jc
 obtain⟨t,tm,te⟩:=zP1 (r / 8) hn
 have px:=Qi hlt
 have pm:=bO left iv.toNat _ px
 generalize left[iv.toNat]=c at px pm
 refine⟨left.eraseIdx iv.toNat,j7++[⟨c,t,decide (r / 800 % 2=1)⟩],.fz (.int r),.fz (yX c),?_,?_,?_,?_,?_⟩
 · rw[List.length_eraseIdx_of_lt hlt];omega
 · simp
 · rw[Wt,Ex]
   exact List.Perm.append_left _ pm
 · intro p hp
   rcases Eu.mp hp with q | q
   · exact ht p q
   · rw[Wm.mp q];exact tm
 · have d1:decide ((0:Int) < (left.length:Nat))=true:=Qp jc
   have d2:decide ((0:Int) < 2)=true:=rfl
   have c8:zTj r 8=true:=rfl
   have c800:zTj r 800=true:=rfl
   have ix:ixN left.length iv=some iv.toNat:=by unfold ixN;rw[Qv i0,Qv i1]
   have lz:left.length<=lim:=by show left.length<=100000;omega
   have az:j7.length < lim:=by show j7.length < 100000;omega
   have gx:(left.map yX)[iv.toNat]?=some (yX c):=by rw[Wa,px];rfl
   have o3:okL [yX c,yU t,.bl (decide (r / 800 % 2=1))]=some [yX c,yU t,.bl (decide (r / 800 % 2=1))]:=rfl
   simp only[zYJ,zQ,yK,zNg,jN,zN,zY,zR,eI,eV,eC,rG,dR,yT,uZ,eB2,gEq,Qm,Qx,Qt,Qo,Eh,Qq,Wq,m1,hm,d1,d2,hi,ix,Qv lz,Qv az,gx,c8,c800,te,o3,Rt,List.set,zZD,Wt,Qu,Wz,xO]
def zXC {n:Nat}(hn:n=2∨n=3)(cell:Int):∀(m fuel:Nat) (left:List (List Int)) (j7:List Pt) (x4 x5:B),left.length=m->m < fuel->left.length+j7.length<=8->(∀p∈j7,p.t∈zC n) ->
   ∃(acc':List Pt) (y4 y5:B),(acc'.map (·.c)).Perm (j7.map (·.c)++left)/\(∀p∈acc',p.t∈zC n) /\
     pS (zYE 2) zYJ fuel [.fz (.int n),.fz (.int cell),.ow (left.map yX),.ow (j7.map xO),x4,x5]=some (.nx [.fz (.int n),.fz (.int cell),.ow [],.ow (acc'.map xO),y4,y5])
 | 0,0,_,_,_,_,_,hf,_,_=>jc
 | m+1,0,_,_,_,_,_,hf,_,_=>jc
 | 0,f+1,left,j7,x4,x5,hm,_,_,ht=>by
   have e:left=[]:=Oy hm
   subst e
   exact⟨j7,x4,x5,by rw[Wx],ht,rfl⟩
 | m+1,f+1,left,j7,x4,x5,hm,hf,hs,ht=>by
   have hne:left≠[]:=fun z=>by rw[z] at hm;simp at hm
   obtain⟨left',acc',y4,y5,l1,l2,l3,l4,l5⟩:=zQL hn cell left j7 x4 x5 hne jc jc ht
   obtain⟨acc2,z4,z5,p1,p2,p3⟩:=zXC hn cell m f left' acc' y4 y5 jc jc jc l4
   refine⟨acc2,z4,z5,p1.trans l3,p2,?_⟩
   have t:zYE 2 [.fz (.int n),.fz (.int cell),.ow (left.map yX),.ow (j7.map xO),x4,x5]=some true:=by
     cases left with
     | nil=>exact absurd rfl hne
     | cons a r=>rfl
   rw[pS,t,Qq,Qv rfl,l5,Qq]
   exact p3
def zRe {elt:Ef}{h:Pt->D}:∀(ps:List Pt) (x0 x1 x2:B) (j7:List D),(∀p∈ps,elt [.fz (yX p.c),.fz (yU p.t),.fz (.bl p.b)]=some (h p)) ->
   vL (gT (zM (gN 0) (zM (gN 1) (zM (gN 2) xI)))) tOK elt (ps.map xO) [x0,x1,x2] j7=some (j7++ps.map h)
 | [],_,_,_,j7,_=>by simp[vL]
 | p::r,x0,x1,x2,j7,hh=>by
   rw[Qu]
   unfold vL
   have e1:gT (zM (gN 0) (zM (gN 1) (zM (gN 2) xI))) (xO p) [x0,x1,x2]=some [.fz (yX p.c),.fz (yU p.t),.fz (.bl p.b)]:=rfl
   have e2:tOK [.fz (yX p.c),.fz (yU p.t),.fz (.bl p.b)]=some true:=rfl
   rw[e1,Qq,e2,Qq,Qv rfl,hh p Qf,Qq,zRe r _ _ _ _ fun q hq=>hh q (Qa _ hq)]
   simp
def zNv (n:Int)(j:Bool)(ps:List Pt)(b:Bool)(k:Int):dI [zA wN n j ps,.bl b,.int k]=some (.int (if b=true then(ps.length:Int) - 1 - k else k)):=by
 have e:=cF [.fz (zA wN n j ps),.fz (.bl b),.fz (.int k)] (eV 0) (wN:=wN) (n:=n) (j:=j) (ps:=ps) rfl
 have l:wT (yB (Str.ofString "Curve") (Str.ofString "parts") (eV 0)) [.fz (zA wN n j ps),.fz (.bl b),.fz (.int k)]=some (.int (ps.length:Nat)):=by
   unfold wT
   rw[e]
   show some (D.int ((ps.map yF).length:Nat))=_
   rw[Qt]
 have q:=zWg (eIf (tB1 (eV 1)) (rB (rB (wT (yB (Str.ofString "Curve") (Str.ofString "parts") (eV 0))) jm) (eV 2)) (eV 2) [.fz (zA wN n j ps),.fz (.bl b),.fz (.int k)])
 have r:eIf (tB1 (eV 1)) (rB (rB (wT (yB (Str.ofString "Curve") (Str.ofString "parts") (eV 0))) jm) (eV 2)) (eV 2) [.fz (zA wN n j ps),.fz (.bl b),.fz (.int k)]=some (.int (if b=true then(ps.length:Int) - 1 - k else k)):=by
   cases b with
   | true=>simp only[eIf,tB1,eI,l,eV,eC,rG,Qm,Qx,Qq,Rt]
   | false=>rfl
 exact q.trans r
def zQH:mZ=lT:=rfl
def zOv:uH=gG:=rfl
def ixB (b:Bool)(len k:Nat):Nat:=if b=true then len - 1 - k else k
def zKK {b:Bool}{len k:Nat}(h:k < len):(if b=true then(len:Int) - 1 - (k:Int) else(k:Int))=((ixB b len k:Nat):Int):=by
 unfold ixB
 cases b
 · rfl
 · rw[Qv rfl,Qv rfl];omega
def zX3 {b:Bool}{len k:Nat}(h:k < len):ixB b len k < len:=by
 unfold ixB
 split<;>omega
def stD (t:Tn)(b:Bool):D:=.tup [yU t,.bl b]
def zFn (t:Tn)(b:Bool)(p:Pt):D:=.tup [yX (zP t p.c),.tup [yU (yC t p.t),.bl (b != p.b)]]
def zHA (x y:Bool):gNe (.bl x) (.bl y)=some (x != y):=by cases x<;>cases y<;>rfl
section
variable {n:Nat} (hn:n=2∨n=3) {ps:List Pt} (ok:PtsOk n ps) {t:Tn} (ht:t∈zC n) (b j:Bool)
include hn ok ht
theorem zMf {p:Pt}(hp:p∈ps):lT [yU t,yX p.c]=some (yX (zP t p.c))/\gG [yU t,yU p.t]=some (yU (yC t p.t)):=by
 have T:=trM hn ht
 have U:=trM hn (ok.turn p hp)
 have small:n<=1000:=by rcases hn with rfl | rfl<;>decide
 have hc:p.c.length=n:=uD hn _ (ok.perm.mem_iff.mp (Wj.mpr ⟨p,hp,rfl⟩))
 exact⟨zVw t p.c (by rw[hc];exact T.fits) (by rw[T.len];exact small),zRW t p.t (by rw[U.len];exact T.fits) (by rw[T.len];exact small)⟩
theorem zK3 {k:Nat}(hk:k < ps.length):uL [zA wN n j ps,stD t b,.int k]=some (zFn t b (ps[ixB b ps.length k]'(zX3 hk))):=by
 generalize hp:ps[ixB b ps.length k]'(zX3 hk)=p
 have hm:p∈ps:=by rw[←hp];exact Rj _
 obtain⟨f1,f2⟩:=zMf hn ok ht hm
 have s0:lE (eV 1) (gT (zM (gN 3) (zM (gN 4) xI))) [.fz (zA wN n j ps),.fz (stD t b),.fz (.int k),.no,.no,.no,.no]=some (.nx [.fz (zA wN n j ps),.fz (stD t b),.fz (.int k),.fz (yU t),.fz (.bl b),.no,.no]):=rfl
 have q7:=fun r hk=>xZ (g:=cX) (r:=r) s0 hk
 refine q7 _ ?_
 have w:=zNv (wN:=wN) n j ps b k
 rw[zKK hk] at w
 have at_:atD (.lst (ps.map yF)) (.int ((ixB b ps.length k:Nat):Int))=some (yF p):=by
   show atI (ps.map yF) _=_
   rw[bY,zZm (Qi (zX3 hk)),hp]
   rfl
 have s1:yK 5 (eIx (yB (Str.ofString "Curve") (Str.ofString "parts") (eV 0)) (zN 3 dI (zY (eV 0) (zY (eV 4) (zY (eV 2) zR))))) [.fz (zA wN n j ps),.fz (stD t b),.fz (.int k),.fz (yU t),.fz (.bl b),.no,.no]=some (.nx [.fz (zA wN n j ps),.fz (stD t b),.fz (.int k),.fz (yU t),.fz (.bl b),.fz (yF p),.no]):=by
   have e:=cF [.fz (zA wN n j ps),.fz (stD t b),.fz (.int k),.fz (yU t),.fz (.bl b),.no,.no] (eV 0) (wN:=wN) (n:=n) (j:=j) (ps:=ps) rfl
   have e2:zN 3 dI (zY (eV 0) (zY (eV 4) (zY (eV 2) zR))) [.fz (zA wN n j ps),.fz (stD t b),.fz (.int k),.fz (yU t),.fz (.bl b),.no,.no]=some (.int ((ixB b ps.length k:Nat):Int)):=w
   simp only[yK,eIx,e,e2,Qq,at_,Wq,List.set]
 have q8:=fun r hk=>xZ (g:=cN) (r:=r) s1 hk
 refine q8 _ ?_
 have o2:∀x y:D,okL [x,y]=some [x,y]:=fun _ _=>rfl
 have s2:yK 6 (yT (zY (zN 2 gG (zY (eV 3) (zY (yB (Str.ofString "Part") (Str.ofString "turn") (eV 5)) zR))) (zY (uZ (eB2 gNe (eV 4) (yB (Str.ofString "Part") (Str.ofString "back") (eV 5)))) zR))) [.fz (zA wN n j ps),.fz (stD t b),.fz (.int k),.fz (yU t),.fz (.bl b),.fz (yF p),.no]=some (.nx [.fz (zA wN n j ps),.fz (stD t b),.fz (.int k),.fz (yU t),.fz (.bl b),.fz (yF p),.fz (.tup [yU (yC t p.t),.bl (b != p.b)])]):=by
   have e1:=zMH [.fz (zA wN n j ps),.fz (stD t b),.fz (.int k),.fz (yU t),.fz (.bl b),.fz (yF p),.no] (eV 5) p rfl
   have e2:=zKJ [.fz (zA wN n j ps),.fz (stD t b),.fz (.int k),.fz (yU t),.fz (.bl b),.fz (yF p),.no] (eV 5) p rfl
   simp only[yK,yT,zY,zR,zN,uZ,eB2,e1,e2]
   simp only[eV,rG,Qm,Qx,Qo,Eh,Qq,Wq,Rt,f2,zHA,o2,List.set]
 have q9:=fun r hk=>xZ (g:=zXZ) (r:=r) s2 hk
 refine q9 _ ?_
 have e3:=zXw [.fz (zA wN n j ps),.fz (stD t b),.fz (.int k),.fz (yU t),.fz (.bl b),.fz (yF p),.fz (.tup [yU (yC t p.t),.bl (b != p.b)])] (eV 5) p rfl
 show((yT (zY (zN 2 lT (zY (eV 3) (zY (yB (Str.ofString "Part") (Str.ofString "corner") (eV 5)) zR))) (zY (eV 6) zR)) _).map Out.rt).bind xR=_
 simp only[yT,zY,zR,zN,e3]
 simp only[eV,rG,Qm,Qx,Qo,Eh,Qq,Wq,Rt,f1,o2,xR]
 rfl
end
theorem zPO {n:Nat}(hn:n=2∨n=3):oQ [.int n]=some ((zG n).map yX):=by
 rcases hn with rfl | rfl<;>kernel_rfl
def zLr {n:Nat}(hn:n=2∨n=3)(cell:Int):∃ps:List Pt,PtsOk n ps/\dF [.int n,.int cell]=some (ps.map xO):=by
 have hl:(zG n).length+([]:List Pt).length<=8:=by rw[bD];rcases hn with rfl | rfl<;>decide
 have hl2:(zG n).length<=8:=by simpa using hl
 obtain⟨ps,y4,y5,p1,p2,p3⟩:=zXC hn cell _ 100 (zG n) [] .no .no rfl jc hl jd
 refine⟨ps,⟨p1,p2⟩,?_⟩
 have hc:=zPO hn
 have s0:uO 2 (tR 1 oQ (zY (eV 0) zR)) [.fz (.int n),.fz (.int cell),.no,.no,.no,.no]=some (.nx [.fz (.int n),.fz (.int cell),.ow ((zG n).map yX),.no,.no,.no]):=by
   simp only[uO,tR,zY,zR,eV,rG,Qm,Qq,Wq,Qo,Eh,Rt,hc,List.set]
 have s1:uO 3 (yD zR) [.fz (.int n),.fz (.int cell),.ow ((zG n).map yX),.no,.no,.no]=some (.nx [.fz (.int n),.fz (.int cell),.ow ((zG n).map yX),.ow [],.no,.no]):=rfl
 rw[Wz] at p3
 show(oU [.fz (.int n),.fz (.int cell),.no,.no,.no,.no]).bind zSI=_
 unfold oU
 rw[yE s0]
 unfold jL
 rw[yE s1]
 unfold jM
 have p4:pS (zYE 2) (zQ (yK 4 (zN 2 vY (zY (eV 1) (zY (uU (eC (.int 48271)) (rY (eC (.int 997)) (dR 2))) zR)))) (zQ (zNg 5 2 (xG (eV 4) (dR 2))) (jN 3 (yT (zY (eV 5) (zY (zN 2 vK (zY (wJ (eV 4) ju) (zY (eV 0) zR))) (zY (uZ (eB2 gEq (xG (wJ (eV 4) (eC (.int 800))) jn) jm)) zR))))))) 100 _=_:=p3
 rw[yE p4]
 rfl
def p0:Pt:=⟨[],[],false⟩
def enB (e f:List Int)(b:Bool):List Int:=if b then f else e
def zSs (n i:Nat)(c c' x y:List Int):Prop:=i < n/\c.getD i 0≠c'.getD i 0/\x.getD i 0=c'.getD i 0/\y.getD i 0=c.getD i 0/\∀j,j < n->j≠i->c.getD j 0=c'.getD j 0/\x.getD j 0=y.getD j 0
structure Mt (n:Nat)(ps:List Pt)(e f:List Int):Prop where
 ec:e∈zG n
 fc:f∈zG n
 first:(ps.getD 0 p0).c=e/\zP (ps.getD 0 p0).t (enB e f (ps.getD 0 p0).b)=e
 last:(ps.getD (ps.length - 1) p0).c=f/\zP (ps.getD (ps.length - 1) p0).t (enB f e (ps.getD (ps.length - 1) p0).b)=f
 next:∀k,k+1 < ps.length->∃i,zSs n i (ps.getD k p0).c (ps.getD (k+1) p0).c (zP (ps.getD k p0).t (enB f e (ps.getD k p0).b)) (zP (ps.getD (k+1) p0).t (enB e f (ps.getD (k+1) p0).b))
def pO {i:Nat}{f:Ef}{g:Sf}{ρ:List B}{d:D}(h:f ρ=some d):zQ (yK i f) g ρ=g (ρ.set i (.fz d)):=yE (by unfold yK;rw[h];rfl)
def sH {f:jv}{fa:Ef}{ρ:List B}{x:D}(h:fa ρ=some x):zN 1 f (zY fa zR) ρ=f [x]:=iP (zK h rfl) rfl
def vD {f:jv}{fa fb:Ef}{ρ:List B}{x y:D}(h1:fa ρ=some x)(h2:fb ρ=some y):zN 2 f (zY fa (zY fb zR)) ρ=f [x,y]:=iP (zK h1 (zK h2 rfl)) rfl
def eB {f:jv}{fa fb fc:Ef}{ρ:List B}{x y z:D}(h1:fa ρ=some x)(h2:fb ρ=some y)(h3:fc ρ=some z):zN 3 f (zY fa (zY fb (zY fc zR))) ρ=f [x,y,z]:=iP (zK h1 (zK h2 (zK h3 rfl))) rfl
def zIZ {f:jv}{fa fb fc fd:Ef}{ρ:List B}{x y z u:D}(h1:fa ρ=some x)(h2:fb ρ=some y)(h3:fc ρ=some z)(h4:fd ρ=some u):zN 4 f (zY fa (zY fb (zY fc (zY fd zR)))) ρ=f [x,y,z,u]:=iP (zK h1 (zK h2 (zK h3 (zK h4 rfl)))) rfl
def aA {f:List D->Option (List D)}{fa fb:Ef}{ρ:List B}{x y:D}(h1:fa ρ=some x)(h2:fb ρ=some y):tR 2 f (zY fa (zY fb zR)) ρ=f [x,y]:=by unfold tR;rw[zK h1 (zK h2 rfl),Qq];rfl
def yZ {C:Int->Int->Bool}{g:Int->Int->Int}{fa fb:Ef}{ρ:List B}{i j:Int}(h1:fa ρ=some (.int i))(h2:fb ρ=some (.int j))(h:C i j=true):eI C g fa fb ρ=some (.int (g i j)):=by
 unfold eI
 rw[h1,Qq,h2,Qq]
 show(if C i j then _ else none)=_
 rw[Qv h]
def rZ {t:Tf}{f:Sf}{ρ:List B}{b:Bool}(h:t ρ=some b):sIf t f xQ ρ=if b then f ρ else some (.nx ρ):=by unfold sIf;rw[h];cases b<;>rfl
def rH {i:Nat}{f:Ef}{ρ:List B}{d:D}{ds:List D}(e1:f ρ=some d)(e2:ρ[i]?=some (.ow ds))(e3:ds.length<=1000):jN i f ρ=some (.nx (ρ.set i (.ow (ds++[d])))):=by
 unfold jN;rw[e1,Qq,e2]
 show(if ds.length < lim then _ else none)=_
 rw[Qv (show ds.length < 100000 by omega)]
def wX {f:Ef}{ρ:List B}{x k:Int}(h:f ρ=some (.int x)):eB2 gEq f (eC (.int k)) ρ=some (decide (x=k)):=by unfold eB2;rw[h];rfl
def zMm {fa fb fc:Ef}{ρ:List B}{x y z:D}(h1:fa ρ=some x)(h2:fb ρ=some y)(h3:fc ρ=some z):yT (zY fa (zY fb (zY fc zR))) ρ=some (.tup [x,y,z]):=by
 unfold yT;rw[zK h1 (zK h2 (zK h3 rfl))];rfl
theorem zLe {t:Tn}(ht:t∈tJ):sR [yU t]=some (yU (vI t)):=by
 obtain⟨a,b,f,g,h1,h2,h3,rfl⟩:=zP0 ht
 rcases h1 with⟨rfl,rfl⟩ | ⟨rfl,rfl⟩<;>rcases h2 with rfl | rfl<;>rcases h3 with rfl | rfl<;>kernel_rfl
theorem zL0 {t:Tn}(ht:t∈tG):sR [yU t]=some (yU (vI t)):=by
 obtain⟨a,b,c,f,g,j,h1,h2,h3,h4,rfl⟩:=zPy ht
 rcases h1 with⟨rfl,rfl,rfl⟩ | ⟨rfl,rfl,rfl⟩ | ⟨rfl,rfl,rfl⟩ | ⟨rfl,rfl,rfl⟩ | ⟨rfl,rfl,rfl⟩ | ⟨rfl,rfl,rfl⟩<;>rcases h2 with rfl | rfl<;>rcases h3 with rfl | rfl<;>rcases h4 with rfl | rfl<;>kernel_rfl
def zUB {n:Nat}(hn:n=2∨n=3){t:Tn}(h:t∈zC n):sR [yU t]=some (yU (vI t)):=by
 rcases hn with rfl | rfl
 · exact zLe h
 · exact zL0 h
def cJ {n:Nat}(hn:n=2∨n=3){t u:Tn}(h:t∈zC n)(h':u∈zC n):uH [yU t,yU u]=some (yU (yC t u)):=by
 have T:=trM hn h
 have U:=trM hn h'
 have small:n<=1000:=by rcases hn with rfl | rfl<;>decide
 rw[zOv]
 exact zRW t u (by rw[U.len];exact T.fits) (by rw[T.len];exact small)
def zHM:List (List Int×Tn):=[([0,0],[(1,0),(0,0)]),([0,1],[(0,0),(1,0)]),([1,1],[(0,0),(1,0)]),([1,0],[(1,1),(0,1)])]
def zIl:List (List Int×Tn):=[([0,0,0],[(1,0),(0,0),(2,0)]),([0,1,0],[(1,0),(2,0),(0,0)]),([0,1,1],[(0,0),(1,0),(2,0)]),([0,0,1],[(1,1),(2,1),(0,0)]),([1,0,1],[(1,0),(2,1),(0,1)]),([1,1,1],[(0,0),(1,0),(2,0)]),([1,1,0],[(1,1),(2,0),(0,1)]),([1,0,0],[(1,1),(0,1),(2,0)])]
def eN (x:List Int×Tn):D:=.tup [yX x.1,yU x.2]
def bM (n:Nat):List (List Int×Tn):=if n=2 then zHM else zIl
theorem zJr {n:Nat}(hn:n=2∨n=3):aM [.int n]=some ((bM n).map eN):=by
 rcases hn with rfl | rfl<;>kernel_rfl
def zPv {n:Nat}(hn:n=2∨n=3):∀x∈bM n,x.1∈zG n/\x.2∈zC n:=by
 rcases hn with rfl | rfl<;>decide +kernel
def zVe {n:Nat}(hn:n=2∨n=3):∀t∈zC n,((bM n).map fun x=>zP t x.1).Perm (zG n):=by
 rcases hn with rfl | rfl<;>decide +kernel
def cO (t u:Tn):Tn:=yC t (yC u (vI t))
def mkP (t m:Tn)(x:List Int×Tn)(b:Bool):Pt:=⟨zP t x.1,if b then yC (cO t x.2) m else cO t x.2,b⟩
def zOg {n:Nat}(hn:n=2∨n=3){t m u:Tn}{c:List Int}(ht:t∈zC n)(hm:m∈zC n)(hu:u∈zC n)(hc:c∈zG n)(x0 x1 x2 x9:B)(j7:List D)(ha:j7.length<=100)(rA:Int) :
   ∃b:Bool,(mkP t m (c,u) b).t∈zC n/\vE [x0,x1,x2,.fz (yU t),.fz (yU m),.ow j7,.fz (.int rA),.fz (yX c),.fz (yU u),x9]=some (.nx [x0,x1,x2,.fz (yU t),.fz (yU m),.ow (j7++[xO (mkP t m (c,u) b)]),.fz (.int (rA / 2)),.fz (yX c),.fz (yU u),.fz (yU (mkP t m (c,u) b).t)]):=by
 have um:=(cV hn ht).1
 have e1:=zUB hn ht
 have e2:=cJ hn hu um
 have m2:=oF hn hu um
 have e3:=cJ hn ht m2
 have m3:=oF hn ht m2
 have hl:cO t u=yC t (yC u (vI t)):=rfl
 rw[←hl] at e3 m3
 generalize hlg:cO t u=l at e3 m3
 have e4:=cJ hn m3 hm
 have m4:=oF hn m3 hm
 have T:=trM hn ht
 have small:n<=1000:=by rcases hn with rfl | rfl<;>decide
 have e5:mZ [yU t,yX c]=some (yX (zP t c)):=by
   rw[zQH]
   exact zVw t c (by rw[uD hn c hc];exact T.fits) (by rw[T.len];exact small)
 have fin:∀w:Tn,w∈zC n->rP [x0,x1,x2,.fz (yU t),.fz (yU m),.ow j7,.fz (.int rA),.fz (yX c),.fz (yU u),.fz (yU w)]=some (.nx [x0,x1,x2,.fz (yU t),.fz (yU m),.ow (j7++[xO ⟨zP t c,w,decide (rA % 2=1)⟩]),.fz (.int (rA / 2)),.fz (yX c),.fz (yU u),.fz (yU w)]):=fun w hw=>by
   unfold rP
   rw[yE (rH (d:=xO ⟨zP t c,w,decide (rA % 2=1)⟩) (ds:=j7) (zMm ((vD rfl rfl).trans e5) rfl (by unfold uZ;rw[wX (x:=rA % 2) (yZ rfl rfl rfl)];rfl)) rfl jc)]
   rfl
 unfold vE
 rw[pO (d:=yU l) ((vD rfl ((vD rfl ((sH rfl).trans e1)).trans e2)).trans e3)]
 unfold nV
 have ht1:eB2 gEq (xG (eV 6) jn) jm [x0,x1,x2,.fz (yU t),.fz (yU m),.ow j7,.fz (.int rA),.fz (yX c),.fz (yU u),.fz (yU l)]=some (decide (rA % 2=1)):=wX (yZ rfl rfl rfl)
 by_cases hb:rA % 2=1
 · have hmk:mkP t m (c,u) true=⟨zP t c,yC l m,decide (rA % 2=1)⟩:=by unfold mkP;rw[Qp hb,hlg];rfl
   refine⟨true,by rw[hmk];exact m4,?_⟩
   rw[hmk]
   rw[yE (ρ':=[x0,x1,x2,.fz (yU t),.fz (yU m),.ow j7,.fz (.int rA),.fz (yX c),.fz (yU u),.fz (yU (yC l m))])]
   · exact fin _ m4
   · refine(rZ ht1).trans ?_
     rw[Qp hb,Qv rfl]
     unfold yK
     rw[vD rfl rfl,e4]
     rfl
 · have hmk:mkP t m (c,u) false=⟨zP t c,l,decide (rA % 2=1)⟩:=by unfold mkP;rw[Qb hb,hlg];rfl
   refine⟨false,by rw[hmk];exact m3,?_⟩
   rw[hmk]
   rw[yE (ρ':=[x0,x1,x2,.fz (yU t),.fz (yU m),.ow j7,.fz (.int rA),.fz (yX c),.fz (yU u),.fz (yU l)])]
   · exact fin _ m3
   · refine(rZ ht1).trans ?_
     rw[Qb hb]
     rfl
def zUQ {n:Nat}(hn:n=2∨n=3){t m:Tn}(ht:t∈zC n)(hm:m∈zC n)(x0 x1 x2:B):∀(bs:List (List Int×Tn)) (j7:List Pt) (rA:Int) (x7 x8 x9:B),(∀x∈bs,x.1∈zG n/\x.2∈zC n)->j7.length+bs.length<=100->(∀p∈j7,p.t∈zC n) ->
   ∃(bl:List Bool) (y6 y7 y8 y9:B),bl.length=bs.length/\(∀p∈j7++List.zipWith (mkP t m) bs bl,p.t∈zC n) /\
     mS (gT (zM (gN 7) (zM (gN 8) xI))) vE (bs.map eN) [x0,x1,x2,.fz (yU t),.fz (yU m),.ow (j7.map xO),.fz (.int rA),x7,x8,x9]=some (.nx [x0,x1,x2,.fz (yU t),.fz (yU m),.ow ((j7++List.zipWith (mkP t m) bs bl).map xO),y6,y7,y8,y9])
 | [],j7,rA,x7,x8,x9,_,_,ha=>⟨[],.fz (.int rA),x7,x8,x9,rfl,by simpa using ha,by simp[mS]⟩
 | x::r,j7,rA,x7,x8,x9,hb,hl,ha=>by
   obtain⟨h1,h2⟩:=hb x Qf
   obtain⟨b,p2,p3⟩:=zOg hn ht hm h2 h1 x0 x1 x2 x9 (j7.map xO) (by rw[Qt];simp at hl;omega) rA
   obtain⟨bl,y6,y7,y8,y9,q1,q2,q3⟩:=zUQ hn ht hm x0 x1 x2 r (j7++[mkP t m (x.1,x.2) b]) (rA / 2) (.fz (yX x.1)) (.fz (yU x.2)) (.fz (yU (mkP t m (x.1,x.2) b).t)) (fun y hy=>hb y (Qa _ hy)) (by simp at hl ⊢;omega) (fun q hq=>by
     rcases Eu.mp hq with z | z
     · exact ha q z
     · rw[Wm.mp z];exact p2)
   rw[Ex] at q2 q3
   refine⟨b::bl,y6,y7,y8,y9,by simp[q1],q2,?_⟩
   · rw[Qu,nB (ρ1:=[x0,x1,x2,.fz (yU t),.fz (yU m),.ow (j7.map xO),.fz (.int rA),.fz (yX x.1),.fz (yU x.2),x9]) rfl p3]
     rw[Wt,Wt] at q3
     rw[Wt]
     exact q3
def e0M (n:Nat):List Int:=if n=2 then [0,0] else [0,0,0]
def f0M (n:Nat):List Int:=if n=2 then [1,0] else [1,0,0]
def zS6 (n:Nat):Tn:=if n=2 then [(0,1),(1,0)] else [(0,1),(1,0),(2,0)]
def tI (n:Nat)(rev:Bool):List (List Int×Tn):=if rev then(bM n).reverse else bM n
def eM (n:Nat)(t:Tn)(rev:Bool):List Int:=zP t (if rev then f0M n else e0M n)
def fM (n:Nat)(t:Tn)(rev:Bool):List Int:=zP t (if rev then e0M n else f0M n)
def b0:List Int×Tn:=([],[])
instance (n i:Nat)(c c' x y:List Int):Decidable (zSs n i c c' x y):=by unfold zSs;infer_instance
def zOM (n:Nat)(t:Tn)(rev:Bool):Bool :=
 decide (eM n t rev∈zG n)&&decide (fM n t rev∈zG n)&&decide (zP (cO t (zS6 n)) (eM n t rev)=fM n t rev)&&decide (zP (cO t (zS6 n)) (fM n t rev)=eM n t rev) &&
 decide (zP t ((tI n rev).getD 0 b0).1=eM n t rev)&&decide (zP (cO t ((tI n rev).getD 0 b0).2) (eM n t rev)=eM n t rev) &&
 decide (zP t ((tI n rev).getD (2^n - 1) b0).1=fM n t rev)&&decide (zP (cO t ((tI n rev).getD (2^n - 1) b0).2) (fM n t rev)=fM n t rev) &&
 (List.range (2^n - 1)).all fun k=>(List.range n).any fun i=>decide (zSs n i (zP t ((tI n rev).getD k b0).1) (zP t ((tI n rev).getD (k+1) b0).1) (zP (cO t ((tI n rev).getD k b0).2) (fM n t rev)) (zP (cO t ((tI n rev).getD (k+1) b0).2) (eM n t rev)))
def zMV {n:Nat}(hn:n=2∨n=3):∀t∈zC n,∀rev,zOM n t rev=true:=by
 rcases hn with rfl | rfl
 · have:∀t∈zC 2,∀rev,zOM 2 t rev=true:=by decide +kernel
   exact this
 · have:∀t∈zC 3,∀rev,zOM 3 t rev=true:=by decide +kernel
   exact this
def zTA {n:Nat}(hn:n=2∨n=3){t u:Tn}(ht:t∈zC n)(hu:u∈zC n):cO t u∈zC n:=oF hn ht (oF hn hu (cV hn ht).1)
def zOG {n:Nat}(hn:n=2∨n=3):zS6 n∈zC n:=by
 rcases hn with rfl | rfl<;>decide +kernel
def zUS {n:Nat}(hn:n=2∨n=3)(rev:Bool):(tI n rev).length=2^n:=by
 rcases hn with rfl | rfl<;>cases rev<;>rfl
def zWt {n:Nat}(hn:n=2∨n=3)(rev:Bool):∀x∈tI n rev,x.1∈zG n/\x.2∈zC n:=by
 intro x hx
 cases rev with
 | false=>exact zPv hn x hx
 | true=>exact zPv hn x (List.mem_reverse.mp hx)
def zQw {t m:Tn}{bs:List (List Int×Tn)}{bl:List Bool}(h:bl.length=bs.length):(List.zipWith (mkP t m) bs bl).length=bs.length:=by
 rw[List.length_zipWith,h,Nat.min_self]
def zUq {t m:Tn}{bs:List (List Int×Tn)}{bl:List Bool}(h:bl.length=bs.length){k:Nat}(hk:k < bs.length):(List.zipWith (mkP t m) bs bl).getD k p0=mkP t m (bs.getD k b0) (bl.getD k false):=by
 rw[Wu,Qi (by rw[zQw h];exact hk),List.getElem_zipWith,Wu,Qi hk,Wu,Qi (by rw[h];exact hk)]
 rfl
def zRk {n:Nat}(hn:n=2∨n=3){s t:Tn}(hs:s∈zC n)(ht:t∈zC n){c:List Int}(hc:c∈zG n):zP (yC s t) c=zP s (zP t c) :=
 zZ5 (trM hn hs) (trM hn ht) (uD hn c hc) (by
   have key:∀c∈zG n,∀x∈c,x=0∨x=1:=by rcases hn with rfl | rfl<;>decide +kernel
   exact key c hc)
def zJE {n:Nat}(hn:n=2∨n=3){t:Tn}(ht:t∈zC n)(rev:Bool){bl:List Bool}(hl:bl.length=(tI n rev).length):Mt n (List.zipWith (mkP t (cO t (zS6 n))) (tI n rev) bl) (eM n t rev) (fM n t rev):=by
 have hb:=zMV hn t ht rev
 unfold zOM at hb
 simp only[Qc,Wb,Qn,List.any_eq_true,Te] at hb
 obtain⟨⟨⟨⟨⟨⟨⟨⟨h1,h2⟩,h3⟩,h4⟩,h5⟩,h6⟩,h7⟩,h8⟩,h9⟩:=hb
 have j5:=zUS hn rev
 have hpos:0 < 2^n:=Nat.pow_pos jb
 have mm:=zTA hn ht (zOG hn)
 have mem:∀k,k < 2^n->(tI n rev).getD k b0∈tI n rev:=fun k hk=>by
   rw[Wu,Qi (by rw[j5];exact hk)]
   exact Rj _
 have en:∀k,k < 2^n->∀b,zP (mkP t (cO t (zS6 n)) ((tI n rev).getD k b0) b).t (enB (eM n t rev) (fM n t rev) b)=zP (cO t ((tI n rev).getD k b0).2) (eM n t rev):=fun k hk b=>by
   have lm:=zTA hn ht (zWt hn rev _ (mem k hk)).2
   cases b with
   | false=>rfl
   | true =>
     show zP (yC _ _) (fM n t rev)=_
     rw[zRk hn lm mm h2,h4]
 have ex:∀k,k < 2^n->∀b,zP (mkP t (cO t (zS6 n)) ((tI n rev).getD k b0) b).t (enB (fM n t rev) (eM n t rev) b)=zP (cO t ((tI n rev).getD k b0).2) (fM n t rev):=fun k hk b=>by
   have lm:=zTA hn ht (zWt hn rev _ (mem k hk)).2
   cases b with
   | false=>rfl
   | true =>
     show zP (yC _ _) (eM n t rev)=_
     rw[zRk hn lm mm h1,h3]
 refine⟨h1,h2,?_,?_,fun k hk=>?_⟩
 · rw[zUq hl jc]
   exact⟨h5,(en 0 hpos _).trans h6⟩
 · rw[zQw hl,j5,zUq hl jc]
   exact⟨h7,(ex _ jc _).trans h8⟩
 · rw[zQw hl,j5] at hk
   obtain⟨i,hi,ha⟩:=h9 k jc
   refine⟨i,?_⟩
   rw[zUq hl jc,zUq hl jc]
   have a1:=ex k jc (bl.getD k false)
   have a2:=en (k+1) jc (bl.getD (k+1) false)
   show zSs n i _ _ (zP _ (enB _ _ (bl.getD k false))) (zP _ (enB _ _ (bl.getD (k+1) false)))
   rw[a1,a2]
   exact ha
def zWR {t m:Tn}:∀ {bs:List (List Int×Tn)} {bl:List Bool},bl.length=bs.length->(List.zipWith (mkP t m) bs bl).map (·.c)=bs.map fun x=>zP t x.1
 | [],[],_=>rfl
 | [],_::_,h=>by simp at h
 | _::_,[],h=>by simp at h
 | x::bs,b::bl,h=>by
   rw[Uo,Qu,Qu,zWR (by simpa using h)]
   rfl
theorem zN2 {n:Nat}(hn:n=2∨n=3)(q:Int):∃(ps:List Pt) (e f:List Int),PtsOk n ps/\Mt n ps e f/\iG [.int n,.int q]=some (ps.map xO):=by
 obtain⟨t,tm,te⟩:=zP1 q hn
 have hmir:∃m,m=zS6 n/\∀r:List B,wC (eL (yN (iR (eV 0)) 1 [] (gN 0) tOK (yT (zY (eV 0) (zY (sB (uZ (eB2 gEq (eV 0) jl))) zR))))) (.fz (.int (n:Nat))::r)=some (yU m):=by
   rcases hn with rfl | rfl
   · exact⟨[(0,1),(1,0)],rfl,fun r=>je⟩
   · exact⟨[(0,1),(1,0),(2,0)],rfl,fun r=>je⟩
 obtain⟨m,mdef,me⟩:=hmir
 have mm:m∈zC n:=by rw[mdef];exact zOG hn
 have um:=(cV hn tm).1
 have e1:=zUB hn tm
 have e2:=cJ hn mm um
 have m2:=oF hn mm um
 have e3:=cJ hn tm m2
 have m3:=oF hn tm m2
 have go:∀rev:Bool,((tI n rev).map fun x=>zP t x.1).Perm (zG n)->∃(ps:List Pt) (e f:List Int),PtsOk n ps/\Mt n ps e f/\(pR [.fz (.int n),.fz (.int q),.fz (.lst ((tI n rev).map eN)),.fz (yU t),.no,.no,.no,.no,.no,.no]).bind zSI=some (ps.map xO):=fun rev h3=>by
   have hsm:(tI n rev).length<=100:=by rw[zUS hn];rcases hn with rfl | rfl<;>decide
   obtain⟨bl,y6,y7,y8,y9,q1,q2,q3⟩:=zUQ hn tm m3 (.fz (.int n)) (.fz (.int q)) (.fz (.lst ((tI n rev).map eN))) (tI n rev) [] (q / 96) .no .no .no (zWt hn rev) (by simpa using hsm) jd
   rw[Ws] at q2 q3
   have mt:=zJE hn tm rev q1
   rw[show cO t (zS6 n)=yC t (yC m (vI t)) by rw[mdef];rfl] at mt
   have hpc:=zWR (t:=t) (m:=yC t (yC m (vI t))) q1
   generalize hbs:tI n rev=bs at *
   generalize List.zipWith (mkP t (yC t (yC m (vI t)))) bs bl=ps at *
   refine⟨ps,_,_,⟨?_,q2⟩,mt,?_⟩
   · rw[hpc];exact h3
   · unfold pR
     rw[pO (d:=yU m) (me _)]
     unfold lS
     rw[pO (d:=yU (yC t (yC m (vI t)))) ((vD rfl ((vD rfl ((sH rfl).trans e1)).trans e2)).trans e3)]
     unfold lK
     rw[yE (ρ':=[.fz (.int n),.fz (.int q),.fz (.lst (bs.map eN)),.fz (yU t),.fz (yU (yC t (yC m (vI t)))),.ow [],.no,.no,.no,.no]) rfl]
     unfold lZ
     rw[pO (d:=.int (q / 96)) (yZ rfl rfl rfl)]
     unfold mD
     have fr:pQ (iL (eV 2)) (gT (zM (gN 7) (zM (gN 8) xI))) vE [.fz (.int n),.fz (.int q),.fz (.lst (bs.map eN)),.fz (yU t),.fz (yU (yC t (yC m (vI t)))),.ow [],.fz (.int (q / 96)),.no,.no,.no]=some (.nx [.fz (.int n),.fz (.int q),.fz (.lst (bs.map eN)),.fz (yU t),.fz (yU (yC t (yC m (vI t)))),.ow (ps.map xO),y6,y7,y8,y9]):=q3
     dsimp only[List.set]
     rw[yE fr]
     rfl
 show ∃(ps:List Pt) (e f:List Int),PtsOk n ps/\Mt n ps e f/\(pZ [.fz (.int n),.fz (.int q),.no,.no,.no,.no,.no,.no,.no,.no]).bind zSI=some (ps.map xO)
 unfold pZ
 rw[pO (d:=.lst ((bM n).map eN)) (bL (by unfold tR;rw[zK (d:=.int n) rfl rfl,Qq];exact zJr hn))]
 unfold lL
 rw[pO (d:=yU t) ((vD rfl rfl).trans te)]
 unfold lO
 have ht1:eB2 gEq (xG (wJ (eV 1) (eC (.int 48))) jn) jm [.fz (.int n),.fz (.int q),.fz (.lst ((bM n).map eN)),.fz (yU t),.no,.no,.no,.no,.no,.no]=some (decide (q / 48 % 2=1)):=wX (yZ (yZ rfl rfl rfl) rfl rfl)
 by_cases hb:q / 48 % 2=1
 · obtain⟨ps,e,f,g1,g3,g2⟩:=go true (by show((bM n).reverse.map _).Perm _;rw[List.map_reverse];exact(List.reverse_perm _).trans (zVe hn t tm))
   refine⟨ps,e,f,g1,g3,?_⟩
   rw[yE (ρ':=[.fz (.int n),.fz (.int q),.fz (.lst ((bM n).reverse.map eN)),.fz (yU t),.no,.no,.no,.no,.no,.no])]
   · exact g2
   · refine(rZ ht1).trans ?_
     rw[Qp hb,Qv rfl,List.map_reverse]
     rfl
 · obtain⟨ps,e,f,g1,g3,g2⟩:=go false (zVe hn t tm)
   refine⟨ps,e,f,g1,g3,?_⟩
   rw[yE (ρ':=[.fz (.int n),.fz (.int q),.fz (.lst ((bM n).map eN)),.fz (yU t),.no,.no,.no,.no,.no,.no])]
   · exact g2
   · refine(rZ ht1).trans ?_
     rw[Qb hb]
     rfl
def wI (ps:List Pt)(b:Bool)(k:Nat):Pt:=ps.getD (ixB b ps.length k) ⟨[],[],false⟩
def zON {ps:List Pt}{b:Bool}{k:Nat}(hk:k < ps.length):ps[ixB b ps.length k]'(zX3 hk)=wI ps b k:=by
 unfold wI
 rw[Wu,Qi (zX3 hk)]
 rfl
def iX {ps:List Pt}{b:Bool}{k:Nat}(hk:k < ps.length):wI ps b k∈ps:=by rw[←zON hk];exact Rj _
def cW (ps:List Pt)(i:Nat):Tn->Bool->Int->List Nat->Int
 | _,_,x,[]=>x
 | t,b,x,d::r=>cW ps i (yC t (wI ps b d).t) (b != (wI ps b d).b) (2*x+(zP t (wI ps b d).c).getD i 0) r
def zY6 (ps:List Pt)(i:Nat):∀(ds:List Nat) (t:Tn) (b:Bool) (x:Int),cW ps i t b x ds=x*2^ds.length+cW ps i t b 0 ds
 | [],t,b,x=>by simp[cW]
 | d::r,t,b,x=>by
   unfold cW
   rw[zY6 ps i r _ _ (2*x+_),zY6 ps i r _ _ (2*0+_)]
   rw[Qo]
   generalize(zP t (wI ps b d).c).getD i 0=e
   generalize cW ps i _ _ 0 r=y
   rw[Int.pow_succ]
   generalize(2:Int)^r.length=p
   rw[Uw,Uw,Int.mul_comm 2 x,Int.mul_assoc,Int.mul_comm 2 p]
   omega
def lA {n:Nat}(hn:n=2∨n=3){c:List Int}(hc:c∈zG n)(i:Nat):c.getD i 0=0∨c.getD i 0=1:=by
 have key:∀c∈zG n,∀x∈c,x=0∨x=1:=by rcases hn with rfl | rfl<;>decide +kernel
 rw[Wu]
 cases h:c[i]? with
 | none=>exact .inl rfl
 | some x=>exact key c hc x (Ta h)
def jI {n:Nat}(hn:n=2∨n=3):∀t∈zC n,∀c∈zG n,zP t c∈zG n:=by
 rcases hn with rfl | rfl<;>decide +kernel
section
variable {n:Nat} (hn:n=2∨n=3) {ps:List Pt} (ok:PtsOk n ps)
include hn ok
theorem zKk {b:Bool}{k:Nat}(hk:k < ps.length):(wI ps b k).c∈zG n:=ok.perm.mem_iff.mp (Wj.mpr ⟨_,iX hk,rfl⟩)
theorem zMI {t:Tn}(ht:t∈zC n){b:Bool}{k:Nat}(hk:k < ps.length):yC t (wI ps b k).t∈zC n:=oF hn ht (ok.turn _ (iX hk))
theorem zK4 (f:Nat->Int)(c:List Int)(hc:c.length=n):qK [yX ((List.range n).map f),yX c]=some (yX ((List.range n).map fun i=>2*f i+c.getD i 0)):=by
 rcases hn with rfl | rfl
 · match c,hc with
   | [a,b],_=>show qK [.tup [.int (f 0),.int (f 1)],.tup [.int a,.int b]]=some (.tup [.int (2*f 0+a),.int (2*f 1+b)]);generalize f 0=u;generalize f 1=v;kernel_rfl
 · match c,hc with
   | [a,b,e],_=>show qK [.tup [.int (f 0),.int (f 1),.int (f 2)],.tup [.int a,.int b,.int e]]=some (.tup [.int (2*f 0+a),.int (2*f 1+b),.int (2*f 2+e)]);generalize f 0=u;generalize f 1=v;generalize f 2=w;kernel_rfl
end
section
variable {ps:List Pt} (hB:0 < ps.length) (hs:ps.length<=8)
include hB hs
end
def sW {t:Tf}{f g:Sf}{ρ:List B}{r:Option D}(h:t ρ=some false)(k:(g ρ).bind xR=r):(zQ (sIf t f xQ) g ρ).bind xR=r:=xZ (by unfold sIf;rw[h];rfl) k
def wR {i:Nat}{f:Ef}{g:Sf}{ρ:List B}{d:D}{r:Option D}(h:f ρ=some d)(k:(g (ρ.set i (.fz d))).bind xR=r):(zQ (yK i f) g ρ).bind xR=r:=xZ (by unfold yK;rw[h];rfl) k
def zPe {f:Ef}{ρ:List B}(h:f ρ=some (.bl true)):tU (tB1 f) ρ=some false:=by unfold tU tB1;rw[h];rfl
theorem zM8 {n:Nat}(hn:n=2∨n=3):kE [.int (n:Nat)]=some (stD (qP n) false):=by rcases hn with rfl | rfl<;>kernel_rfl
def zUX {n:Nat}(hn:n=2∨n=3):qP n∈zC n:=by rcases hn with rfl | rfl<;>decide +kernel
def zVo {n:Int}{j:Bool}{ps:List Pt}{ρ:List B}(h:eV 0 ρ=some (zA wN n j ps)):wT (yB (Str.ofString "Curve") (Str.ofString "parts") (eV 0)) ρ=some (.int (ps.length:Nat)):=by
 unfold wT
 rw[cF ρ (eV 0) h,Qq]
 show some (D.int ((ps.map yF).length:Nat))=_
 rw[Qt]
def zLo {n:Int}{j:Bool}{ps:List Pt}{ρ:List B}(h:eV 0 ρ=some (zA wN n j ps)):yB (Str.ofString "Curve") (Str.ofString "dims") (eV 0) ρ=some (.int n):=by
 unfold yB;rw[h];rfl
section
variable {n:Nat} (hn:n=2∨n=3) {ps:List Pt} (ok:PtsOk n ps) (j:Bool)
include hn ok
end
def zXM {n:Nat}{e f:List Int}(he:e∈zG n)(hf:f∈zG n)(b:Bool):enB e f b∈zG n:=by cases b<;>assumption
def oK (e f:List Int)(b c:Bool):enB e f (b != c)=if b then enB f e c else enB e f c:=by cases b<;>cases c<;>rfl
def vQ {n:Nat}{s:Tn}(hs:Tr n s){c:List Int}{i:Nat}(hi:i < n):(zP s c).getD i 0=Builtin.bitXor (c.getD (s.getD i (0,0)).1.toNat 0) (s.getD i (0,0)).2:=by
 unfold zP
 rw[Wu,Wa,Qi (by rw[hs.len];exact hi),Wu (l:=s),Qi (by rw[hs.len];exact hi)]
 rfl
def zJ2 {n:Nat}(hn:n=2∨n=3){s:Tn}(hs:s∈zC n){c c' x y:List Int}(hc:c∈zG n)(hc':c'∈zG n)(hx:x∈zG n)(hy:y∈zG n){i:Nat}(h:zSs n i c c' x y):∃j,zSs n j (zP s c) (zP s c') (zP s x) (zP s y):=by
 have T:=trM hn hs
 -- the axis that turns to i
 have key:∀s∈zC n,∀i,i < n->∃j,j < n/\(s.getD j (0,0)).1.toNat=i/\∀k,k < n->k≠j->(s.getD k (0,0)).1.toNat≠i/\(s.getD k (0,0)).1.toNat < n:=by
   rcases hn with rfl | rfl
   · have:∀s∈zC 2,∀i,i < 2->∃j,j < 2/\(s.getD j (0,0)).1.toNat=i/\∀k,k < 2->k≠j->(s.getD k (0,0)).1.toNat≠i/\(s.getD k (0,0)).1.toNat < 2:=by decide +kernel
     exact this
   · have:∀s∈zC 3,∀i,i < 3->∃j,j < 3/\(s.getD j (0,0)).1.toNat=i/\∀k,k < 3->k≠j->(s.getD k (0,0)).1.toNat≠i/\(s.getD k (0,0)).1.toNat < 3:=by decide +kernel
     exact this
 have fl:∀s∈zC n,∀j,j < n->(s.getD j (0,0)).2=0∨(s.getD j (0,0)).2=1:=by
   rcases hn with rfl | rfl
   · have:∀s∈zC 2,∀j,j < 2->(s.getD j (0,0)).2=0∨(s.getD j (0,0)).2=1:=by decide +kernel
     exact this
   · have:∀s∈zC 3,∀j,j < 3->(s.getD j (0,0)).2=0∨(s.getD j (0,0)).2=1:=by decide +kernel
     exact this
 obtain⟨hi,h1,h2,h3,h4⟩:=h
 obtain⟨j,hj,e,ho⟩:=key s hs i hi
 have bc:=lA hn hc
 have bc':=lA hn hc'
 have xr:∀a b g:Int,(a=0∨a=1)->(b=0∨b=1)->(g=0∨g=1)->a≠b->Builtin.bitXor a g≠Builtin.bitXor b g:=by
   intro a b g ha hb hg hab
   rcases ha with rfl | rfl<;>rcases hb with rfl | rfl<;>rcases hg with rfl | rfl<;>first | exact absurd rfl hab | decide
 refine⟨j,hj,?_,?_,?_,fun k hk hkj=>?_⟩
 · rw[vQ T hj,vQ T hj,e]
   exact xr _ _ _ (bc i) (bc' i) (fl s hs j hj) h1
 · rw[vQ T hj,vQ T hj,e,h2]
 · rw[vQ T hj,vQ T hj,e,h3]
 · obtain⟨q1,q2⟩:=ho k hk hkj
   obtain⟨g1,g2⟩:=h4 _ q2 q1
   rw[vQ T hk,vQ T hk,vQ T hk,vQ T hk,g1,g2]
   exact⟨rfl,rfl⟩
section
variable {n:Nat} (hn:n=2∨n=3) {ps:List Pt} (ok:PtsOk n ps) {e f:List Int} (M:Mt n ps e f)
include hn ok M
theorem zPb:0 < ps.length:=by rw[ok.len];exact Nat.pow_pos jb
theorem ta {s t:Tn}(hs:s∈zC n)(ht:t∈zC n){c:List Int}(hc:c∈zG n):zP (yC s t) c=zP s (zP t c) :=
 zZ5 (trM hn hs) (trM hn ht) (uD hn c hc) (by
   have key:∀c∈zG n,∀x∈c,x=0∨x=1:=by rcases hn with rfl | rfl<;>decide +kernel
   exact key c hc)
theorem zLC (i:Nat):∀(m:Nat) (s:Tn) (b:Bool),s∈zC n->cW ps i s b 0 (List.replicate m 0)=(zP s (enB e f b)).getD i 0*(2^m - 1)
 | 0,s,b,hs=>by simp[cW]
 | m+1,s,b,hs=>by
   have hp:=zPb hn ok M
   have pm:wI ps b 0∈ps:=iX hp
   have hc:(wI ps b 0).c=enB e f b/\zP (wI ps b 0).t (enB e f (b != (wI ps b 0).b))=enB e f b:=by
     cases b with
     | false =>
       have:wI ps false 0=ps.getD 0 p0:=rfl
       rw[this]
       refine⟨M.first.1,?_⟩
       rw[oK,Wh jb]
       exact M.first.2
     | true =>
       have:wI ps true 0=ps.getD (ps.length - 1) p0:=rfl
       rw[this]
       refine⟨M.last.1,?_⟩
       rw[oK,Qv rfl]
       exact M.last.2
   rw[Wl]
   unfold cW
   rw[zY6,zLC i m _ _ (zMI hn ok hs hp),ta hn ok M hs (ok.turn _ pm) (zXM M.ec M.fc _),hc.2,hc.1,En,Int.pow_succ]
   generalize(zP s (enB e f b)).getD i 0=g
   generalize(2:Int)^m=p
   rw[Int.mul_zero,Int.zero_add,Od,Od,←Int.mul_assoc]
   omega
theorem zGf (i:Nat):∀(m:Nat) (s:Tn) (b:Bool),s∈zC n->cW ps i s b 0 (List.replicate m (ps.length - 1))=(zP s (enB f e b)).getD i 0*(2^m - 1)
 | 0,s,b,hs=>by simp[cW]
 | m+1,s,b,hs=>by
   have hp:=zPb hn ok M
   have hq:ps.length - 1 < ps.length:=jc
   have pm:wI ps b (ps.length - 1)∈ps:=iX hq
   have hc:(wI ps b (ps.length - 1)).c=enB f e b/\zP (wI ps b (ps.length - 1)).t (enB f e (b != (wI ps b (ps.length - 1)).b))=enB f e b:=by
     cases b with
     | false =>
       have:wI ps false (ps.length - 1)=ps.getD (ps.length - 1) p0:=rfl
       rw[this]
       refine⟨M.last.1,?_⟩
       rw[oK,Wh jb]
       exact M.last.2
     | true =>
       have:wI ps true (ps.length - 1)=ps.getD 0 p0:=by
         unfold wI ixB
         rw[Qv rfl,show ps.length - 1 - (ps.length - 1)=0 by omega]
         rfl
       rw[this]
       refine⟨M.first.1,?_⟩
       rw[oK,Qv rfl]
       exact M.first.2
   rw[Wl]
   unfold cW
   rw[zY6,zGf i m _ _ (zMI hn ok hs hq),ta hn ok M hs (ok.turn _ pm) (zXM M.fc M.ec _),hc.2,hc.1,En,Int.pow_succ]
   generalize(zP s (enB f e b)).getD i 0=g
   generalize(2:Int)^m=p
   rw[Int.mul_zero,Int.zero_add,Od,Od,←Int.mul_assoc]
   omega
theorem zG2 {k:Nat}(hk:k+1 < ps.length)(b:Bool):∃i,zSs n i (wI ps b k).c (wI ps b (k+1)).c (zP (wI ps b k).t (enB f e (b != (wI ps b k).b))) (zP (wI ps b (k+1)).t (enB e f (b != (wI ps b (k+1)).b))):=by
 cases b with
 | false =>
   obtain⟨i,h⟩:=M.next k hk
   refine⟨i,?_⟩
   rw[oK,oK,Wh jb,Wh jb]
   exact h
 | true =>
   obtain⟨i,h1,h2,h3,h4,h5⟩:=M.next (ps.length - 1 - (k+1)) jc
   have e1:wI ps true k=ps.getD (ps.length - 1 - (k+1)+1) p0:=by
     unfold wI ixB
     rw[Qv rfl,show ps.length - 1 - (k+1)+1=ps.length - 1 - k by omega]
     rfl
   have e2:wI ps true (k+1)=ps.getD (ps.length - 1 - (k+1)) p0:=rfl
   refine⟨i,?_⟩
   rw[oK,oK,Qv rfl,Qv rfl,e1,e2]
   exact⟨h1,fun z=>h2 z.symm,h4,h3,fun j hj hji=>⟨(h5 j hj hji).1.symm,(h5 j hj hji).2.symm⟩⟩
def xY (ps:List Pt):Tn->Bool->List Nat->Tn×Bool
 | s,b,[]=>(s,b)
 | s,b,d::r=>xY ps (yC s (wI ps b d).t) (b != (wI ps b d).b) r
theorem zYO:∀(pre:List Nat) (s:Tn) (b:Bool),s∈zC n->(∀d∈pre,d < ps.length)->(xY ps s b pre).1∈zC n
 | [],s,b,hs,_=>hs
 | d::pre,s,b,hs,hd=>zYO pre _ _ (zMI hn ok hs (hd d Qf)) fun y hy=>hd y (Qa _ hy)
theorem zTV (i:Nat):∀(pre:List Nat) (s:Tn) (b:Bool) (x:Int) (r:List Nat),cW ps i s b x (pre++r)=cW ps i (xY ps s b pre).1 (xY ps s b pre).2 (cW ps i s b x pre) r
 | [],s,b,x,r=>rfl
 | d::pre,s,b,x,r=>zTV i pre _ _ _ r
theorem zIh (pre:List Nat)(k m:Nat)(hk:k+1 < ps.length)(hd:∀d∈pre,d < ps.length)(s:Tn)(b:Bool)(hs:s∈zC n) :
   ∃i,i < n/\(cW ps i s b 0 (pre++(k+1)::List.replicate m 0) - cW ps i s b 0 (pre++k::List.replicate m (ps.length - 1))=1∨cW ps i s b 0 (pre++(k+1)::List.replicate m 0) - cW ps i s b 0 (pre++k::List.replicate m (ps.length - 1)) = -1) /\
     ∀j,j < n->j≠i->cW ps j s b 0 (pre++(k+1)::List.replicate m 0)=cW ps j s b 0 (pre++k::List.replicate m (ps.length - 1)):=by
 have hs':=zYO hn ok M pre s b hs hd
 have hk0:k < ps.length:=jc
 obtain⟨i,ag⟩:=zG2 hn ok M hk (xY ps s b pre).2
 have p1:=ok.turn _ (iX (b:=(xY ps s b pre).2) hk0)
 have p2:=ok.turn _ (iX (b:=(xY ps s b pre).2) hk)
 have c1:=zKk hn ok (b:=(xY ps s b pre).2) hk0
 have c2:=zKk hn ok (b:=(xY ps s b pre).2) hk
 have x1:=zXM M.fc M.ec ((xY ps s b pre).2 != (wI ps (xY ps s b pre).2 k).b)
 have x2:=zXM M.ec M.fc ((xY ps s b pre).2 != (wI ps (xY ps s b pre).2 (k+1)).b)
 obtain⟨j,hj,g1,g2,g3,g4⟩:=zJ2 hn hs' c1 c2 (jI hn _ p1 _ x1) (jI hn _ p2 _ x2) ag
 have val:∀a:Nat,cW ps a s b 0 (pre++(k+1)::List.replicate m 0)=(2*cW ps a s b 0 pre+(zP (xY ps s b pre).1 (wI ps (xY ps s b pre).2 (k+1)).c).getD a 0)*2^m+(zP (xY ps s b pre).1 (zP (wI ps (xY ps s b pre).2 (k+1)).t (enB e f ((xY ps s b pre).2 != (wI ps (xY ps s b pre).2 (k+1)).b)))).getD a 0*(2^m - 1):=fun a=>by
   rw[zTV hn ok M a pre]
   show cW ps a _ _ _ (List.replicate m 0)=_
   rw[zY6,zLC hn ok M a m _ _ (zMI hn ok hs' hk),ta hn ok M hs' p2 x2,En]
 have val':∀a:Nat,cW ps a s b 0 (pre++k::List.replicate m (ps.length - 1))=(2*cW ps a s b 0 pre+(zP (xY ps s b pre).1 (wI ps (xY ps s b pre).2 k).c).getD a 0)*2^m+(zP (xY ps s b pre).1 (zP (wI ps (xY ps s b pre).2 k).t (enB f e ((xY ps s b pre).2 != (wI ps (xY ps s b pre).2 k).b)))).getD a 0*(2^m - 1):=fun a=>by
   rw[zTV hn ok M a pre]
   show cW ps a _ _ _ (List.replicate m (ps.length - 1))=_
   rw[zY6,zGf hn ok M a m _ _ (zMI hn ok hs' hk0),ta hn ok M hs' p1 x1,En]
 have b1:=lA hn (jI hn _ hs' _ c1)
 have b2:=lA hn (jI hn _ hs' _ c2)
 refine⟨j,hj,?_,fun a ha haj=>?_⟩
 · rw[val j,val' j,g2,g3]
   have u1:=b1 j
   have u2:=b2 j
   generalize(zP (xY ps s b pre).1 (wI ps (xY ps s b pre).2 (k+1)).c).getD j 0=u at *
   generalize(zP (xY ps s b pre).1 (wI ps (xY ps s b pre).2 k).c).getD j 0=v at *
   generalize cW ps j s b 0 pre=w
   generalize(2:Int)^m=p
   rcases u1 with rfl | rfl<;>rcases u2 with rfl | rfl
   · exact absurd rfl g1
   · left
     rw[Uw,Uw]
     omega
   · right
     rw[Uw,Uw]
     omega
   · exact absurd rfl g1
 · obtain⟨q1,q2⟩:=g4 a ha haj
   rw[val a,val' a,q1,q2]
end
def aI (i:Int):Int:=if i < 0 then -i else i
def dst (xs ys:List Int):Int:=(List.zipWith (fun a b=>aI (a - b)) xs ys).sum
def zHz (a b:Int):aI (a - b)=aI (b - a):=by unfold aI;split<;>split<;>omega
def zOX:∀xs ys:List Int,dst xs ys=dst ys xs
 | [],[]=>rfl
 | [],_::_=>rfl
 | _::_,[]=>rfl
 | x::xs,y::ys=>by
   have:=zOX xs ys
   unfold dst at this ⊢
   rw[Uo,Uo,Rz,Rz,this,zHz]
theorem zKv {n:Nat}(hn:n=2∨n=3):∀xs ys:List Int,xs.length=n->ys.length=n->mG [yX xs,yX ys]=some (.bl (decide (dst xs ys=1))):=by
 rcases hn with rfl | rfl
 · intro xs ys hx hy
   match xs,ys,hx,hy with
   | [a,b],[c,d],_,_=>kernel_rfl
 · intro xs ys hx hy
   match xs,ys,hx,hy with
   | [a,b,e],[c,d,f],_,_=>kernel_rfl
def zWW {x:Int}(h:x=1∨x = -1):aI x=1:=by rcases h with rfl | rfl<;>rfl
def cU {x y:Int}(h:x=y):aI (x - y)=0:=by rw[h,Int.sub_self];rfl
def zNG {n:Nat}(hn:n=2∨n=3)(f g:Nat->Int){i:Nat}(hi:i < n)(h1:f i - g i=1∨f i - g i = -1)(h2:∀j,j < n->j≠i->f j=g j):dst ((List.range n).map f) ((List.range n).map g)=1:=by
 rcases hn with rfl | rfl
 · show aI (f 0 - g 0)+(aI (f 1 - g 1)+0)=1
   match i,hi with
   | 0,_=>rw[zWW h1,cU (h2 1 jb jb)];rfl
   | 1,_=>rw[zWW h1,cU (h2 0 jb jb)];rfl
 · show aI (f 0 - g 0)+(aI (f 1 - g 1)+(aI (f 2 - g 2)+0))=1
   match i,hi with
   | 0,_=>rw[zWW h1,cU (h2 1 jb jb),cU (h2 2 jb jb)];rfl
   | 1,_=>rw[zWW h1,cU (h2 0 jb jb),cU (h2 2 jb jb)];rfl
   | 2,_=>rw[zWW h1,cU (h2 0 jb jb),cU (h2 1 jb jb)];rfl
end My
noncomputable section
namespace My
open PySem L2
def pig {α:Type}:∀(l m:List α),l.Nodup->(∀x∈l,x∈m)->l.length<=m.length
 | [],m,_,_=>Th _
 | a::t,m,nd,h=>by
   obtain⟨m1,m2,rfl⟩:=List.append_of_mem (h a Qf)
   obtain⟨na,nt⟩:=Yp.mp nd
   have:=pig t (m1++m2) nt fun x hx=>by
     have hm:=h x (Qa _ hx)
     rcases Eu.mp hm with z | z
     · exact Ux _ z
     · rcases Qh.mp z with rfl | z
       · exact absurd hx na
       · exact Ea _ z
   simp only[Qk,Qo] at this ⊢
   omega
def kP (p:Int×Int):KT:=.tup [.int p.1,.int p.2]
def kS (t:Tn)(b:Bool):KT:=.tup [.tup (t.map kP),.int (if b then 1 else 0)]
def zVP (x y:Tn×Bool):KT:=.tup [kS x.1 x.2,kS y.1 y.2]
def zPd (n:Nat)(i:Int):ktD n (.int i)=some (.int i):=by cases n<;>rfl
def zGz (n:Nat)(p:Int×Int):ktD (n+1) (iM p)=some (kP p):=by
 show(zYS (ktD n) [.int p.1,.int p.2]).map KT.tup=_
 rw[zYS,zPd,Qq,zYS,zPd]
 rfl
def zR3 (n:Nat):∀t:Tn,zYS (ktD (n+1)) (t.map iM)=some (t.map kP)
 | []=>rfl
 | p::r=>by
   rw[Qu,Qu,zYS,zR3 n r,zGz]
   rfl
def zSE (n:Nat)(t:Tn)(b:Bool):ktD (n+3) (stD t b)=some (kS t b):=by
 unfold stD
 show((((zYS (ktD (n+1)) (t.map iM)).map KT.tup).bind fun k=>_).map KT.tup)=_
 rw[zR3 n t]
 rfl
def zH0 (x y:Tn×Bool):zLx (.tup [stD x.1 x.2,stD y.1 y.2])=some (zVP x y):=by
 show((((ktD 7 (stD x.1 x.2)).bind fun k=>((ktD 7 (stD y.1 y.2)).bind fun k=>(some []).map _).map _)).map KT.tup)=_
 rw[zSE 4,zSE 4]
 rfl
def sts (n:Nat):List (Tn×Bool):=(zC n).flatMap fun t=>[(t,false),(t,true)]
def zQO (n:Nat):List KT:=(sts n).flatMap fun x=>(sts n).map fun y=>zVP x y
def zPi {n:Nat}{t:Tn}(h:t∈zC n)(b:Bool):(t,b)∈sts n:=Tg.mpr ⟨t,h,by cases b<;>simp⟩
def zMh {n:Nat}{x y:Tn×Bool}(hx:x∈sts n)(hy:y∈sts n):zVP x y∈zQO n:=Tg.mpr ⟨x,hx,Wj.mpr ⟨y,hy,rfl⟩⟩
def zRt {n:Nat}(hn:n=2∨n=3):(zQO n).length<=9216:=by
 rcases hn with rfl | rfl
 · have:(zQO 2).length<=9216:=by decide +kernel
   exact this
 · have:(zQO 3).length<=9216:=by decide +kernel
   exact this
section
variable {n:Nat} (hn:n=2∨n=3) {ps:List Pt} (ok:PtsOk n ps) {e f:List Int} (M:Mt n ps e f) (j:Bool)
def wS (ps:List Pt)(n:Nat)(pre:List Nat):Tn×Bool:=xY ps (qP n) false pre
def wP (ps:List Pt)(n:Nat)(pre:List Nat):List Int:=(List.range n).map fun i=>cW ps i (qP n) false 0 pre
theorem zKd (pre:List Nat)(d:Nat):wS ps n (pre++[d])=(yC (wS ps n pre).1 (wI ps (wS ps n pre).2 d).t,(wS ps n pre).2 != (wI ps (wS ps n pre).2 d).b):=by
 unfold wS
 have:∀(pre:List Nat) (s:Tn) (b:Bool),xY ps s b (pre++[d])=(yC (xY ps s b pre).1 (wI ps (xY ps s b pre).2 d).t,(xY ps s b pre).2 != (wI ps (xY ps s b pre).2 d).b):=by
   intro pre
   induction pre with
   | nil=>intro s b;rfl
   | cons x r ih=>intro s b;exact ih _ _
 exact this pre _ _
include hn ok M
theorem zOI (pre:List Nat)(d:Nat):wP ps n (pre++[d])=(List.range n).map fun i=>2*cW ps i (qP n) false 0 pre+(zP (wS ps n pre).1 (wI ps (wS ps n pre).2 d).c).getD i 0:=by
 unfold wP
 refine Tq fun i _=>?_
 rw[zTV hn ok M i pre]
 rfl
theorem zW2 {pre:List Nat}(hd:∀d∈pre,d < ps.length):(wS ps n pre).1∈zC n:=zYO hn ok M pre _ _ (zUX hn) hd
theorem bZ {pre:List Nat}(hd:∀d∈pre,d < ps.length){d:Nat}(hk:d < ps.length):uL [zA wN n j ps,stD (wS ps n pre).1 (wS ps n pre).2,.int (d:Nat)]=some (.tup [yX (zP (wS ps n pre).1 (wI ps (wS ps n pre).2 d).c),stD (wS ps n (pre++[d])).1 (wS ps n (pre++[d])).2]):=by
 have e1:=zK3 (wN:=wN) hn ok (zW2 hn ok M hd) (wS ps n pre).2 j hk
 rw[zON hk] at e1
 rw[e1,zKd]
 rfl
theorem zVa {pre:List Nat}(hd:∀d∈pre,d < ps.length){d:Nat}(hk:d < ps.length):qK [yX (wP ps n pre),yX (zP (wS ps n pre).1 (wI ps (wS ps n pre).2 d).c)]=some (yX (wP ps n (pre++[d]))):=by
 rw[zOI hn ok M]
 exact zK4 hn ok _ _ (uD hn _ (jI hn _ (zW2 hn ok M hd) _ (zKk hn ok (b:=(wS ps n pre).2) hk)))
theorem zYz {k:Nat}(hk:k < ps.length):zP (wS ps n []).1 (wI ps (wS ps n []).2 k).c=wP ps n [k]:=by
 have h:=zOI hn ok M [] k
 rw[Ws] at h
 rw[h]
 have hl:=uD hn _ (jI hn _ (zW2 hn ok M (pre:=[]) jd) _ (zKk hn ok (b:=(wS ps n []).2) hk))
 generalize zP (wS ps n []).1 (wI ps (wS ps n []).2 k).c=c at hl
 rcases hn with rfl | rfl
 · match c,hl with
   | [a,b],_=>simp[List.range,List.range.loop,cW]
 · match c,hl with
   | [a,b,e],_=>simp[List.range,List.range.loop,cW]
theorem zK7 (k m:Nat)(hk:k+1 < ps.length):dst (wP ps n (k::List.replicate m (ps.length - 1))) (wP ps n ((k+1)::List.replicate m 0))=1:=by
 obtain⟨i,hi,h1,h3⟩:=zIh hn ok M [] k m hk jd (qP n) false (zUX hn)
 rw[zOX]
 exact zNG hn _ _ hi h1 h3
def zPX:Sf:=(zQ (sIf (zTP 8 (yT (zY (eV 4) (zY (eV 6) zR)))) (yM (eC .non)) xQ)
   (zQ (zYt 8 (yT (zY (eV 4) (zY (eV 6) zR))) (eC (.bl true)))
   (zQ (lE (zN 3 uL (zY (eV 0) (zY (eV 4) (zY (rB (wT (yB "Curve" "parts" (eV 0))) jm) zR)))) (gT (zM (gN 9) (zM (gN 4) xI))))
   (zQ (yK 3 (zN 2 qK (zY (eV 3) (zY (eV 9) zR))))
   (zQ (lE (zN 3 uL (zY (eV 0) (zY (eV 6) (zY jl zR)))) (gT (zM (gN 9) (zM (gN 6) xI))))
   (zQ (yK 5 (zN 2 qK (zY (eV 5) (zY (eV 9) zR))))
   (yK 7 (uU (eV 7) jm))))))))
theorem zGU:gJ=zQ (pS (tB1 (zN 2 mG (zY (eV 3) (zY (eV 5) zR)))) zPX 10000) zZ6:=rfl
def zI5 (wN:Str)(n:Nat)(j:Bool)(ps:List Pt)(k m:Nat)(x1 x2:B)(lv:Int)(j8:List (D×D))(x9:D)(o9:Bool):List B :=
 [.fz (zA wN n j ps),x1,x2,.fz (yX (wP ps n (k::List.replicate m (ps.length - 1)))),.fz (stD (wS ps n (k::List.replicate m (ps.length - 1))).1 (wS ps n (k::List.replicate m (ps.length - 1))).2),
   .fz (yX (wP ps n ((k+1)::List.replicate m 0))),.fz (stD (wS ps n ((k+1)::List.replicate m 0)).1 (wS ps n ((k+1)::List.replicate m 0)).2),.fz (.int lv),.od j8,if o9 then .fz x9 else .no]
theorem zXi {k:Nat}(hk:k+1 < ps.length)(d1 d2:D):∀(fuel m:Nat) (lv:Int) (j8:List (D×D)) (ks:List KT) (x9:D) (o9:Bool),(j8.map fun p=>ktD 8 p.1)=ks.map some->ks.Nodup->(∀x∈ks,x∈zQO n)->9216 < ks.length+fuel ->
   pS (tB1 (zN 2 mG (zY (eV 3) (zY (eV 5) zR)))) zPX fuel (zI5 wN n j ps k m (.fz d1) (.fz d2) lv j8 x9 o9)=some (.rt .non)
 | 0,m,lv,j8,ks,x9,o9,h1,h2,h3,h4=>by
   have:=pig ks (zQO n) h2 h3
   have:=zRt hn
   omega
 | fuel+1,m,lv,j8,ks,x9,o9,h1,h2,h3,h4=>by
   have hB:0 < ps.length:=jc
   have hlast:ps.length - 1 < ps.length:=jc
   have hdE:∀d∈k::List.replicate m (ps.length - 1),d < ps.length:=fun d hd=>by
     rcases Qh.mp hd with rfl | hd
     · omega
     · rw[List.eq_of_mem_replicate hd];exact hlast
   have hdS:∀d∈(k+1)::List.replicate m 0,d < ps.length:=fun d hd=>by
     rcases Qh.mp hd with rfl | hd
     · exact hk
     · rw[List.eq_of_mem_replicate hd];exact hB
   have near:=zK7 hn ok M k m hk
   have nx:=zKv hn (wP ps n (k::List.replicate m (ps.length - 1))) (wP ps n ((k+1)::List.replicate m 0)) (by simp[wP]) (by simp[wP])
   rw[near,Qp rfl] at nx
   have p1:=bZ (wN:=wN) hn ok M j hdE hlast
   have p2:=zVa hn ok M hdE hlast
   have p3:=bZ (wN:=wN) hn ok M j hdS hB
   have p4:=zVa hn ok M hdS hB
   have r1:k::List.replicate m (ps.length - 1)++[ps.length - 1]=k::List.replicate (m+1) (ps.length - 1):=by rw[List.replicate_succ',Re]
   have r2:(k+1)::List.replicate m 0++[0]=(k+1)::List.replicate (m+1) 0:=by rw[List.replicate_succ',Re]
   have tE:=zPi (zW2 hn ok M hdE) (wS ps n (k::List.replicate m (ps.length - 1))).2
   have tS:=zPi (zW2 hn ok M hdS) (wS ps n ((k+1)::List.replicate m 0)).2
   have hkey:=zH0 (wS ps n (k::List.replicate m (ps.length - 1))) (wS ps n ((k+1)::List.replicate m 0))
   have hin:=zMh tE tS
   have mem:some (zVP (wS ps n (k::List.replicate m (ps.length - 1))) (wS ps n ((k+1)::List.replicate m 0)))∈(j8.map fun p=>ktD 8 p.1)↔zVP (wS ps n (k::List.replicate m (ps.length - 1))) (wS ps n ((k+1)::List.replicate m 0))∈ks:=by
     rw[h1]
     constructor
     · intro z;obtain⟨x,hx,e⟩:=Wj.mp z;cases e;exact hx
     · intro z;exact Wj.mpr ⟨_,z,rfl⟩
   have hlk:j8.length=ks.length:=by
     have:=Eo List.length h1
     simpa using this
   have hle:=Ep (pig ks (zQO n) h2 h3) (zRt hn)
   have ih:=zXi (wN:=wN) hk d1 d2 fuel (m+1) (lv+1)
   unfold zI5 at ih ⊢
   rw[r1] at p1 p2
   rw[r2] at p3 p4
   generalize wP ps n (k::List.replicate m (ps.length - 1))=a3 at *
   generalize hw4:wS ps n (k::List.replicate m (ps.length - 1))=a4 at *
   generalize wP ps n ((k+1)::List.replicate m 0)=a5 at *
   generalize hw6:wS ps n ((k+1)::List.replicate m 0)=a6 at *
   rw[pS]
   have tst:tB1 (zN 2 mG (zY (eV 3) (zY (eV 5) zR))) [.fz (zA wN n j ps),.fz d1,.fz d2,.fz (yX a3),.fz (stD a4.1 a4.2),.fz (yX a5),.fz (stD a6.1 a6.2),.fz (.int lv),.od j8,if o9 then .fz x9 else .no]=some true:=by
     unfold tB1;rw[vD rfl rfl,nx];rfl
   rw[tst,Qq,Qv rfl]
   have tin:zTP 8 (yT (zY (eV 4) (zY (eV 6) zR))) [.fz (zA wN n j ps),.fz d1,.fz d2,.fz (yX a3),.fz (stD a4.1 a4.2),.fz (yX a5),.fz (stD a6.1 a6.2),.fz (.int lv),.od j8,if o9 then .fz x9 else .no]=some (decide (some (zVP a4 a6)∈j8.map fun p=>ktD 8 p.1)):=by
     unfold zTP
     show((some (D.tup [stD a4.1 a4.2,stD a6.1 a6.2])).bind fun d=>_)=_
     rw[Qq,hkey]
     rfl
   unfold zPX
   by_cases hm:zVP a4 a6∈ks
   · rw[zZe (d:=.non) ((rZ tin).trans (by rw[Qp (mem.mpr hm)];rfl))]
     rfl
   · have hm':some (zVP a4 a6)∉j8.map fun p=>ktD 8 p.1:=fun z=>hm (mem.mp z)
     rw[yE ((rZ tin).trans (by rw[Qb hm'];rfl))]
     have sd:zYt 8 (yT (zY (eV 4) (zY (eV 6) zR))) (eC (.bl true)) [.fz (zA wN n j ps),.fz d1,.fz d2,.fz (yX a3),.fz (stD a4.1 a4.2),.fz (yX a5),.fz (stD a6.1 a6.2),.fz (.int lv),.od j8,if o9 then .fz x9 else .no]=some (.nx [.fz (zA wN n j ps),.fz d1,.fz d2,.fz (yX a3),.fz (stD a4.1 a4.2),.fz (yX a5),.fz (stD a6.1 a6.2),.fz (.int lv),.od (j8++[(.tup [stD a4.1 a4.2,stD a6.1 a6.2],.bl true)]),if o9 then .fz x9 else .no]):=by
       unfold zYt
       show((some (D.bl true)).bind fun e=>((some (D.tup [stD a4.1 a4.2,stD a6.1 a6.2])).bind fun d=>_))=_
       rw[Qq,Qq,hkey,Qq]
       show(if j8.length<=lim/\_/\_ then _ else none)=_
       rw[Qv ⟨show j8.length<=100000 by omega,by cases o9<;>rfl,hm'⟩]
       rfl
     rw[yE sd]
     have hlp:∀ρ,eV 0 ρ=some (zA wN n j ps)->rB (wT (yB "Curve" "parts" (eV 0))) jm ρ=some (.int ((ps.length - 1:Nat):Nat)):=fun ρ h=>by
       rw[show((ps.length - 1:Nat):Int)=(ps.length:Int) - 1 by omega]
       exact yZ (zVo h) rfl rfl
     rw[yE (ρ':=[.fz (zA wN n j ps),.fz d1,.fz d2,.fz (yX a3),.fz (stD (wS ps n (k::List.replicate (m+1) (ps.length - 1))).1 (wS ps n (k::List.replicate (m+1) (ps.length - 1))).2),.fz (yX a5),.fz (stD a6.1 a6.2),.fz (.int lv),.od (j8++[(.tup [stD a4.1 a4.2,stD a6.1 a6.2],.bl true)]),.fz (yX (zP a4.1 (wI ps a4.2 (ps.length - 1)).c))]) (by
       unfold lE
       rw[eB rfl rfl (hlp _ rfl),p1]
       cases o9<;>rfl)]
     rw[pO ((vD rfl rfl).trans p2)]
     dsimp only[List.set]
     rw[yE (ρ':=[.fz (zA wN n j ps),.fz d1,.fz d2,.fz (yX (wP ps n (k::List.replicate (m+1) (ps.length - 1)))),.fz (stD (wS ps n (k::List.replicate (m+1) (ps.length - 1))).1 (wS ps n (k::List.replicate (m+1) (ps.length - 1))).2),.fz (yX a5),.fz (stD (wS ps n ((k+1)::List.replicate (m+1) 0)).1 (wS ps n ((k+1)::List.replicate (m+1) 0)).2),.fz (.int lv),.od (j8++[(.tup [stD a4.1 a4.2,stD a6.1 a6.2],.bl true)]),.fz (yX (zP a6.1 (wI ps a6.2 0).c))]) (by
       unfold lE
       rw[eB rfl rfl (show eC (.int 0) _=some (.int ((0:Nat):Nat)) from rfl),p3]
       rfl)]
     rw[pO ((vD rfl rfl).trans p4)]
     dsimp only[List.set]
     have last:yK 7 (uU (eV 7) jm) [.fz (zA wN n j ps),.fz d1,.fz d2,.fz (yX (wP ps n (k::List.replicate (m+1) (ps.length - 1)))),.fz (stD (wS ps n (k::List.replicate (m+1) (ps.length - 1))).1 (wS ps n (k::List.replicate (m+1) (ps.length - 1))).2),.fz (yX (wP ps n ((k+1)::List.replicate (m+1) 0))),.fz (stD (wS ps n ((k+1)::List.replicate (m+1) 0)).1 (wS ps n ((k+1)::List.replicate (m+1) 0)).2),.fz (.int lv),.od (j8++[(.tup [stD a4.1 a4.2,stD a6.1 a6.2],.bl true)]),.fz (yX (zP a6.1 (wI ps a6.2 0).c))]=some (.nx [.fz (zA wN n j ps),.fz d1,.fz d2,.fz (yX (wP ps n (k::List.replicate (m+1) (ps.length - 1)))),.fz (stD (wS ps n (k::List.replicate (m+1) (ps.length - 1))).1 (wS ps n (k::List.replicate (m+1) (ps.length - 1))).2),.fz (yX (wP ps n ((k+1)::List.replicate (m+1) 0))),.fz (stD (wS ps n ((k+1)::List.replicate (m+1) 0)).1 (wS ps n ((k+1)::List.replicate (m+1) 0)).2),.fz (.int (lv+1)),.od (j8++[(.tup [stD a4.1 a4.2,stD a6.1 a6.2],.bl true)]),.fz (yX (zP a6.1 (wI ps a6.2 0).c))]):=rfl
     rw[last,Qq]
     refine ih (j8++[(.tup [stD a4.1 a4.2,stD a6.1 a6.2],.bl true)]) (ks++[zVP a4 a6]) (yX (zP a6.1 (wI ps a6.2 0).c)) true ?_ ?_ ?_ ?_
     · rw[Wt,Wt,h1]
       show _++[ktD 8 (.tup [stD a4.1 a4.2,stD a6.1 a6.2])]=_
       rw[show ktD 8 (.tup [stD a4.1 a4.2,stD a6.1 a6.2])=some (zVP a4 a6) from hkey]
       rfl
     · exact Tp.mpr ⟨h2,jd,fun x hx y hy=>by rw[Wm] at hy;subst hy;intro z;exact hm (z ▸ hx)⟩
     · intro x hx
       rcases Eu.mp hx with z | z
       · exact h3 x z
       · rw[Wm.mp z];exact hin
     · rw[Qk,Ey];omega
theorem zLU {k:Nat}(hk:k+1 < ps.length):iK [zA wN n j ps,.int (k:Nat)]=some .non:=by
 have e0:=zM8 hn
 have p1:=bZ (wN:=wN) hn ok M j (pre:=[]) jd (show k < ps.length by omega)
 have p2:=bZ (wN:=wN) hn ok M j (pre:=[]) jd hk
 rw[zYz hn ok M (show k < ps.length by omega)] at p1
 rw[zYz hn ok M hk] at p2
 have lp:=zXi (wN:=wN) hn ok M j hk (.int (k:Nat)) (stD (qP n) false) 10000 0 1 [] [] (.non) false rfl List.nodup_nil jd jd
 show(mY [.fz (zA wN n j ps),.fz (.int (k:Nat)),.no,.no,.no,.no,.no,.no,.no,.no]).bind xR=_
 unfold mY
 refine wR ((sH (zLo (wN:=wN) (n:=n) (j:=j) (ps:=ps) rfl)).trans e0) ?_
 unfold fS
 refine xZ (ρ':=[.fz (zA wN n j ps),.fz (.int (k:Nat)),.fz (stD (qP n) false),.fz (yX (wP ps n [k])),.fz (stD (wS ps n [k]).1 (wS ps n [k]).2),.no,.no,.no,.no,.no]) (by
   unfold lE
   rw[eB rfl rfl rfl,show uL [zA wN n j ps,stD (qP n) false,.int (k:Nat)]=_ from p1]
   rfl) ?_
 unfold fO
 refine xZ (ρ':=[.fz (zA wN n j ps),.fz (.int (k:Nat)),.fz (stD (qP n) false),.fz (yX (wP ps n [k])),.fz (stD (wS ps n [k]).1 (wS ps n [k]).2),.fz (yX (wP ps n [k+1])),.fz (stD (wS ps n [k+1]).1 (wS ps n [k+1]).2),.no,.no,.no]) (by
   unfold lE
   rw[eB (z:=.int ((k+1:Nat):Nat)) rfl rfl (by rw[show((k+1:Nat):Int)=(k:Int)+1 by omega];exact yZ rfl rfl rfl),show uL [zA wN n j ps,stD (qP n) false,.int ((k+1:Nat):Nat)]=_ from p2]
   rfl) ?_
 unfold gU
 refine wR (d:=.int 1) rfl ?_
 unfold gQ
 refine xZ (ρ':=zI5 wN n j ps k 0 (.fz (.int (k:Nat))) (.fz (stD (qP n) false)) 1 [] .non false) rfl ?_
 rw[zGU hn ok M,zZe lp]
 rfl
theorem zUY:∀(m:Nat) (x0:B),vL (gN 0) (eB2 lX (eV 0) (eC .non)) (eV 0) (List.replicate m .non) [x0] []=some []
 | 0,_=>rfl
 | m+1,x0=>by
   rw[Wl]
   show vL (gN 0) (eB2 lX (eV 0) (eC .non)) (eV 0) (List.replicate m .non) [.fz .non] []=some []
   exact zUY m _
theorem zQZ:mX [zA wN n j ps]=some .non:=by
 have hs:=ok.small hn
 have hB:0 < ps.length:=by rw[ok.len];exact Nat.pow_pos jb
 have src:iR (rB (wT (yB "Curve" "parts" (eV 0))) jm) [.fz (zA wN n j ps),.no,.no]=some (tD 0 (ps.length - 1)):=by
   have e:rB (wT (yB "Curve" "parts" (eV 0))) jm [.fz (zA wN n j ps),.no,.no]=some (.int ((ps.length - 1:Nat):Nat)):=by
     rw[show((ps.length - 1:Nat):Int)=(ps.length:Int) - 1 by omega]
     exact yZ (zVo (wN:=wN) (n:=n) (j:=j) (ps:=ps) rfl) rfl rfl
   unfold iR
   rw[e,Qq]
   show(if decide (-1000000<=((ps.length - 1:Nat):Int))&&decide (((ps.length - 1:Nat):Int)<=1000000) then some (tD 0 ((ps.length - 1:Nat):Int).toNat) else none)=_
   rw[Qp jc,Qp jc,Rs]
   rfl
 have comp:yN (iR (rB (wT (yB "Curve" "parts" (eV 0))) jm)) 1 [0] (gN 0) tOK (zN 2 iK (zY (eV 1) (zY (eV 0) zR))) [.fz (zA wN n j ps),.no,.no]=some (List.replicate (ps.length - 1) .non):=by
   unfold yN
   rw[src,Qq,uM (by rw[tT];omega),Qq]
   show vL (gN 0) tOK _ _ [.no,.fz (zA wN n j ps)] []=_
   rw[zRz (h:=fun _=>.non)]
   · rw[Ws,List.map_const',tT]
   · intro d hd
     obtain⟨i,hi,rfl⟩:=jA hd
     refine(vD rfl rfl).trans ?_
     rw[show(0:Int)+(i:Nat)=(i:Nat) by omega]
     exact zLU hn ok M j jc
 show(qZ [.fz (zA wN n j ps),.no,.no]).bind xR=_
 unfold qZ
 refine xZ (ρ':=[.fz (zA wN n j ps),.ow (List.replicate (ps.length - 1) .non),.no]) (by unfold uO;rw[comp];rfl) ?_
 unfold lJ
 refine xZ (ρ':=[.fz (zA wN n j ps),.fz (.lst (List.replicate (ps.length - 1) .non)),.fz .non]) ?_ rfl
 show yK 2 (zR0 (yN (iL (eV 1)) 1 [] (gN 0) (eB2 lX (eV 0) (eC .non)) (eV 0))) [.fz (zA wN n j ps),.fz (.lst (List.replicate (ps.length - 1) .non)),.no]=_
 have e2:yN (iL (eV 1)) 1 [] (gN 0) (eB2 lX (eV 0) (eC .non)) (eV 0) [.fz (zA wN n j ps),.fz (.lst (List.replicate (ps.length - 1) .non)),.no]=some []:=by
   unfold yN
   show((okL (List.replicate (ps.length - 1) .non)).bind fun ds=>vL (gN 0) _ _ ds [.no] [])=_
   rw[uM (by rw[En];omega),Qq]
   exact zUY hn ok M _ _
 unfold yK zR0
 rw[e2]
 rfl
theorem zOr:oE [zA wN n j ps]=some (zA wN n j ps):=by
 have me:=zQZ (wN:=wN) hn ok M j
 have e:eIf (tB1 (yB "Curve" "joined" (eV 0))) (zN 1 mX (zY (eV 0) zR)) (eC .non) [.fz (zA wN n j ps),.no,.no,.no]=some .non:=by
   have t:tB1 (yB "Curve" "joined" (eV 0)) [.fz (zA wN n j ps),.no,.no,.no]=some j:=rfl
   unfold eIf
   rw[t,Qq]
   cases j with
   | true=>rw[Qv rfl];exact(sH rfl).trans me
   | false=>rfl
 show(hU [.fz (zA wN n j ps),.no,.no,.no]).bind xR=_
 unfold hU
 refine wR e ?_
 rfl
end
def zVn:∀(ps:List Pt) (x0:B) (j7:List D),vL (gN 0) tOK (yT (zY (yB "Part" "corner" (eV 0)) (zY (yB "Part" "turn" (eV 0)) (zY (yB "Part" "back" (eV 0)) zR)))) (ps.map yF) [x0] j7=some (j7++ps.map xO)
 | [],_,j7=>by simp[vL]
 | p::r,x0,j7=>by
   rw[Qu]
   unfold vL
   have e1:gN 0 (yF p) [x0]=some [.fz (yF p)]:=rfl
   have e2:tOK [.fz (yF p)]=some true:=rfl
   rw[e1,Qq,e2,Qq,Qv rfl,zMm (zXw [.fz (yF p)] (eV 0) p rfl) (zMH [.fz (yF p)] (eV 0) p rfl) (zKJ [.fz (yF p)] (eV 0) p rfl),Qq,zVn r]
   simp[xO]
end My
end
namespace My
open PySem L2
def zU6 {self:jv}{d:D}{ds:List D}(hd:∀i:Nat,i < ds.length->atD d (.int (0+(i:Nat)))=ds[i]?)(hl:zPH d=some (.int ds.length))(hz:ds.length<=1000)(hs:∀x∈ds,self [x,x]=some (.bl true)) :
   (qT self [.fz d,.fz d,.no]).bind xR=some (.bl true):=by
 have c1:decide (-1000000<=((ds.length:Nat):Int))=true:=Qp jc
 have c2:decide (((ds.length:Nat):Int)<=1000000)=true:=Qp jc
 have src:iR (wT (eV 1)) [.fz d,.fz d,.no]=some (tD 0 ds.length):=by
   simp only[iR,wT,eV,rG,Qm,Qx,Qq,hl,c1,c2,Ym,Rt]
   rfl
 obtain⟨ρ',e,x2,rfl⟩:=zSb (g:=gN 2) (body:=oN self) (P:=fun ρ=>∃x2,ρ=[.fz d,.fz d,x2]) (tD 0 ds.length) (fun y hy ρ hρ=>by
     obtain⟨i,hi,rfl⟩:=jA hy
     obtain⟨x2,rfl⟩:=hρ
     refine⟨[.fz d,.fz d,.fz (.int (0+(i:Nat)))],[.fz d,.fz d,.fz (.int (0+(i:Nat)))],rfl,?_,_,rfl⟩
     have a:=hd i hi
     rw[Qi hi] at a
     have b:=hs _ (Rj hi)
     simp only[oN,sIf,tU,tB1,zN,zY,zR,eIx,eV,rG,xQ,Qm,Qx,Qq,Wq,Qo,Eh,Rt,a,b,Yu,Wg,Rp]) [.fz d,.fz d,.no] ⟨_,rfl⟩
 have es:pQ (iR (wT (eV 1))) (gN 2) (oN self) [.fz d,.fz d,.no]=some (.nx [.fz d,.fz d,x2]):=by
   unfold pQ;rw[src,Qq];exact e
 have q1:=fun r hk=>xZ (g:=zZQ self) (r:=r) es hk
 refine q1 _ ?_
 rfl
def cC:∀(n:Nat) (d:D),okS n d=true->yH n [d,d]=some (.bl true)
 | 0,_,h=>by unfold okS at h;cases h
 | n+1,d,h=>by
   have ih:=cC n
   cases d with
   | non=>rfl
   | bl b=>cases b<;>rfl
   | int i =>
     have g:gEq (.int i) (.int i)=some true:=by show some (decide (i=i))=_;rw[Qp rfl]
     show((w6 (yH n)) [.fz (.int i),.fz (.int i),.no]).bind xR=_
     simp only[w6,sU,sN,sJ,zQ,sIf,xQ,yM,eB2,eR,oH,eV,eC,rG,tB1,pK,isInt,cP,zZa,uZ,tU,Qm,Qx,Qq,Wq,g,Rt,Wg,Rp,Um,xR]
   | str i =>
     have g:gEq (.str i) (.str i)=some true:=by show some (decide (i=i))=_;rw[Qp rfl]
     show((w6 (yH n)) [.fz (.str i),.fz (.str i),.no]).bind xR=_
     simp only[w6,sU,sN,sJ,qY,zQ,sIf,xQ,yM,eB2,eR,oH,eV,eC,rG,tB1,pK,isInt,eZ,zZa,uZ,Qm,Qx,Qq,Wq,g,Rt,Wg,Rp,xR]
   | tup ds =>
     unfold okS at h
     rw[Qc] at h
     have hz:=Wn h.1
     have g:gNe (.int (ds.length:Nat)) (.int (ds.length:Nat))=some false:=by show(some (decide _)).map _=_;rw[Qp rfl];rfl
     have r:yH (n+1) [.tup ds,.tup ds]=(qT (yH n) [.fz (.tup ds),.fz (.tup ds),.no]).bind xR:=by
       show((w6 (yH n)) [.fz (.tup ds),.fz (.tup ds),.no]).bind xR=_
       simp only[w6,sU,sN,sJ,qY,mL,mQ,nO,zQ,sIf,xQ,yM,eB2,eR,oH,eV,eC,rG,tB1,nU,tU,pK,isInt,eZ,aZ,rX,wT,zPH,Qm,Qx,Qq,Wq,g,Rt,Wg,Rp,Yu]
     rw[r]
     refine zU6 (ds:=ds) (fun i hi=>?_) rfl hz fun x hx=>?_
     · show atI ds _=_
       rw[show(0:Int)+((i:Nat):Int)=((i:Nat):Int) by omega,zZm (Qi hi),Qi hi]
     · obtain⟨i,hi⟩:=List.getElem?_of_mem hx
       exact ih x (zX2 h.2 hi)
   | lst ds =>
     unfold okS at h
     rw[Qc] at h
     have hz:=Wn h.1
     have g:gNe (.int (ds.length:Nat)) (.int (ds.length:Nat))=some false:=by show(some (decide _)).map _=_;rw[Qp rfl];rfl
     have r:yH (n+1) [.lst ds,.lst ds]=(qT (yH n) [.fz (.lst ds),.fz (.lst ds),.no]).bind xR:=by
       show((w6 (yH n)) [.fz (.lst ds),.fz (.lst ds),.no]).bind xR=_
       simp only[w6,sU,sN,sJ,qY,mL,mQ,nO,zQ,sIf,xQ,yM,eB2,eR,oH,eV,eC,rG,tB1,nU,tU,pK,isInt,eZ,aZ,rX,wT,zPH,Qm,Qx,Qq,Wq,g,Rt,Wg,Rp,Yu]
     rw[r]
     refine zU6 (ds:=ds) (fun i hi=>?_) rfl hz fun x hx=>?_
     · show atI ds _=_
       rw[show(0:Int)+((i:Nat):Int)=((i:Nat):Int) by omega,zZm (Qi hi),Qi hi]
     · obtain⟨i,hi⟩:=List.getElem?_of_mem hx
       exact ih x (zX2 h.2 hi)
   | obj a b ds=>unfold okS at h;cases h
   | exc a b ds=>unfold okS at h;cases h
def sV {fa fb:Ef}{ρ:List B}{i j:Int}(h1:fa ρ=some (.int i))(h2:fb ρ=some (.int j)):xW fa fb ρ=some (.int (i+j)):=by unfold xW;rw[h1,h2];rfl
def mB {fa fb:Ef}{ρ:List B}{x y:Str}(h1:fa ρ=some (.str x))(h2:fb ρ=some (.str y))(h:x.length+y.length<=100000):xW fa fb ρ=some (.str (x++y)):=by unfold xW;rw[h1,h2];exact zQV h
def sC {fa fb:Ef}{ρ:List B}{x y:D}(h1:fa ρ=some x)(h2:fb ρ=some y):eIx fa fb ρ=atD x y:=by unfold eIx;rw[h1,h2];rfl
def yY:Str:=Str.ofString "abcdefghijklmnopqrstuvwxyz"
def zZ8:yY.length=26:=ja
def Wd (w:Str):Prop:=1<=w.length/\w.length<=12/\∀c∈w.cps.toList,c∈yY.cps.toList
def pM {t:Tf}{e:Ef}{g:Sf}{ρ:List B}{r:Option D}(h:t ρ=some true)(k:e ρ=r):(zQ (sIf t (yM e) xQ) g ρ).bind xR=r:=by
 unfold zQ
 rw[rZ h,Qv rfl]
 unfold yM
 rw[k]
 cases r<;>rfl
def pI {e:Ef}{ρ:List B}:(yM e ρ).bind xR=e ρ:=by unfold yM;cases e ρ<;>rfl
def zZA {g:Lf}{ρ:List B}{ds:List D}(h:g ρ=some ds)(hl:ds.length<=100000):yT g ρ=some (.tup ds):=by unfold yT;rw[h,Qq,uM hl];rfl
def zWq {g:Lf}{ρ:List B}{ds:List D}(h:g ρ=some ds)(hl:ds.length<=100000):yD g ρ=some ds:=by unfold yD;rw[h,Qq,uM hl]
def zUv {α:Type}{xs:List α}{i:Int}(h0:0<=i)(h1:i < xs.length):∃x∈xs,atI xs i=some x:=by
 have hi:i.toNat < xs.length:=jc
 refine⟨xs[i.toNat],Rj hi,?_⟩
 unfold atI ixN
 rw[Qv h0,Qv h1]
 simp[hi]
def cE {α:Type}{elt:Ef}{f:α->D}{Q:α->Prop}{rest:List B}:∀(ds:List D) (x0:B) (j7:List D),(∀d∈ds,∃a,elt (.fz d::rest)=some (f a)/\Q a)->∃as:List α,vL (gN 0) tOK elt ds (x0::rest) j7=some (j7++as.map f)/\as.length=ds.length/\∀a∈as,Q a
 | [],_,j7,_=>⟨[],by simp[vL],rfl,fun _ h=>by cases h⟩
 | d::r,x0,j7,hh=>by
   obtain⟨a,ha,qa⟩:=hh d Qf
   obtain⟨as,e,el,hq⟩:=cE (Q:=Q) r (.fz d) (j7++[f a]) fun q hq=>hh q (Qa _ hq)
   refine⟨a::as,?_,by rw[Qo,Qo,el],fun b hb=>by
     rcases Qh.mp hb with z | z
     · rw[z];exact qa
     · exact hq b z⟩
   unfold vL
   have e1:gN 0 d (x0::rest)=some (.fz d::rest):=rfl
   have e2:tOK (.fz d::rest)=some true:=rfl
   rw[e1,Qq,e2,Qq,Qv rfl,ha,Qq,e]
   simp
def zY9 (m:Int):∃s:Nat,s∈yY.cps.toList/\atD (.str yY) (.int (m % 26))=some (.str ⟨#[s]⟩):=by
 have e:=zOY (x:=yY) (i:=m % 26) jc (by rw[zZ8];omega) (by rw[zZ8];decide)
 have hm:yY.cps.toList.getD (m % 26).toNat 0∈yY.cps.toList:=by
   have hl:(m % 26).toNat < yY.cps.toList.length:=by
     have:yY.cps.toList.length=26:=ja
     omega
   rw[Wu,Qi hl]
   exact Rj _
 exact⟨_,hm,e⟩
def zLL (q k:Int)(y:Str)(n:Int)(x5 x6 x7:B)(hn0:0<=n)(hn:n < 13)(hy:y.length<=1000) :
   ∃s:Nat,s∈yY.cps.toList/\rV [.fz (.int q),.fz (.int k),.fz (.str yY),.fz (.str y),.fz (.int n),x5,x6,x7]=some (.nx [.fz (.int q),.fz (.int k),.fz (.str yY),.fz (.str (y++⟨#[s]⟩)),.fz (.int n),x5,x6,x7]):=by
 obtain⟨s,hs,e⟩:=zY9 (q / 7200+7*k+n*n)
 refine⟨s,hs,?_⟩
 have m1:zYK n n=true:=rE jc jc
 have hl:y.length+(⟨#[s]⟩:Str).length<=100000:=by show y.length+1<=100000;omega
 unfold rV yK
 rw[mB (x:=y) (y:=⟨#[s]⟩) rfl ((sC (x:=.str yY) (y:=.int ((q / 7200+7*k+n*n) % 26)) rfl (yZ (sV (sV (yZ rfl rfl rfl) (yZ rfl rfl (rE jc jc))) (yZ rfl rfl m1)) rfl rfl)).trans e) hl]
 rfl
def zO5 (q k:Int)(size place:Int)(y:Str)(n:Int)(x7:B)(hn0:0<=n)(hn:n < 13)(hy:y.length<=1000) :
   ∃s:Nat,s∈yY.cps.toList/\∃x7',tN [.fz (.int q),.fz (.int k),.fz (.str yY),.fz (.str y),.fz (.int n),.fz (.int size),.fz (.int place),x7]=some (.nx [.fz (.int q),.fz (.int k),.fz (.str yY),.fz (.str (y++⟨#[s]⟩)),.fz (.int n),.fz (.int size),.fz (.int place),x7']):=by
 have fin:∀far:Int,∃s:Nat,s∈yY.cps.toList/\kF [.fz (.int q),.fz (.int k),.fz (.str yY),.fz (.str y),.fz (.int n),.fz (.int size),.fz (.int place),.fz (.int far)]=some (.nx [.fz (.int q),.fz (.int k),.fz (.str yY),.fz (.str (y++⟨#[s]⟩)),.fz (.int n),.fz (.int size),.fz (.int place),.fz (.int far)]):=by
   intro far
   obtain⟨s,hm,e⟩:=zY9 (q / 144+far)
   refine⟨s,hm,?_⟩
   unfold kF yK
   have hl:y.length+(⟨#[s]⟩:Str).length<=100000:=by show y.length+1<=100000;omega
   rw[mB (x:=y) (y:=⟨#[s]⟩) rfl ((sC (x:=.str yY) (y:=.int ((q / 144+far) % 26)) rfl (yZ (sV (yZ rfl rfl rfl) rfl) rfl rfl)).trans e) hl]
   rfl
 have m1:zYK n n=true:=rE jc jc
 have m2:zYK (n*n) (q / 7 % 3)=true:=zKU jc jc
 unfold tN
 rw[pO (d:=.int (n*n*(q / 7 % 3))) (yZ (yZ rfl rfl m1) (yZ (yZ rfl rfl rfl) rfl rfl) m2)]
 generalize n*n*(q / 7 % 3)=far
 unfold jY
 have t:eB2 gEq (eV 4) (eV 6) [.fz (.int q),.fz (.int k),.fz (.str yY),.fz (.str y),.fz (.int n),.fz (.int size),.fz (.int place),.fz (.int far)]=some (decide (n=place)):=rfl
 by_cases hp:n=place
 · obtain⟨s,hm,e⟩:=fin (q / 97+3*k)
   refine⟨s,hm,.fz (.int (q / 97+3*k)),?_⟩
   show zQ _ _ [.fz (.int q),.fz (.int k),.fz (.str yY),.fz (.str y),.fz (.int n),.fz (.int size),.fz (.int place),.fz (.int far)]=_
   rw[yE (ρ':=[.fz (.int q),.fz (.int k),.fz (.str yY),.fz (.str y),.fz (.int n),.fz (.int size),.fz (.int place),.fz (.int (q / 97+3*k))]) ((rZ t).trans (by
     rw[Qp hp,Qv rfl]
     unfold yK
     rw[sV (i:=q / 97) (j:=3*k) (yZ rfl rfl rfl) (yZ rfl rfl (rE jc jc))]
     rfl))]
   exact e
 · obtain⟨s,hm,e⟩:=fin far
   refine⟨s,hm,.fz (.int far),?_⟩
   show zQ _ _ [.fz (.int q),.fz (.int k),.fz (.str yY),.fz (.str y),.fz (.int n),.fz (.int size),.fz (.int place),.fz (.int far)]=_
   rw[yE (ρ':=[.fz (.int q),.fz (.int k),.fz (.str yY),.fz (.str y),.fz (.int n),.fz (.int size),.fz (.int place),.fz (.int far)]) ((rZ t).trans (by rw[Qb hp];rfl))]
   exact e
def zOT {y:Str}{s:Nat}(hyl:∀c∈y.cps.toList,c∈yY.cps.toList)(hm:s∈yY.cps.toList):∀c∈(y++(⟨#[s]⟩:Str)).cps.toList,c∈yY.cps.toList:=fun c hc=>by
 have hc:c∈(y.cps++#[s]).toList:=hc
 rw[Array.toList_append] at hc
 rcases Eu.mp hc with z | z
 · exact hyl c z
 · rw[Wm.mp z];exact hm
def zPP {f:Ef}{ρ:List B}{z:Int}(h:f ρ=some (.int z))(h0:0<=z)(h1:z<=1000):iR f ρ=some (tD 0 z.toNat):=by
 unfold iR
 rw[h,Qq]
 show(if decide (-1000000<=z)&&decide (z<=1000000) then some (tD 0 z.toNat) else none)=_
 rw[Qp jc,Qp jc]
 rfl
def zJW:List D:=[.str "near",.str "place",.str "names",.str "floor",.str "part",.str "back",.str "none",.str "put"]
def zI8:∀d∈zJW,∃w:Str,d = .str w/\Wd w:=by
 intro d hd
 unfold zJW at hd
 simp only[Qh,Wf,Ra] at hd
 rcases hd with rfl | rfl | rfl | rfl | rfl | rfl | rfl | rfl<;>exact⟨_,rfl,ja,ja,ja⟩
def zKq (q k:Int):∃w:Str,fX [.int q,.int k]=some (.str w)/\Wd w:=by
 suffices h:∃w:Str,(mJ [.fz (.int q),.fz (.int k),.fz (.str yY),.no,.no,.no,.no,.no]).bind xR=some (.str w)/\Wd w by
   obtain⟨w,e,hw⟩:=h
   refine⟨w,?_,hw⟩
   show(mW [.fz (.int q),.fz (.int k),.no,.no,.no,.no,.no,.no]).bind xR=_
   unfold mW
   exact wR (d:=.str yY) rfl e
 have t1:nU (eB2 gEq (xG (eV 0) ju) jq) (eB2 gEq (xG (eV 1) jo) jm) [.fz (.int q),.fz (.int k),.fz (.str yY),.no,.no,.no,.no,.no]=some (decide (q % 8=5)&&decide (k % 3=1)):=by
   unfold nU
   rw[wX (x:=q % 8) (yZ rfl rfl rfl),Qq,wX (x:=k % 3) (yZ rfl rfl rfl)]
   cases decide (q % 8=5)<;>rfl
 unfold mJ
 by_cases h1:(decide (q % 8=5)&&decide (k % 3=1))=true
 · rw[h1] at t1
   obtain⟨x,hx,ex⟩:=zUv (xs:=zJW) (i:=(q / 8+k) % 8) jc (by show _ < (8:Int);omega)
   obtain⟨w,rfl,hw⟩:=zI8 x hx
   refine⟨w,pM t1 ?_,hw⟩
   exact(sC (x:=.lst zJW) (y:=.int ((q / 8+k) % 8)) rfl (yZ (sV (yZ rfl rfl rfl) rfl) rfl rfl)).trans ex
 rw[show(decide (q % 8=5)&&decide (k % 3=1))=false by simpa using h1] at t1
 suffices h:∃w:Str,(nL [.fz (.int q),.fz (.int k),.fz (.str yY),.no,.no,.no,.no,.no]).bind xR=some (.str w)/\Wd w by
   obtain⟨w,e,hw⟩:=h
   exact⟨w,sW t1 e,hw⟩
 have t2:eB2 gEq (xG (wJ (eV 0) ju) jo) jl [.fz (.int q),.fz (.int k),.fz (.str yY),.no,.no,.no,.no,.no]=some (decide (q / 8 % 3=0)):=wX (yZ (yZ rfl rfl rfl) rfl rfl)
 unfold nL
 by_cases h2:q / 8 % 3=0
 · rw[Qp h2] at t2
   obtain⟨s0,hs0,e0⟩:=zY9 (q / 24+3*(k / 2))
   have z0:0<=(q / 600+5*k) % 12:=jc
   have z1:(q / 600+5*k) % 12 < 12:=jc
   have src:∀x4 x5 x6 x7:B,iR (xG (xW (wJ (eV 0) (eC (.int 600))) (rY jq (eV 1))) (eC (.int 12))) [.fz (.int q),.fz (.int k),.fz (.str yY),.fz (.str ⟨#[s0]⟩),x4,x5,x6,x7]=some (tD 0 ((q / 600+5*k) % 12).toNat):=fun x4 x5 x6 x7 =>
     zPP (yZ (sV (yZ rfl rfl rfl) (yZ rfl rfl (rE jc jc))) rfl rfl) z0 jc
   generalize(q / 600+5*k) % 12=m at src z0 z1
   obtain⟨ρ',e,y,x4,⟨hy,hyl⟩,rfl⟩:=zTa (g:=gN 4) (body:=rV) (P:=fun i ρ=>∃y:Str,∃x4,(y.length=1+i/\∀c∈y.cps.toList,c∈yY.cps.toList)/\ρ=[.fz (.int q),.fz (.int k),.fz (.str yY),.fz (.str y),x4,.no,.no,.no]) (tD 0 m.toNat) 0 (fun i d hd ρ hρ=>by
       obtain⟨hi,rfl⟩:=zR4 hd
       obtain⟨y,x4,⟨hy,hyl⟩,rfl⟩:=hρ
       obtain⟨s,hm,e⟩:=zLL q k y (0+(i:Nat)) .no .no .no jc jc jc
       exact⟨_,_,rfl,e,_,_,⟨by rw[xM,hy];rfl,zOT hyl hm⟩,rfl⟩) [.fz (.int q),.fz (.int k),.fz (.str yY),.fz (.str ⟨#[s0]⟩),.no,.no,.no,.no] ⟨_,_,⟨rfl,fun c hc=>by rw[Wm.mp hc];exact hs0⟩,rfl⟩
   rw[tT] at hy
   refine⟨y,?_,jc,jc,hyl⟩
   have es:yK 3 (eIx (eV 2) (xG (xW (wJ (eV 0) (eC (.int 24))) (rY jo (wJ (eV 1) jn))) (eC (.int 26)))) [.fz (.int q),.fz (.int k),.fz (.str yY),.no,.no,.no,.no,.no]=some (.nx [.fz (.int q),.fz (.int k),.fz (.str yY),.fz (.str ⟨#[s0]⟩),.no,.no,.no,.no]):=by
     unfold yK
     rw[(sC (x:=.str yY) (y:=.int ((q / 24+3*(k / 2)) % 26)) rfl (yZ (sV (yZ rfl rfl rfl) (yZ rfl (yZ rfl rfl rfl) (rE jc jc))) rfl rfl)).trans e0]
     rfl
   have ef:pQ (iR (xG (xW (wJ (eV 0) (eC (.int 600))) (rY jq (eV 1))) (eC (.int 12)))) (gN 4) rV [.fz (.int q),.fz (.int k),.fz (.str yY),.fz (.str ⟨#[s0]⟩),.no,.no,.no,.no]=some (.nx [.fz (.int q),.fz (.int k),.fz (.str yY),.fz (.str y),x4,.no,.no,.no]):=by
     unfold pQ
     rw[src,Qq]
     exact e
   rw[zZe (d:=.str y) ((rZ t2).trans (by
     rw[Qv rfl,yE es,yE ef]
     rfl))]
   rfl
 rw[Qb h2] at t2
 refine(fun(h:∃w:Str,(nD [.fz (.int q),.fz (.int k),.fz (.str yY),.no,.no,.no,.no,.no]).bind xR=some (.str w)/\Wd w)=>?_) ?_
 · obtain⟨w,e,hw⟩:=h
   exact⟨w,sW t2 e,hw⟩
 have z0:0<=q % 12:=jc
 have z1:q % 12 < 12:=jc
 have hp:xG (wJ (eV 0) (eC (.int 12))) (eV 5) [.fz (.int q),.fz (.int k),.fz (.str yY),.no,.no,.fz (.int (1+q % 12)),.no,.no]=some (.int (q / 12 % (1+q % 12))):=yZ (yZ rfl rfl rfl) rfl (Qp jc)
 generalize q / 12 % (1+q % 12)=place at hp
 have src:∀x4 x7:B,iR (eV 5) [.fz (.int q),.fz (.int k),.fz (.str yY),.fz (.str (Str.ofString "")),x4,.fz (.int (1+q % 12)),.fz (.int place),x7]=some (tD 0 (1+q % 12).toNat):=fun x4 x7=>zPP rfl jc jc
 obtain⟨ρ',e,y,x4,x7,⟨hy,hyl⟩,rfl⟩:=zTa (g:=gN 4) (body:=tN) (P:=fun i ρ=>∃y:Str,∃x4 x7,(y.length=i/\∀c∈y.cps.toList,c∈yY.cps.toList)/\ρ=[.fz (.int q),.fz (.int k),.fz (.str yY),.fz (.str y),x4,.fz (.int (1+q % 12)),.fz (.int place),x7]) (tD 0 (1+q % 12).toNat) 0 (fun i d hd ρ hρ=>by
     obtain⟨hi,rfl⟩:=zR4 hd
     obtain⟨y,x4,x7,⟨hy,hyl⟩,rfl⟩:=hρ
     obtain⟨s,hm,x7',e⟩:=zO5 q k (1+q % 12) place y (0+(i:Nat)) x7 jc jc jc
     exact⟨_,_,rfl,e,_,_,_,⟨by rw[xM,hy];rfl,zOT hyl hm⟩,rfl⟩) [.fz (.int q),.fz (.int k),.fz (.str yY),.fz (.str (Str.ofString "")),.no,.fz (.int (1+q % 12)),.fz (.int place),.no] ⟨_,_,_,⟨ja,fun c hc=>by cases hc⟩,rfl⟩
 rw[tT] at hy
 refine⟨y,?_,jc,jc,hyl⟩
 unfold nD
 refine wR (d:=.int (1+q % 12)) (sV rfl (yZ rfl rfl rfl)) ?_
 unfold iA
 refine wR (d:=.int place) hp ?_
 unfold gF
 refine wR (d:=.str (Str.ofString "")) rfl ?_
 unfold fN
 refine xZ (ρ':=[.fz (.int q),.fz (.int k),.fz (.str yY),.fz (.str y),x4,.fz (.int (1+q % 12)),.fz (.int place),x7]) ?_ rfl
 show pQ (iR (eV 5)) (gN 4) tN [.fz (.int q),.fz (.int k),.fz (.str yY),.fz (.str (Str.ofString "")),.no,.fz (.int (1+q % 12)),.fz (.int place),.no]=_
 unfold pQ
 rw[src,Qq]
 exact e
def zR9 (x S:Str)(n:Int)(h:x.length<=1000):vR [.str x,.str S,.int n]=some (.bl ((decide (1<=x.length)&&decide ((x.length:Int)<=n))&&x.cps.toList.all fun c=>decide (c∈S.cps.toList))):=by
 have hl:zPH (.str x)=some (.int x.length):=zMW jc
 have hs:(hZ x).length=x.length:=by simp[hZ,Str.length]
 have hm:yN (iS (eV 0)) 1 [1] (gN 0) tOK (uZ (eB2 gIn (eV 0) (eV 1))) [.fz (.str x),.fz (.str S),.fz (.int n)]=some (x.cps.toList.map fun c=>D.bl (decide (c∈S.cps.toList))):=by
   unfold yN
   have e1:iS (eV 0) [.fz (.str x),.fz (.str S),.fz (.int n)]=some (hZ x):=rfl
   have e2:upB 1 [1] [.fz (.str x),.fz (.str S),.fz (.int n)]=[.no,.fz (.str S)]:=rfl
   rw[e1,Qq,uM (by rw[hs];omega),Qq,e2]
   have:∀(l:List Nat) (x0:B) (j7:List D),vL (gN 0) tOK (uZ (eB2 gIn (eV 0) (eV 1))) (l.map fun c=>D.str ⟨#[c]⟩) [x0,.fz (.str S)] j7=some (j7++l.map fun c=>D.bl (decide (c∈S.cps.toList))):=by
     intro l
     induction l with
     | nil=>intro x0 j7;simp[vL]
     | cons c r ih =>
       intro x0 j7
       rw[Qu]
       unfold vL
       have e3:gN 0 (D.str ⟨#[c]⟩) [x0,.fz (.str S)]=some [.fz (.str ⟨#[c]⟩),.fz (.str S)]:=rfl
       have e4:tOK [.fz (.str ⟨#[c]⟩),.fz (.str S)]=some true:=rfl
       have e5:uZ (eB2 gIn (eV 0) (eV 1)) [.fz (.str ⟨#[c]⟩),.fz (.str S)]=some (.bl (decide (c∈S.cps.toList))):=by
         have:=zJy c S
         simp only[uZ,eB2,eV,rG,Qm,Qx,Qq,this,Wq]
       rw[e3,Qq,e4,Qq,Qv rfl,e5,Qq,ih]
       simp
   rw[show hZ x=x.cps.toList.map fun c=>D.str ⟨#[c]⟩ from rfl,this]
   simp
 have hb:=zS4 (fun c=>decide (c∈S.cps.toList)) x.cps.toList
 have hall:(x.cps.toList.map fun c=>decide (c∈S.cps.toList)).all id=x.cps.toList.all fun c=>decide (c∈S.cps.toList):=by rw[Iv];rfl
 have e0:vR [.str x,.str S,.int n]=((zZa (uZ (eB3 gLe gLe jm (wT (eV 0)) (eV 2))) (zNl (eL (yN (iS (eV 0)) 1 [1] (gN 0) tOK (uZ (eB2 gIn (eV 0) (eV 1))))))) [.fz (.str x),.fz (.str S),.fz (.int n)]):=zWg _
 rw[e0]
 have ea:zNl (eL (yN (iS (eV 0)) 1 [1] (gN 0) tOK (uZ (eB2 gIn (eV 0) (eV 1))))) [.fz (.str x),.fz (.str S),.fz (.int n)]=some (.bl (x.cps.toList.all fun c=>decide (c∈S.cps.toList))):=by
   simp only[zNl,eL,hm,Wq,Qq,hb,hall]
 have et:tB1 (uZ (eB3 gLe gLe jm (wT (eV 0)) (eV 2))) [.fz (.str x),.fz (.str S),.fz (.int n)]=some (decide (1<=x.length)&&decide ((x.length:Int)<=n)):=by
   by_cases h1:1<=x.length
   · have t1:decide ((1:Int)<=(x.length:Nat))=true:=Qp jc
     simp only[tB1,uZ,eB3,gLe,wT,eV,eC,rG,Qm,Qx,Qq,hl,t1,Rt,Wq,h1,decide_true,Tb]
   · have t1:decide ((1:Int)<=(x.length:Nat))=false:=Qb jc
     simp[tB1,uZ,eB3,gLe,wT,eV,eC,rG,hl,t1,h1]
 unfold zZa
 rw[et,ea,Qq]
 cases (decide (1<=x.length)&&decide ((x.length:Int)<=n))<;>rfl
def zZL:∀c∈yY.cps.toList,c≠32/\c≠10:=ja
def Wd.free {w:Str}(h:Wd w):wA 32 w/\wA 10 w:=⟨fun z=>(zZL _ (h.2.2 _ z)).1 rfl,fun z=>(zZL _ (h.2.2 _ z)).2 rfl⟩
def zPa {w:Str}(h:Wd w):iW [.str w]=some (.bl true):=by
 have e:=zR9 w "abcdefghijklmnopqrstuvwxyz" 12 (by have:=h.2.1;omega)
 have q:((decide (1<=w.length)&&decide ((w.length:Int)<=12))&&w.cps.toList.all fun c=>decide (c∈("abcdefghijklmnopqrstuvwxyz":Str).cps.toList))=true:=by
   have h1:=h.1
   have h2:=h.2.1
   rw[Qp h1,Qp (show(w.length:Int)<=12 by omega),Tb,Tb]
   exact Qn.mpr fun c hc=>Qp (h.2.2 c hc)
 rw[q] at e
 exact(zWg _).trans ((eB rfl rfl rfl).trans e)
def zUm (c:List Int):Str:=⟨(c.map fun i=>if i=1 then 49 else 48).toArray⟩
def zIJ (t:Tn):Str:=⟨(t.flatMap fun p=>[if p.2=1 then 45 else 43,if p.1=0 then 120 else if p.1=1 then 121 else 122]).toArray⟩
def kI (p:Pt):List Str:="part"::zUm p.c::zIJ p.t::(if p.b=true then ["back"] else [])
def tL (p:Pt):Str:=Str.join " " (kI p)
def zO6 (c:List Int)(t:Tn):Str:=Str.join " " ["part",zUm c,zIJ t]
def prs (n:Nat):List (List Int×Tn):=(zG n).flatMap fun c=>(zC n).map fun t=>(c,t)
def rO {n:Nat}{c:List Int}{t:Tn}(hc:c∈zG n)(ht:t∈zC n):(c,t)∈prs n:=Tg.mpr ⟨c,hc,Wj.mpr ⟨t,ht,rfl⟩⟩
def xV (k:Nat):List (List Int×Tn):=(((zG 3).drop (2*k)).take 2).flatMap fun c=>(zC 3).map fun t=>(c,t)
theorem zU8:prs 3=xV 0++xV 1++xV 2++xV 3:=je
def zRI {β:Type}{f g:List Int×Tn->β}(h0:(xV 0).map f=(xV 0).map g)(h1:(xV 1).map f=(xV 1).map g)(h2:(xV 2).map f=(xV 2).map g)(h3:(xV 3).map f=(xV 3).map g):(prs 3).map f=(prs 3).map g:=by
 rw[zU8,Wt,Wt,Wt,Wt,Wt,Wt,h0,h1,h2,h3]
def qN {α β:Type}{f g:α->β}{l:List α}(h:l.map f=l.map g){x:α}(hx:x∈l):f x=g x:=List.map_inj_left.mp h x hx
def fR (n r:Int)(b:Bool)(q:List Int×Tn):Option D:=oI [.lst ((kI ⟨q.1,q.2,b⟩).map .str),.int n,.int r]
def gR (b:Bool)(q:List Int×Tn):Option D:=some (yF ⟨q.1,q.2,b⟩)
theorem zFL (r:Int)(b:Bool):b=true∨b=false->(prs 2).map (fR 2 r b)=(prs 2).map (gR b):=by
 rintro(rfl | rfl)<;>kernel_rfl
theorem zKf (r:Int):(xV 0).map (fR 3 r true)=(xV 0).map (gR true):=je
theorem zJu (r:Int):(xV 1).map (fR 3 r true)=(xV 1).map (gR true):=je
theorem zJC (r:Int):(xV 2).map (fR 3 r true)=(xV 2).map (gR true):=je
theorem zJH (r:Int):(xV 3).map (fR 3 r true)=(xV 3).map (gR true):=je
theorem zJI (r:Int):(xV 0).map (fR 3 r false)=(xV 0).map (gR false):=je
theorem zK8 (r:Int):(xV 1).map (fR 3 r false)=(xV 1).map (gR false):=je
theorem zKi (r:Int):(xV 2).map (fR 3 r false)=(xV 2).map (gR false):=je
theorem zK0 (r:Int):(xV 3).map (fR 3 r false)=(xV 3).map (gR false):=je
def zGK (r:Int)(b:Bool):b=true∨b=false->(prs 3).map (fR 3 r b)=(prs 3).map (gR b):=by
 rintro(rfl | rfl)
 · exact zRI (zKf r) (zJu r) (zJC r) (zJH r)
 · exact zRI (zJI r) (zK8 r) (zKi r) (zK0 r)
def bG:(" ":Str)=⟨#[32]⟩:=ja
def zIO:("\n":Str)=⟨#[10]⟩:=ja
def tM (p:Pt):Bool:=decide ((tL p).length<=30) && !(tL p).cps.toList.contains 10&&(kI p).all fun w => !w.cps.toList.contains 32
theorem zF5:((prs 2).all fun q=>tM ⟨q.1,q.2,true⟩&&tM ⟨q.1,q.2,false⟩)=true:=je
theorem zHm:((xV 0).all fun q=>tM ⟨q.1,q.2,true⟩)=true:=je
theorem zH3:((xV 1).all fun q=>tM ⟨q.1,q.2,true⟩)=true:=je
theorem zI7:((xV 2).all fun q=>tM ⟨q.1,q.2,true⟩)=true:=je
theorem zI3:((xV 3).all fun q=>tM ⟨q.1,q.2,true⟩)=true:=je
theorem zHt:((xV 0).all fun q=>tM ⟨q.1,q.2,false⟩)=true:=je
theorem zH5:((xV 1).all fun q=>tM ⟨q.1,q.2,false⟩)=true:=je
theorem zH2:((xV 2).all fun q=>tM ⟨q.1,q.2,false⟩)=true:=je
theorem zHx:((xV 3).all fun q=>tM ⟨q.1,q.2,false⟩)=true:=je
def zF9:((prs 3).all fun q=>tM ⟨q.1,q.2,true⟩&&tM ⟨q.1,q.2,false⟩)=true:=by
 refine Qn.mpr fun q hq=>?_
 rw[zU8,Eu,Eu,Eu] at hq
 rw[Wy]
 rcases hq with((hq | hq) | hq) | hq
 · exact⟨Qn.mp zHm q hq,Qn.mp zHt q hq⟩
 · exact⟨Qn.mp zH3 q hq,Qn.mp zH5 q hq⟩
 · exact⟨Qn.mp zI7 q hq,Qn.mp zH2 q hq⟩
 · exact⟨Qn.mp zI3 q hq,Qn.mp zHx q hq⟩
section
variable {n:Nat} (hn:n=2∨n=3)
include hn
theorem zTQ (p:Pt)(hc:p.c∈zG n)(ht:p.t∈zC n):tM p=true:=by
 obtain⟨c,t,b⟩:=p
 have h:(tM ⟨c,t,true⟩&&tM ⟨c,t,false⟩)=true:=by
   rcases hn with rfl | rfl
   · have h:=Qn.mp zF5 _ (rO hc ht);exact h
   · have h:=Qn.mp zF9 _ (rO hc ht);exact h
 have h:=Wy.mp h
 cases b with
 | true=>exact h.1
 | false=>exact h.2
theorem zJT (p:Pt)(hc:p.c∈zG n)(ht:p.t∈zC n):(tL p).length<=30:=by
 have h:=zTQ hn p hc ht
 unfold tM at h
 rw[Wy,Wy] at h
 exact Wn h.1.1
theorem zLy (p:Pt)(hc:p.c∈zG n)(ht:p.t∈zC n):wA 10 (tL p):=by
 have h:=zTQ hn p hc ht
 unfold tM at h
 rw[Wy,Wy] at h
 have h:=h.1.2
 intro z
 rw[Rx.mpr z] at h
 exact absurd h jb
theorem zNs (p:Pt)(hc:p.c∈zG n)(ht:p.t∈zC n):kD (.str (tL p)) (.str " ")=some ((kI p).map .str):=by
 have h:=zTQ hn p hc ht
 unfold tM at h
 rw[Wy,Wy] at h
 have hw:∀w∈kI p,wA 32 w:=fun w hw z=>by
   have q:=Qn.mp h.2 w hw
   rw[Rx.mpr z] at q
   exact absurd q jb
 have e:Txt.split (tL p) ⟨#[32]⟩=kI p:=by
   unfold tL
   rw[bG]
   exact pH 32 (kI p) hw (by unfold kI;exact Tw _ _)
 have hl:=Wn h.1.1
 rw[bG]
 show(if 1<=(⟨#[32]⟩:Str).length/\(tL p).length<=100000 then some ((Txt.split (tL p) ⟨#[32]⟩).map D.str) else none)=_
 rw[Qv ⟨Ql 1,jc⟩,e]
end
def zZc (R:List Str)(i:Nat)(z:Str)(ws:List D)(hz:R[i]?=some z)(hs:kD (.str z) (.str " ")=some ws):uV [.lst (R.map .str),.int ((i:Int)+1)]=some ws:=by
 have hi:i < R.length:=by
   rcases Nat.lt_or_ge i R.length with h | h
   · exact h
   · rw[Yr h] at hz;cases hz
 show(mK [.fz (.lst (R.map .str)),.fz (.int ((i:Int)+1))]).bind zSI=some ws
 unfold mK
 have t:eB2 gGt (eV 1) (wT (eV 0)) [.fz (.lst (R.map .str)),.fz (.int ((i:Int)+1))]=some (decide ((((R.map D.str).length:Nat):Int) < (i:Int)+1)):=rfl
 rw[yE (ρ':=[.fz (.lst (R.map .str)),.fz (.int ((i:Int)+1))]) ((rZ t).trans (by rw[Qt,Qb jc];rfl))]
 unfold zZk zWN hV
 have e1:rB (eV 1) jm [.fz (.lst (R.map .str)),.fz (.int ((i:Int)+1))]=some (.int (i:Int)):=by
   refine(yZ (i:=(i:Int)+1) (j:=1) rfl rfl rfl).trans ?_
   show some (D.int ((i:Int)+1 - 1))=_
   rw[show(i:Int)+1 - 1=i from jc]
 have e2:eIx (eV 0) (rB (eV 1) jm) [.fz (.lst (R.map .str)),.fz (.int ((i:Int)+1))]=some (.str z):=by
   unfold eIx
   rw[e1]
   show atI (R.map D.str) (i:Int)=_
   unfold atI
   rw[Qt]
   have:ixN R.length (i:Int)=some i:=by unfold ixN;rw[Qv jc,Qv jc];rfl
   rw[this]
   show(R.map D.str)[i]?=_
   rw[Wa,hz];rfl
 rw[e2]
 show(((kD (.str z) (.str " "))).map Out.rl).bind zSI=_
 rw[hs]
 rfl
def kC (xs:List Int):KT:=.tup (xs.map .int)
def zUV (n:Nat):∀xs:List Int,zYS (ktD n) (xs.map .int)=some (xs.map .int)
 | []=>rfl
 | x::r=>by
   have e:ktD n (.int x)=some (.int x):=by cases n<;>rfl
   rw[Qu,zYS,e,zUV n r]
   rfl
def zLs (xs:List Int):zLx (yX xs)=some (kC xs):=by
 show(zYS (ktD 7) (xs.map .int)).map KT.tup=_
 rw[zUV]
 rfl
def zFv (xs:List Int):ktD 8 (yX xs)=some (kC xs):=zLs xs
def zIg {xs ys:List Int}(h:kC xs=kC ys):xs=ys:=by
 unfold kC at h
 injection h with h
 exact(List.map_inj_right (fun a b e=>by injection e)).mp h
def tZ (ps:List Pt):List (D×D):=ps.map fun p=>(yX p.c,.bl true)
def zNZ (ps:List Pt):(tZ ps).map (fun p=>ktD 8 p.1)=ps.map fun p=>some (kC p.c):=by
 unfold tZ
 rw[Rq]
 exact Tq fun p _=>zFv p.c
def zS0 {ps:List Pt}{c:List Int}(h:c∉ps.map (·.c)):some (kC c)∉(tZ ps).map fun p=>ktD 8 p.1:=by
 rw[zNZ]
 intro z
 obtain⟨p,hp,e⟩:=Wj.mp z
 exact h (Wj.mpr ⟨p,hp,zIg (Eg e)⟩)
section
variable {n:Nat} (hn:n=2∨n=3)
include hn
theorem zKz (p:Pt)(hc:p.c∈zG n)(ht:p.t∈zC n)(r:Int):oI [.lst ((kI p).map .str),.int n,.int r]=some (yF p):=by
 obtain⟨c,t,b⟩:=p
 have hb:b=true∨b=false:=by cases b<;>simp
 rcases hn with rfl | rfl
 · have h:=qN (zFL r b hb) (rO hc ht);exact h
 · have h:=qN (zGK r b hb) (rO hc ht);exact h
theorem zNP (R:List Str)(i:Nat)(p:Pt)(hc:p.c∈zG n)(ht:p.t∈zC n)(hz:R[i]?=some (tL p))(j7:List Pt)(ha:j7.length<=100)(hnew:p.c∉j7.map (·.c))(a b:D)(x7:B) :
   tP [.fz (.lst (R.map .str)),.fz a,.fz b,.fz (.int n),.ow (j7.map yF),.od (tZ j7),.fz (.int ((i:Int)+1)),x7] =
     some (.nx [.fz (.lst (R.map .str)),.fz a,.fz b,.fz (.int n),.ow ((j7++[p]).map yF),.od (tZ (j7++[p])),.fz (.int ((i:Int)+1)),.fz (yF p)]):=by
 have hw:=zZc R i _ _ hz (zNs hn p hc ht)
 have h1:zN 3 oI (zY (eL (tR 2 uV (zY (eV 0) (zY (eV 6) zR)))) (zY (eV 3) (zY (eV 6) zR))) [.fz (.lst (R.map .str)),.fz a,.fz b,.fz (.int n),.ow (j7.map yF),.od (tZ j7),.fz (.int ((i:Int)+1)),x7]=some (yF p):=by
   refine(eB (x:=.lst ((kI p).map .str)) (y:=.int n) (z:=.int ((i:Int)+1)) ?_ rfl rfl).trans (zKz hn p hc ht _)
   unfold eL
   rw[aA rfl rfl,hw]
   rfl
 have hf:∀ρ:List B,eV 7 ρ=some (yF p)->yB "Part" "corner" (eV 7) ρ=some (yX p.c):=fun ρ h=>zXw ρ (eV 7) p h
 unfold tP
 rw[pO h1]
 dsimp only[List.set]
 unfold oB
 have t:zTP 5 (yB "Part" "corner" (eV 7)) [.fz (.lst (R.map .str)),.fz a,.fz b,.fz (.int n),.ow (j7.map yF),.od (tZ j7),.fz (.int ((i:Int)+1)),.fz (yF p)]=some false:=by
   unfold zTP
   rw[hf _ rfl,Qq,zLs,Qq]
   show some (decide (some (kC p.c)∈(tZ j7).map fun p=>ktD 8 p.1))=_
   rw[Qb (zS0 hnew)]
 rw[yE (ρ':=[.fz (.lst (R.map .str)),.fz a,.fz b,.fz (.int n),.ow (j7.map yF),.od (tZ j7),.fz (.int ((i:Int)+1)),.fz (yF p)]) ((rZ t).trans rfl)]
 unfold nZ
 rw[yE (ρ':=[.fz (.lst (R.map .str)),.fz a,.fz b,.fz (.int n),.ow (j7.map yF),.od (tZ (j7++[p])),.fz (.int ((i:Int)+1)),.fz (yF p)])]
 · unfold fF
   rw[rH (d:=yF p) (ds:=j7.map yF) rfl rfl (by rw[Qt];omega)]
   rw[Wt,Qu,Wz]
   rfl
 · unfold zYt
   rw[show eC (.bl true) _=some (D.bl true) from rfl,Qq,hf _ rfl,Qq,zLs,Qq]
   show(if (tZ j7).length<=lim/\_ then _ else none)=_
   rw[Qv]
   · unfold tZ
     rw[Wt]
     rfl
   · refine⟨?_,?_,?_⟩
     · unfold tZ;rw[Qt];show j7.length<=100000;omega
     · rfl
     · exact zS0 hnew
theorem zU0 (R:List Str)(a b:D):∀(r j7:List Pt) (k:Nat) (x6 x7:B),(∀(i:Nat) (p:Pt),r[i]?=some p->R[k+i]?=some (tL p))->(∀p∈r,p.c∈zG n/\p.t∈zC n)->((j7++r).map (·.c)).Nodup->j7.length+r.length<=100 ->
   ∃y6 y7,mS (gN 6) tP ((List.range r.length).map fun(i:Nat)=>D.int (((k+i:Nat):Int)+1)) [.fz (.lst (R.map .str)),.fz a,.fz b,.fz (.int n),.ow (j7.map yF),.od (tZ j7),x6,x7] =
     some (.nx [.fz (.lst (R.map .str)),.fz a,.fz b,.fz (.int n),.ow ((j7++r).map yF),.od (tZ (j7++r)),y6,y7])
 | [],j7,k,x6,x7,_,_,_,_=>⟨x6,x7,by rw[Eh,List.range_zero,Wz,Wx,mS]⟩
 | p::r,j7,k,x6,x7,hR,ok,nd,hl=>by
   rw[Qo] at hl
   have hp:=ok p Qf
   have hnew:p.c∉j7.map (·.c):=by
     rw[Wt,Qu] at nd
     intro z
     exact(Tp.mp nd).2.2 _ z _ Qf rfl
   have s:=zNP hn R k p hp.1 hp.2 (by have h:=hR 0 p rfl;exact h) j7 jc hnew a b x7
   obtain⟨y6,y7,e⟩:=zU0 R a b r (j7++[p]) (k+1) (.fz (.int ((k:Int)+1))) (.fz (yF p)) (fun i q hq=>by have h:=hR (i+1) q hq;rw[show k+1+i=k+(i+1) from jc];exact h) (fun q hq=>ok q (Qa _ hq)) (by rw[Ex,Rc];exact nd) (by rw[Qk,Ey];omega)
   refine⟨y6,y7,?_⟩
   rw[Qo,Uy,Qu,Rq]
   rw[nB (ρ1:=[.fz (.lst (R.map .str)),.fz a,.fz b,.fz (.int n),.ow (j7.map yF),.od (tZ j7),.fz (.int ((k:Int)+1)),x7]) rfl s]
   rw[Ex,Rc] at e
   rw[←e]
   congr 1
   refine Tq fun i _=>?_
   show D.int (((k+(i+1):Nat):Int)+1)=D.int (((k+1+i:Nat):Int)+1)
   rw[show k+1+i=k+(i+1) from jc]
end
def pW (w:Str)(n:Nat)(j:Bool):List Str:=["curve",w,if j=true then "joined" else "loose",if n=2 then "2" else "3"]
def w8 (w:Str)(n:Nat)(j:Bool):Str:=Str.join " " (pW w n j)
def zOF {x y:Str}(h:x.cps.toList=y.cps.toList):x=y:=by
 obtain⟨a⟩:=x
 obtain⟨b⟩:=y
 exact Eo Str.mk (Array.toList_inj.mp h)
def zKl (x y:Str):(x++y).cps.toList=x.cps.toList++y.cps.toList:=Array.toList_append
def zKZ (s x:Str):Str.join s [x]=x:=rfl
def zWK (w:Str)(n:Nat)(j:Bool):(w8 w n j).cps.toList=("curve":Str).cps.toList++32::(w.cps.toList++32::((if j=true then("joined":Str) else "loose").cps.toList++32::(if n=2 then("2":Str) else "3").cps.toList)):=by
 unfold w8 pW
 rw[bG,qB,qB,qB,zKZ]
def zRU {w:Str}(h:Wd w)(n:Nat)(j:Bool):(w8 w n j).length<=40:=by
 have e:=Eo List.length (zWK w n j)
 have h2:w.cps.toList.length<=12:=h.2.1
 have h3:("curve":Str).cps.toList.length=5:=ja
 have h4:(if j=true then("joined":Str) else "loose").cps.toList.length<=6:=by cases j<;>decide +kernel
 have h5:(if n=2 then("2":Str) else "3").cps.toList.length=1:=by split<;>decide +kernel
 simp only[Qk,Qo] at e
 show(w8 w n j).cps.toList.length<=40
 omega
def zNT {w:Str}(h:Wd w)(n:Nat)(j:Bool):wA 10 (w8 w n j):=by
 intro z
 have z:10∈(w8 w n j).cps.toList:=z
 rw[zWK] at z
 simp only[Eu,Qh] at z
 rcases z with z | z | z | z | z | z | z
 · exact absurd z ja
 · exact absurd z jb
 · exact h.free.2 z
 · exact absurd z jb
 · revert z;cases j<;>decide +kernel
 · exact absurd z jb
 · revert z;split<;>decide +kernel
def zPN {n:Nat}(hn:n=2∨n=3)(j:Bool){w:Str}(h:Wd w):kD (.str (w8 w n j)) (.str " ")=some ((pW w n j).map .str):=by
 have hf:∀x∈pW w n j,wA 32 x:=fun x hx=>by
   unfold pW at hx
   simp only[Qh,Wf,Ra] at hx
   rcases hx with rfl | rfl | rfl | rfl
   · unfold L2.wA;decide +kernel
   · exact h.free.1
   · cases j<;>(unfold L2.wA;decide +kernel)
   · split<;>(unfold L2.wA;decide +kernel)
 have e:Txt.split (w8 w n j) ⟨#[32]⟩=pW w n j:=by
   unfold w8
   rw[bG]
   exact pH 32 (pW w n j) hf (by unfold pW;exact Tw _ _)
 have hl:=zRU h n j
 rw[bG]
 show(if 1<=(⟨#[32]⟩:Str).length/\(w8 w n j).length<=100000 then some ((Txt.split (w8 w n j) ⟨#[32]⟩).map D.str) else none)=_
 rw[Qv ⟨Ql 1,jc⟩,e]
theorem zOt {n:Nat}(hn:n=2∨n=3)(j:Bool){w:Str}(h:Wd w):kM [.lst ((pW w n j).map .str)]=some (.tup [.str w,.bl j,.int n]):=by
 have e:=zPa h
 show(oY [.fz (.lst ((pW w n j).map .str))]).bind xR=_
 unfold oY
 refine sW ?_ ?_
 · unfold pE
   rw[show eB2 gNe (wT (eV 0)) jp [.fz (.lst ((pW w n j).map .str))]=some false from rfl,Qq,Wh Qj,show eB2 gNe (eIx (eV 0) jl) (eC (.str "curve")) [.fz (.lst ((pW w n j).map .str))]=some false from je,Qq,Wh Qj]
   exact zPe ((sH (x:=.str w) rfl).trans e)
 unfold pW
 rcases hn with rfl | rfl<;>cases j<;>kernel_rfl
theorem zMU {n:Nat}(hn:n=2∨n=3):zW4 [.int n,.int 1]=some (.int (2^n)):=by
 rcases hn with rfl | rfl<;>kernel_rfl
section
variable {n:Nat} (hn:n=2∨n=3) {ps:List Pt} (ok:PtsOk n ps) {wN:Str} (hw:Wd wN)
include hn ok hw
theorem zJq (R:List Str)(j:Bool)(h0:R[0]?=some (w8 wN n j))(hR:∀(i:Nat) (p:Pt),ps[i]?=some p->R[1+i]?=some (tL p)):fT [.lst (R.map .str)]=some (zA wN n j ps):=by
 have hww:=zZc R 0 _ _ h0 (zPN hn j hw)
 have j5:=ok.len
 have hcs:∀p∈ps,p.c∈zG n/\p.t∈zC n:=fun p hp=>⟨ok.perm.mem_iff.mp (Wj.mpr ⟨p,hp,rfl⟩),ok.turn p hp⟩
 have hnd:((([]:List Pt)++ps).map (·.c)).Nodup:=by rw[Ws];exact ok.perm.nodup_iff.mpr (zWE hn)
 have hs:=ok.small hn
 obtain⟨y6,y7,e⟩:=zU0 hn R (.str wN) (.bl j) ps [] 1 .no .no hR hcs hnd (by simp;omega)
 show(qJ [.fz (.lst (R.map .str)),.no,.no,.no,.no,.no,.no,.no]).bind xR=_
 unfold qJ
 rw[yE (ρ':=[.fz (.lst (R.map .str)),.fz (.str wN),.fz (.bl j),.fz (.int n),.no,.no,.no,.no]) (by
   unfold lE
   rw[show zN 1 kM (zY (eL (tR 2 uV (zY (eV 0) (zY jm zR)))) zR) [.fz (.lst (R.map .str)),.no,.no,.no,.no,.no,.no,.no]=some (.tup [.str wN,.bl j,.int n]) from by
     refine(sH (x:=.lst ((pW wN n j).map .str)) ?_).trans (zOt hn j hw)
     unfold eL
     rw[aA (x:=.lst (R.map .str)) (y:=.int 1) rfl rfl,show uV [.lst (R.map .str),.int 1]=some ((pW wN n j).map .str) from hww]
     rfl]
   rfl)]
 unfold mC
 rw[yE (ρ':=[.fz (.lst (R.map .str)),.fz (.str wN),.fz (.bl j),.fz (.int n),.ow [],.no,.no,.no]) rfl]
 unfold lN
 rw[yE (ρ':=[.fz (.lst (R.map .str)),.fz (.str wN),.fz (.bl j),.fz (.int n),.ow [],.od [],.no,.no]) rfl]
 unfold lH
 rw[yE (ρ':=[.fz (.lst (R.map .str)),.fz (.str wN),.fz (.bl j),.fz (.int n),.ow (ps.map yF),.od (tZ ps),y6,y7])]
 · have ea:=zK (f:=eV 1) (ρ:=[.fz (.lst (R.map .str)),.fz (.str wN),.fz (.bl j),.fz (.int n),.fz (.lst (ps.map yF)),.od (tZ ps),y6,y7]) (d:=.str wN) rfl (zK (f:=eV 3) (d:=.int n) rfl (zK (f:=eV 2) (d:=.bl j) rfl (zK (f:=eV 4) (d:=.lst (ps.map yF)) (g:=zR) (ds:=[]) rfl rfl)))
   have em:=zWM (c:="Curve") (ns:=["name","dims","joined","parts"]) (n:=4) (f:=zZB) (xs:=[.str wN,.int n,.bl j,.lst (ps.map yF)]) ea rfl rfl rfl
   have q:=zWg ((dW "Curve" ["name","dims","joined","parts"] 4 zZB (zY (eV 1) (zY (eV 3) (zY (eV 2) (zY (eV 4) zR))))) [.fz (.lst (R.map .str)),.fz (.str wN),.fz (.bl j),.fz (.int n),.fz (.lst (ps.map yF)),.od (tZ ps),y6,y7])
   exact q.trans em
 · unfold pQ
   rw[show iR2 jn (uU jn (zN 2 zW4 (zY (eV 3) (zY jm zR)))) [.fz (.lst (R.map .str)),.fz (.str wN),.fz (.bl j),.fz (.int n),.ow [],.od [],.no,.no]=some ((List.range ps.length).map fun(i:Nat)=>D.int (((1+i:Nat):Int)+1)) from by
     unfold iR2
     rw[show jn [.fz (.lst (R.map .str)),.fz (.str wN),.fz (.bl j),.fz (.int n),.ow [],.od [],.no,.no]=some (D.int 2) from rfl,Qq,show uU jn (zN 2 zW4 (zY (eV 3) (zY jm zR))) [.fz (.lst (R.map .str)),.fz (.str wN),.fz (.bl j),.fz (.int n),.ow [],.od [],.no,.no]=some (D.int (2+2^n)) from yZ (i:=2) (j:=2^n) rfl ((vD rfl rfl).trans (zMU hn)) rfl,Qq]
     rw[j5]
     rcases hn with rfl | rfl<;>rfl]
   exact e
end
def zKc (c:List Int):Str:=Str.join " " ["part",zUm c,""]
abbrev Pq:=List Int×Tn
def fA (x0 x1 x2 x3 x4 x6 x7 x8:B)(q:Pq):Option D:=xW (xW (eC (.str "part ")) (vB (eC (.str "")) (yN (iT (eV 5)) 1 [] (gN 0) tOK (wB (eV 0))))) (eC (.str " ")) [x0,x1,x2,x3,x4,.fz (yX q.1),x6,x7,x8]
def gA (q:Pq):Option D:=some (.str (zKc q.1))
def fB (x0 x1 x2 x3 x4 x5 x7:B)(q:Pq):Option D:=xW (eV 8) (vB (eC (.str "")) (yN (iT (eV 6)) 2 [] (gT (zM (gN 0) (zM (gN 1) xI))) tOK (xW (eIx (eC (.str "+-")) (eV 1)) (eIx (eC (.str "xyz")) (eV 0))))) [x0,x1,x2,x3,x4,x5,.fz (yU q.2),x7,.fz (.str (zKc q.1))]
def gB (q:Pq):Option D:=some (.str (zO6 q.1 q.2))
def fC (b:Bool)(x0 x1 x2 x3 x4 x5 x6:B)(q:Pq):Option D:=xW (eV 8) (eIx (eL (yD (zY (eC (.str "")) (zY (eC (.str " back")) zR)))) (sB (eV 7))) [x0,x1,x2,x3,x4,x5,x6,.fz (.bl b),.fz (.str (zO6 q.1 q.2))]
def gC (b:Bool)(q:Pq):Option D:=some (.str (tL ⟨q.1,q.2,b⟩))
section
variable (x0 x1 x2 x3 x4 x6 x7 x8:B)
theorem ra2:(prs 2).map (fA x0 x1 x2 x3 x4 x6 x7 x8)=(prs 2).map gA:=je
theorem zGJ:(xV 0).map (fA x0 x1 x2 x3 x4 x6 x7 x8)=(xV 0).map gA:=je
theorem zGI:(xV 1).map (fA x0 x1 x2 x3 x4 x6 x7 x8)=(xV 1).map gA:=je
theorem zGu:(xV 2).map (fA x0 x1 x2 x3 x4 x6 x7 x8)=(xV 2).map gA:=je
theorem zGP:(xV 3).map (fA x0 x1 x2 x3 x4 x6 x7 x8)=(xV 3).map gA:=je
theorem ra3:(prs 3).map (fA x0 x1 x2 x3 x4 x6 x7 x8)=(prs 3).map gA:=zRI (zGJ x0 x1 x2 x3 x4 x6 x7 x8) (zGI x0 x1 x2 x3 x4 x6 x7 x8) (zGu x0 x1 x2 x3 x4 x6 x7 x8) (zGP x0 x1 x2 x3 x4 x6 x7 x8)
variable (x5:B)
theorem rb2:(prs 2).map (fB x0 x1 x2 x3 x4 x5 x7)=(prs 2).map gB:=je
theorem zFP:(xV 0).map (fB x0 x1 x2 x3 x4 x5 x7)=(xV 0).map gB:=je
theorem zGE:(xV 1).map (fB x0 x1 x2 x3 x4 x5 x7)=(xV 1).map gB:=je
theorem zHd:(xV 2).map (fB x0 x1 x2 x3 x4 x5 x7)=(xV 2).map gB:=je
theorem zGi:(xV 3).map (fB x0 x1 x2 x3 x4 x5 x7)=(xV 3).map gB:=je
theorem rb3:(prs 3).map (fB x0 x1 x2 x3 x4 x5 x7)=(prs 3).map gB:=zRI (zFP x0 x1 x2 x3 x4 x5 x7) (zGE x0 x1 x2 x3 x4 x5 x7) (zHd x0 x1 x2 x3 x4 x5 x7) (zGi x0 x1 x2 x3 x4 x5 x7)
theorem rc2 (b:Bool):(prs 2).map (fC b x0 x1 x2 x3 x4 x5 x6)=(prs 2).map (gC b):=by cases b<;>kernel_rfl
theorem zFU:(xV 0).map (fC true x0 x1 x2 x3 x4 x5 x6)=(xV 0).map (gC true):=je
theorem zGT:(xV 1).map (fC true x0 x1 x2 x3 x4 x5 x6)=(xV 1).map (gC true):=je
theorem zHf:(xV 2).map (fC true x0 x1 x2 x3 x4 x5 x6)=(xV 2).map (gC true):=je
theorem zGc:(xV 3).map (fC true x0 x1 x2 x3 x4 x5 x6)=(xV 3).map (gC true):=je
theorem zGG:(xV 0).map (fC false x0 x1 x2 x3 x4 x5 x6)=(xV 0).map (gC false):=je
theorem zGq:(xV 1).map (fC false x0 x1 x2 x3 x4 x5 x6)=(xV 1).map (gC false):=je
theorem zFQ:(xV 2).map (fC false x0 x1 x2 x3 x4 x5 x6)=(xV 2).map (gC false):=je
theorem zGg:(xV 3).map (fC false x0 x1 x2 x3 x4 x5 x6)=(xV 3).map (gC false):=je
theorem rc3 (b:Bool):(prs 3).map (fC b x0 x1 x2 x3 x4 x5 x6)=(prs 3).map (gC b):=by
 cases b with
 | true=>exact zRI (zFU x0 x1 x2 x3 x4 x5 x6) (zGT x0 x1 x2 x3 x4 x5 x6) (zHf x0 x1 x2 x3 x4 x5 x6) (zGc x0 x1 x2 x3 x4 x5 x6)
 | false=>exact zRI (zGG x0 x1 x2 x3 x4 x5 x6) (zGq x0 x1 x2 x3 x4 x5 x6) (zFQ x0 x1 x2 x3 x4 x5 x6) (zGg x0 x1 x2 x3 x4 x5 x6)
end
section
variable {n:Nat} (hn:n=2∨n=3)
include hn
theorem zOk (p:Pt)(hc:p.c∈zG n)(ht:p.t∈zC n)(x0 x1 x2 x3 x8:B)(rows:List D)(hl:rows.length<=1000) :
   wQ [x0,x1,x2,x3,.ow rows,.fz (yX p.c),.fz (yU p.t),.fz (.bl p.b),x8]=some (.nx [x0,x1,x2,x3,.ow (rows++[.str (tL p)]),.fz (yX p.c),.fz (yU p.t),.fz (.bl p.b),.fz (.str (zO6 p.c p.t))]):=by
 obtain⟨c,t,b⟩:=p
 have hA:xW (xW (eC (.str "part ")) (vB (eC (.str "")) (yN (iT (eV 5)) 1 [] (gN 0) tOK (wB (eV 0))))) (eC (.str " ")) [x0,x1,x2,x3,.ow rows,.fz (yX c),.fz (yU t),.fz (.bl b),x8]=some (.str (zKc c)):=by
   rcases hn with rfl | rfl
   · have h:=qN (ra2 x0 x1 x2 x3 (.ow rows) (.fz (yU t)) (.fz (.bl b)) x8) (rO hc ht);exact h
   · have h:=qN (ra3 x0 x1 x2 x3 (.ow rows) (.fz (yU t)) (.fz (.bl b)) x8) (rO hc ht);exact h
 have hB:xW (eV 8) (vB (eC (.str "")) (yN (iT (eV 6)) 2 [] (gT (zM (gN 0) (zM (gN 1) xI))) tOK (xW (eIx (eC (.str "+-")) (eV 1)) (eIx (eC (.str "xyz")) (eV 0))))) [x0,x1,x2,x3,.ow rows,.fz (yX c),.fz (yU t),.fz (.bl b),.fz (.str (zKc c))]=some (.str (zO6 c t)):=by
   rcases hn with rfl | rfl
   · have h:=qN (rb2 x0 x1 x2 x3 (.ow rows) (.fz (yX c)) (.fz (.bl b))) (rO hc ht);exact h
   · have h:=qN (rb3 x0 x1 x2 x3 (.ow rows) (.fz (yX c)) (.fz (.bl b))) (rO hc ht);exact h
 have hC:xW (eV 8) (eIx (eL (yD (zY (eC (.str "")) (zY (eC (.str " back")) zR)))) (sB (eV 7))) [x0,x1,x2,x3,.ow rows,.fz (yX c),.fz (yU t),.fz (.bl b),.fz (.str (zO6 c t))]=some (.str (tL ⟨c,t,b⟩)):=by
   rcases hn with rfl | rfl
   · have h:=qN (rc2 x0 x1 x2 x3 (.ow rows) (.fz (yX c)) (.fz (yU t)) b) (rO hc ht);exact h
   · have h:=qN (rc3 x0 x1 x2 x3 (.ow rows) (.fz (yX c)) (.fz (yU t)) b) (rO hc ht);exact h
 unfold wQ
 rw[pO hA]
 dsimp only[List.set]
 unfold sE
 rw[pO hB]
 dsimp only[List.set]
 unfold nR
 rw[rH (d:=.str (tL ⟨c,t,b⟩)) (ds:=rows) hC rfl hl]
 rfl
theorem zVp (x0 x1 x2 x3:B):∀(ps:List Pt) (x5 x6 x7 x8:B) (rows:List D),(∀p∈ps,p.c∈zG n/\p.t∈zC n)->rows.length+ps.length<=1000 ->
   ∃y5 y6 y7 y8,mS (gT (zM (gN 5) (zM (gN 6) (zM (gN 7) xI)))) wQ (ps.map xO) [x0,x1,x2,x3,.ow rows,x5,x6,x7,x8]=some (.nx [x0,x1,x2,x3,.ow (rows++ps.map fun p=>.str (tL p)),y5,y6,y7,y8])
 | [],x5,x6,x7,x8,rows,_,_=>⟨x5,x6,x7,x8,by rw[Wz,Wz,Wx,mS]⟩
 | p::r,x5,x6,x7,x8,rows,h,hl=>by
   have hp:=h p Qf
   rw[Qo] at hl
   obtain⟨y5,y6,y7,y8,e⟩:=zVp x0 x1 x2 x3 r (.fz (yX p.c)) (.fz (yU p.t)) (.fz (.bl p.b)) (.fz (.str (zO6 p.c p.t))) (rows++[.str (tL p)]) (fun q hq=>h q (Qa _ hq)) (by rw[Qk,Ey];omega)
   refine⟨y5,y6,y7,y8,?_⟩
   rw[Qu,nB (ρ1:=[x0,x1,x2,x3,.ow rows,.fz (yX p.c),.fz (yU p.t),.fz (.bl p.b),x8]) rfl (zOk hn p hp.1 hp.2 x0 x1 x2 x3 x8 rows jc),e,Ex,Rc,Qu]
theorem zOb (j:Bool){w:Str}(h:Wd w)(x3 x4 x5 x6 x7 x8:B):xW (xW (xW (xW (xW (eC (.str "curve ")) (eV 0)) (eC (.str " "))) (eIx (eL (yD (zY (eC (.str "loose")) (zY (eC (.str "joined")) zR)))) (sB (eV 1)))) (eC (.str " "))) (wB (eV 2)) [.fz (.str w),.fz (.bl j),.fz (.int n),x3,x4,x5,x6,x7,x8]=some (.str (w8 w n j)):=by
 have h2:w.length<=12:=h.2.1
 have l1:("curve ":Str).length=6:=ja
 have l2:(" ":Str).length=1:=ja
 have l3:(if j=true then("joined":Str) else "loose").length<=6:=by cases j<;>decide +kernel
 have l4:(if n=2 then("2":Str) else "3").length<=1:=by split<;>decide +kernel
 have e3:eIx (eL (yD (zY (eC (.str "loose")) (zY (eC (.str "joined")) zR)))) (sB (eV 1)) [.fz (.str w),.fz (.bl j),.fz (.int n),x3,x4,x5,x6,x7,x8]=some (.str (if j=true then("joined":Str) else "loose")):=by cases j<;>rfl
 have e5:wB (eV 2) [.fz (.str w),.fz (.bl j),.fz (.int n),x3,x4,x5,x6,x7,x8]=some (.str (if n=2 then("2":Str) else "3")):=by rcases hn with rfl | rfl<;>kernel_rfl
 have a1:=mB (fa:=eC (.str "curve ")) (fb:=eV 0) (ρ:=[.fz (.str w),.fz (.bl j),.fz (.int n),x3,x4,x5,x6,x7,x8]) (x:="curve ") (y:=w) rfl rfl jc
 have a2:=mB (fb:=eC (.str " ")) (y:=" ") a1 rfl (by rw[xM];omega)
 have a3:=mB a2 e3 (by rw[xM,xM];omega)
 have a4:=mB (fb:=eC (.str " ")) (y:=" ") a3 rfl (by rw[xM,xM,xM];omega)
 have a5:=mB a4 e5 (by rw[xM,xM,xM,xM];omega)
 rw[a5]
 congr 2
 refine zOF ?_
 rw[zWK]
 have z1:("curve ":Str).cps.toList=("curve":Str).cps.toList++[32]:=ja
 have z2:(" ":Str).cps.toList=[32]:=ja
 simp only[zKl,z1,z2,Ex,Re,Ws]
omit hn in
theorem zTr {f:Ef}{ρ:List B}{d:D}(h:f ρ=some d):yD (zY f zR) ρ=some [d]:=by unfold yD;rw[zK h rfl];rfl
theorem zVy {ps:List Pt}(ok:PtsOk n ps)(j:Bool){w:Str}(h:Wd w):pC [.str w,.bl j,.int n,.lst (ps.map xO)]=some ((w8 w n j::ps.map tL).map D.str):=by
 have hs:=ok.small hn
 have hcs:∀p∈ps,p.c∈zG n/\p.t∈zC n:=fun p hp=>⟨ok.perm.mem_iff.mp (Wj.mpr ⟨p,hp,rfl⟩),ok.turn p hp⟩
 obtain⟨y5,y6,y7,y8,e⟩:=zVp hn (.fz (.str w)) (.fz (.bl j)) (.fz (.int n)) (.fz (.lst (ps.map xO))) ps .no .no .no .no [.str (w8 w n j)] hcs (by rw[Ey];omega)
 show(uE [.fz (.str w),.fz (.bl j),.fz (.int n),.fz (.lst (ps.map xO)),.no,.no,.no,.no,.no]).bind zSI=_
 unfold uE
 rw[yE (ρ':=[.fz (.str w),.fz (.bl j),.fz (.int n),.fz (.lst (ps.map xO)),.ow [.str (w8 w n j)],.no,.no,.no,.no]) (by
   unfold uO
   rw[zTr (zOb hn j h _ _ _ _ _ _)]
   rfl)]
 unfold rJ
 have e':pQ (iL (eV 3)) (gT (zM (gN 5) (zM (gN 6) (zM (gN 7) xI)))) wQ [.fz (.str w),.fz (.bl j),.fz (.int n),.fz (.lst (ps.map xO)),.ow [.str (w8 w n j)],.no,.no,.no,.no]=some (.nx [.fz (.str w),.fz (.bl j),.fz (.int n),.fz (.lst (ps.map xO)),.ow ([.str (w8 w n j)]++ps.map fun p=>.str (tL p)),y5,y6,y7,y8]):=by
   unfold pQ
   rw[show iL (eV 3) [.fz (.str w),.fz (.bl j),.fz (.int n),.fz (.lst (ps.map xO)),.ow [.str (w8 w n j)],.no,.no,.no,.no]=some (ps.map xO) from rfl,Qq]
   exact e
 rw[yE e',Qu,Rq]
 rfl
end
def iO:Option Int->D | none=>.non | some i=>.int i
def zWL:Str.ofString "0"=⟨#[48]⟩:=ja
def zXP (x:Str):x.cps.toList.length=x.length:=Ev
def zRc:Str:=Str.ofString "0123456789"
def zNV:zRc.cps.toList=List.range' 48 10:=ja
def zPn (c:Nat):c∈zRc.cps.toList↔48<=c/\c<=57:=by
 rw[zNV,List.mem_range'_1]
 exact and_congr_right fun _=>Nat.lt_succ_iff
def zNW (l:List Nat):Bool:=l.all fun c=>decide (c∈zRc.cps.toList)
def zPF (v:Nat)(l:List Nat):Nat:=l.foldl (fun j7 c=>j7*10+(c - 48)) v
def zQi (x:Str):Option Int :=
 if ((decide (1<=x.length)&&decide ((x.length:Int)<=60))&&zNW x.cps.toList)=true then(if 1 < x.length/\x.cps.toList.getD 0 0=48 then none else some ((zPF 0 x.cps.toList:Nat):Int)) else none
def zPT {x:Str}(h0:1<=x.length)(h:x.length<=1000):atD (.str x) (.int 0)=some (.str ⟨#[x.cps.toList.getD 0 0]⟩):=zOY (x:=x) (i:=0) jb jc jc
def zJ1 (c:Nat):gEq (.str ⟨#[c]⟩) (.str (Str.ofString "0"))=some (decide (c=48)):=by
 rw[zWL]
 show some (decide ((⟨#[c]⟩:Str)=⟨#[48]⟩))=_
 by_cases h:c=48
 · subst h;rfl
 · rw[Qb h,Qb (fun z=>h (by
     have:=Eo (fun s:Str=>s.cps.toList) z
     simpa using this))]
def zYB (n m:Option Int):Option Int:=match n,m with
 | some i,some j=>if j < i then none else some i
 | n,_=>n
def zKQ (x:Str)(h1:1<=x.length)(h2:x.length<=60)(h:zNW x.cps.toList=true):zKA (.str x)=some (.int ((zPF 0 x.cps.toList:Nat):Int)):=by
 have ad:PySem.NumText.AllDigits x.cps.toList:=fun c hc=>(zPn c).mp (Wn (Qn.mp h c hc))
 have ne:x.cps.toList≠[]:=fun z=>by have:=zXP x;rw[z] at this;simp at this;omega
 have e:=PySem.intText_digits ad ne jc
 show(if x.length<=640 then _ else none)=_
 rw[Qv jc,e]
 rfl
def zNp (x:Str)(j i:Int):(tO [.fz (.str x),.fz (iO (some j)),.fz (.int i)]).bind xR=some (iO (zYB (some i) (some j))):=by
 by_cases hj:j < i
 · have hb:zYB (some i) (some j)=none:=Qv hj
   have d:=Qp hj
   rw[hb]
   simp only[tO,zQ,sIf,yM,nU,eB2,lX,oH,gGt,iO,eV,eC,rG,Qm,Qx,Qq,Wq,Um,Rt,d,xR]
 · have hb:zYB (some i) (some j)=some i:=Wh hj
   have d:=Qb hj
   rw[hb]
   simp only[tO,bK,zQ,sIf,yM,xQ,nU,eB2,lX,oH,gGt,iO,eV,eC,rG,Qm,Qx,Qq,Wq,Um,Rt,d,Wg,Rp,xR]
def zUN (x:Str)(m:Option Int)(h:x.length<=1000):uJ [.str x,iO m]=some (iO (zYB (zQi x) m)):=by
 have hc:=zXP x
 have e:=zR9 x zRc 60 h
 have r0:uJ [.str x,iO m]=(kA [.fz (.str x),.fz (iO m),.no]).bind xR:=rfl
 rw[r0]
 have t0:tU (tB1 (zN 3 vR (zY (eV 0) (zY (eC (.str zRc)) (zY (eC (.int 60)) zR))))) [.fz (.str x),.fz (iO m),.no]=some (!((decide (1<=x.length)&&decide ((x.length:Int)<=60))&&zNW x.cps.toList)):=by
   simp only[tU,tB1,zN,zY,zR,eV,eC,rG,Qm,Qq,Wq,Qo,Eh,Rt,e]
   rfl
 show(zQ (sIf (tU (tB1 (zN 3 vR (zY (eV 0) (zY (eC (.str zRc)) (zY (eC (.int 60)) zR)))))) (yM (eC .non)) xQ) vO _).bind xR=_
 by_cases hA:((decide (1<=x.length)&&decide ((x.length:Int)<=60))&&zNW x.cps.toList)=true
 · have hB:=hA
   rw[Qc,Qc] at hB
   have h1:1<=x.length:=Wn hB.1.1
   have h2:x.length<=60:=by have:=Wn hB.1.2;omega
   have hd:=hB.2
   rw[hA,Yu] at t0
   have s0:sIf (tU (tB1 (zN 3 vR (zY (eV 0) (zY (eC (.str zRc)) (zY (eC (.int 60)) zR)))))) (yM (eC .non)) xQ [.fz (.str x),.fz (iO m),.no]=some (.nx [.fz (.str x),.fz (iO m),.no]):=by
     unfold sIf
     rw[t0]
     rfl
   rw[yE s0]
   have f:=zPT h1 h
   have z:=zJ1 (x.cps.toList.getD 0 0)
   have hn:zQi x=if 1 < x.length/\x.cps.toList.getD 0 0=48 then none else some ((zPF 0 x.cps.toList:Nat):Int):=by
     unfold zQi
     rw[Qv hA]
   have hi:=zKQ x h1 h2 hd
   have fin:(rT [.fz (.str x),.fz (iO m),.no]).bind xR=some (iO (zYB (some ((zPF 0 x.cps.toList:Nat):Int)) m)):=by
     have s2:yK 2 (sB (eV 0)) [.fz (.str x),.fz (iO m),.no]=some (.nx [.fz (.str x),.fz (iO m),.fz (.int ((zPF 0 x.cps.toList:Nat):Int))]):=by
       simp only[yK,sB,eV,rG,Qm,Qq,hi,Wq,List.set]
     show(zQ _ tO _).bind xR=_
     rw[yE s2]
     cases m with
     | none=>rfl
     | some j =>
       exact zNp x j ((zPF 0 x.cps.toList:Nat):Int)
   by_cases h3:x.cps.toList.getD 0 0=48
   · rw[Qp h3] at z
     by_cases h4:1 < x.length
     · have ne:¬x=Str.ofString "0":=fun q=>by rw[q,zWL] at h4;exact absurd h4 jb
       have g:gNe (.str x) (.str (Str.ofString "0"))=some true:=by
         show(some (decide (x=_))).map _=_
         rw[Qb ne];rfl
       rw[hn,Qv ⟨h4,h3⟩]
       simp only[vO,zQ,sIf,yM,nU,eB2,eIx,f,eV,eC,rG,Qm,Qq,Wq,z,g,Rt]
       cases m<;>rfl
     · have e1:x.length=1:=by omega
       have eq:x=Str.ofString "0":=by
         rw[zWL]
         refine zOF ?_
         cases hx:x.cps.toList with
         | nil=>rw[hx] at hc;simp at hc;omega
         | cons a r =>
           rw[hx] at hc h3
           have hr:r=[]:=Oy (by simp at hc;omega)
           have ha:a=48:=by simpa using h3
           rw[ha,hr]
       have g:gNe (.str x) (.str (Str.ofString "0"))=some false:=by
         show(some (decide (x=_))).map _=_
         rw[Qp eq];rfl
       have s1:vO [.fz (.str x),.fz (iO m),.no]=rT [.fz (.str x),.fz (iO m),.no]:=by
         simp only[vO,zQ,sIf,xQ,nU,eB2,eIx,f,eV,eC,rG,Qm,Qq,Wq,z,g,Rt,Wg,Rp]
       rw[s1,fin,hn,Wh (fun q=>h4 q.1)]
   · rw[Qb h3] at z
     have s1:vO [.fz (.str x),.fz (iO m),.no]=rT [.fz (.str x),.fz (iO m),.no]:=by
       simp only[vO,zQ,sIf,xQ,nU,eB2,eIx,f,eV,eC,rG,Qm,Qq,Wq,z,Wg,Rp]
     rw[s1,fin,hn,Wh (fun q=>h3 q.2)]
 · have hA':((decide (1<=x.length)&&decide ((x.length:Int)<=60))&&zNW x.cps.toList)=false:=by simpa using hA
   rw[hA',Um] at t0
   have n:zQi x=none:=by unfold zQi;rw[Wh hA]
   have s0:sIf (tU (tB1 (zN 3 vR (zY (eV 0) (zY (eC (.str zRc)) (zY (eC (.int 60)) zR)))))) (yM (eC .non)) xQ [.fz (.str x),.fz (iO m),.no]=some (.rt .non):=by
     unfold sIf
     rw[t0]
     rfl
   rw[zZe s0,n]
   cases m<;>rfl
def jB {n:Int}(h0:0<=n)(h:n < 10^61):n.natAbs.log2 < 1920:=by
 by_cases hz:n.natAbs=0
 · rw[hz];decide
 · refine(Nat.log2_lt hz).mpr ?_
   have h1:n.natAbs < 10^61:=jc
   exact Wp h1 ja
def vH (x:Int):Str:=Str.ofString (toString x)
def zGB:∀m:Nat,m < 10->0 < m->Nat.digitChar m≠'0':=jb
def zFt:∀m:Nat,0 < m->∀c r,Nat.toDigits 10 m=c::r->c≠'0':=by
 intro m
 induction m using Nat.strongRecOn with
 | _ m ih =>
   intro h0 c r e
   by_cases h:m < 10
   · rw[Nat.toDigits_of_lt_base h] at e
     injection e with e1 e2
     rw[←e1]
     exact zGB m h h0
   · rw[Nat.toDigits_of_base_le jb jc] at e
     have h1:=ih (m / 10) jc jc
     cases hd:Nat.toDigits 10 (m / 10) with
     | nil=>exact absurd hd Nat.toDigits_ne_nil
     | cons a t =>
       rw[hd] at e
       injection e with e1 e2
       rw[←e1]
       exact h1 a t hd
def zMq {c:Char}(h:c.isDigit=true):48<=c.toNat/\c.toNat<=57:=by
 unfold Char.isDigit at h
 rw[Qc] at h
 exact⟨UInt32.le_iff_toNat_le.mp (Wn h.1),UInt32.le_iff_toNat_le.mp (Wn h.2)⟩
def lP {i:Int}(h0:0<=i):∀c∈(vH i).cps.toList,48<=c/\c<=57:=by
 obtain⟨m,rfl⟩:=Ue h0
 intro c hc
 have hc:c∈(Str.ofString (toString ((m:Nat):Int))).cps.toList:=hc
 rw[Uh] at hc
 obtain⟨a,ha,rfl⟩:=Wj.mp hc
 exact zMq (Nat.isDigit_of_mem_toDigits jb jb ha)
def zJO {i:Int}(h0:0<=i):1<=(vH i).length:=by
 obtain⟨m,rfl⟩:=Ue h0
 have e:(vH (m:Nat)).cps.toList.length=(Nat.toDigits 10 m).length:=by rw[show(vH (m:Nat)).cps.toList=_ from Uh m,Qt]
 have:=Nat.length_toDigits_pos (b:=10) (n:=m)
 rw[zXP] at e
 omega
def uC {i:Int}(h0:0<=i)(h:i < 10^60):1<=(vH i).length/\(vH i).length<=60 :=
 ⟨zJO h0,PyProof.Rows.toString_length_le h0 jb h⟩
def dO {i:Int}(h0:0<=i){c:Nat}(hc:c < 48):wA c (vH i):=fun z=>by have:=lP h0 c z;omega
def zP2 {i:Int}(h0:0<=i)(h:i < 10^60):zQi (vH i)=some i:=by
 obtain⟨l1,l2⟩:=uC h0 h
 have hf:=lP h0
 unfold zQi
 have hd:zNW (vH i).cps.toList=true:=Qn.mpr fun c hc=>Qp ((zPn c).mpr (hf c hc))
 rw[Qp l1,Qp (show((vH i).length:Int)<=60 by omega),hd,Tb,Tb,Qv rfl]
 obtain⟨m,rfl⟩:=Ue h0
 have es:(vH (m:Nat)).cps.toList=(Nat.toDigits 10 m).map Char.toNat:=Uh m
 have ev:zPF 0 (vH (m:Nat)).cps.toList=m:=by
   rw[es]
   exact PySem.W.KIN.val_back m
 rw[Wh,ev]
 rintro⟨g1,g2⟩
 have gl:(vH (m:Nat)).cps.toList.length=(vH (m:Nat)).length:=zXP _
 rw[es,Qt] at gl
 rw[es] at g2
 cases hm:Nat.toDigits 10 m with
 | nil=>exact absurd hm Nat.toDigits_ne_nil
 | cons c r =>
   rw[hm] at g2 gl
   have g2:c.toNat=48:=g2
   have hz:0 < m:=by
     rcases Nat.eq_zero_or_pos m with z | z
     · subst z
       rw[Nat.toDigits_zero] at hm
       injection hm with q1 q2
       rw[←q2] at gl
       have gl:1=(vH ((0:Nat):Int)).length:=gl
       omega
     · exact z
   exact zFt m hz c r hm (Char.ext (UInt32.toNat_inj.mp g2))
def zSB {i:Int}(h0:0<=i)(h:i < 10^60):uJ [.str (vH i),.non]=some (.int i):=by
 have e:=zUN (vH i) none (by have:=(uC h0 h).2;omega)
 rw[zP2 h0 h] at e
 exact e
def zOn {i:Int}(h0:1<=i)(h:i<=999):oR [.str (vH i),.int 1,.int 999]=some (.int i):=by
 have h60:i < 10^60:=Int.lt_of_le_of_lt h ja
 have e:=zUN (vH i) (some 999) (by have:=(uC jc h60).2;omega)
 rw[zP2 jc h60,show zYB (some i) (some 999)=some i from Wh jc] at e
 have e:uJ [.str (vH i),.int 999]=some (.int i):=e
 show(rN [.fz (.str (vH i)),.fz (.int 1),.fz (.int 999),.no]).bind xR=_
 unfold rN
 refine wR ((vD rfl rfl).trans e) ?_
 unfold fH
 refine pI.trans ?_
 have t:pE (eB2 eR (eV 3) (eC .non)) (eB2 gLt (eV 3) (eV 1)) [.fz (.str (vH i)),.fz (.int 1),.fz (.int 999),.fz (.int i)]=some false:=by
   show some (decide (i < 1))=_
   rw[Qb jc]
 show eIf _ _ _ [.fz (.str (vH i)),.fz (.int 1),.fz (.int 999),.fz (.int i)]=_
 unfold eIf
 rw[t]
 rfl
def oC:∀ys:List Str,zVj (ys.map D.str)=some ys
 | []=>rfl
 | y::r=>by rw[Qu,zVj,oC r];rfl
def plT (xs:List Int):Str:=Str.join "," (xs.map vH)
def zWZ:(",":Str)=⟨#[44]⟩:=ja
def Plc (n:Nat)(xs:List Int):Prop:=xs.length=n/\∀x∈xs,0<=x/\x < 10^60
section
variable {n:Nat} (hn:n=2∨n=3) {xs:List Int} (h:Plc n xs)
include hn h
theorem zYV:(∃a b,xs=[a,b])∨∃a b c,xs=[a,b,c]:=by
 obtain⟨hl,_⟩:=h
 match xs,hl with
 | [a,b],_=>exact .inl ⟨a,b,rfl⟩
 | [a,b,c],_=>exact .inr ⟨a,b,c,rfl⟩
 | [],hl=>simp at hl;omega
 | [_],hl=>simp at hl;omega
 | _::_::_::_::_,hl=>simp at hl;omega
theorem zM1:∀c∈(plT xs).cps.toList,c=44∨(48<=c/\c<=57):=by
 have h2:=h.2
 intro c hc
 unfold plT at hc
 rw[zWZ] at hc
 rcases zYV hn h with⟨a,b,rfl⟩ | ⟨a,b,d,rfl⟩
 · have ha:=lP (h2 a jd).1
   have hb:=lP (h2 b jd).1
   simp only[Qu,Wz,qB,Eu,Qh] at hc
   rcases hc with z | z | z
   · exact .inr (ha c z)
   · exact .inl z
   · exact .inr (hb c z)
 · have ha:=lP (h2 a jd).1
   have hb:=lP (h2 b jd).1
   have hd:=lP (h2 d jd).1
   simp only[Qu,Wz,qB,Eu,Qh] at hc
   rcases hc with z | z | z | z | z
   · exact .inr (ha c z)
   · exact .inl z
   · exact .inr (hb c z)
   · exact .inl z
   · exact .inr (hd c z)
theorem zOV {c:Nat}(hc:c < 44):wA c (plT xs):=fun z=>by have:=zM1 hn h c z;omega
theorem zQD:(plT xs).length<=200:=by
 have h2:=h.2
 refine Ep (Up _ _) ?_
 have l:(",":Str).length=1:=ja
 rw[l]
 rcases zYV hn h with⟨a,b,rfl⟩ | ⟨a,b,d,rfl⟩
 · have ha:=h2 a jd
   have hb:=h2 b jd
   have la:=(uC ha.1 ha.2).2
   have lb:=(uC hb.1 hb.2).2
   simp only[Qu,Wz,Rz,Yk,Qo,Eh]
   omega
 · have ha:=h2 a jd
   have hb:=h2 b jd
   have hd:=h2 d jd
   have la:=(uC ha.1 ha.2).2
   have lb:=(uC hb.1 hb.2).2
   have ld:=(uC hd.1 hd.2).2
   simp only[Qu,Wz,Rz,Yk,Qo,Eh]
   omega
theorem zPZ:zZZ [.str (plT xs),.int n]=some (yX xs):=by
 have hl:=zQD hn h
 have hx:=h.2
 have j5:=h.1
 have e:Txt.split (plT xs) ⟨#[44]⟩=xs.map vH:=by
   unfold plT
   rw[zWZ]
   refine pH 44 _ (fun y hy=>?_) ?_
   · obtain⟨x,hx',rfl⟩:=Wj.mp hy
     exact dO (hx x hx').1 jb
   · intro z
     rw[List.map_eq_nil_iff.mp z] at j5
     simp at j5
     omega
 have es:kD (.str (plT xs)) (.str ",")=some ((xs.map vH).map .str):=by
   rw[zWZ]
   show(if 1<=(⟨#[44]⟩:Str).length/\(plT xs).length<=100000 then some ((Txt.split (plT xs) ⟨#[44]⟩).map D.str) else none)=_
   rw[Qv ⟨Ql 1,jc⟩,e]
 have ec:yN (hV (eV 0) (eC (.str ","))) 1 [] (gN 0) tOK (zN 1 tX (zY (eV 0) zR)) [.fz (.str (plT xs)),.fz (.int n),.no]=some (xs.map .int):=by
   unfold yN
   rw[show hV (eV 0) (eC (.str ",")) [.fz (.str (plT xs)),.fz (.int n),.no]=some ((xs.map vH).map .str) from es,Qq,uM (by rw[Qt,Qt];omega),Qq,Rq]
   have go:∀(l:List Int) (x0:B) (j7:List D),(∀x∈l,0<=x/\x < 10^60)->vL (gN 0) tOK (zN 1 tX (zY (eV 0) zR)) (l.map (D.str ∘ vH)) [x0] j7=some (j7++l.map .int):=by
     intro l
     induction l with
     | nil=>intro x0 j7 _;simp[vL]
     | cons x r ih =>
       intro x0 j7 hh
       rw[Qu]
       unfold vL
       have e1:gN 0 ((D.str ∘ vH) x) [x0]=some [.fz (.str (vH x))]:=rfl
       have e2:tOK [.fz (.str (vH x))]=some true:=rfl
       have hx:=hh x Qf
       have e3:zN 1 tX (zY (eV 0) zR) [.fz (.str (vH x))]=some (.int x):=(sH rfl).trans (zSB hx.1 hx.2)
       rw[e1,Qq,e2,Qq,Qv rfl,e3,Qq,ih _ _ fun q hq=>hh q (Qa _ hq)]
       simp
   have g:=go xs .no [] hx
   rw[Ws] at g
   exact g
 show(mO [.fz (.str (plT xs)),.fz (.int n),.no]).bind xR=_
 unfold mO
 refine xZ (ρ':=[.fz (.str (plT xs)),.fz (.int n),.ow (xs.map .int)]) (by unfold uO;rw[ec];rfl) ?_
 unfold zZz
 show(yM (eIf (pE (eB2 gNe (wT (eV 2)) (eV 1)) (eB2 zUp (eC .non) (eV 2))) (eC .non) (wC (eV 2))) [.fz (.str (plT xs)),.fz (.int n),.fz (.lst (xs.map .int))]).bind xR=_
 refine pI.trans ?_
 have hN:(xs.map D.int).all noN=true:=by rw[Iv];exact Qn.mpr fun _ _=>rfl
 have t1:eB2 gNe (wT (eV 2)) (eV 1) [.fz (.str (plT xs)),.fz (.int n),.fz (.lst (xs.map .int))]=some false:=by
   show(some (decide (((xs.map D.int).length:Int)=(n:Nat)))).map (!·)=_
   rw[Qt,j5,Qp rfl]
   rfl
 have t2:eB2 zUp (eC .non) (eV 2) [.fz (.str (plT xs)),.fz (.int n),.fz (.lst (xs.map .int))]=some false:=by
   show(if (xs.map D.int).all noN then some false else none)=_
   rw[Qv hN]
 unfold eIf pE
 rw[t1,Qq,Wh Qj,t2]
 rfl
theorem zXE:pG [yX xs]=some (.str (plT xs)):=by
 have hx:=h.2
 have j5:=h.1
 have hl:=zQD hn h
 have ec:yN (iT (eV 0)) 1 [] (gN 0) tOK (wB (eV 0)) [.fz (yX xs)]=some ((xs.map vH).map .str):=by
   unfold yN
   rw[show iT (eV 0) [.fz (yX xs)]=some (xs.map D.int) from rfl,Qq,uM (by rw[Qt];omega),Qq]
   have go:∀(l:List Int) (x0:B) (j7:List D),(∀x∈l,0<=x/\x < 10^60)->vL (gN 0) tOK (wB (eV 0)) (l.map .int) [x0] j7=some (j7++(l.map vH).map .str):=by
     intro l
     induction l with
     | nil=>intro x0 j7 _;simp[vL]
     | cons x r ih =>
       intro x0 j7 hh
       rw[Qu]
       unfold vL
       have e1:gN 0 (D.int x) [x0]=some [.fz (.int x)]:=rfl
       have e2:tOK [.fz (.int x)]=some true:=rfl
       have hx:=hh x Qf
       have e3:wB (eV 0) [.fz (.int x)]=some (.str (vH x)):=by
         show(if x.natAbs.log2 < 1920 then some (D.str (Str.ofString (toString x))) else none)=_
         rw[Qv (jB hx.1 (Uj hx.2 ja))]
         rfl
       rw[e1,Qq,e2,Qq,Qv rfl,e3,Qq,ih _ _ fun q hq=>hh q (Qa _ hq)]
       simp
   have g:=go xs .no [] hx
   rw[Ws] at g
   exact g
 have hs:(((xs.map vH).map (·.length)).sum+(xs.map vH).length*(",":Str).length)<=100000:=by
   have l:(",":Str).length=1:=ja
   rw[l]
   rcases zYV hn h with⟨a,b,rfl⟩ | ⟨a,b,d,rfl⟩
   · have ha:=hx a jd
     have hb:=hx b jd
     have la:=(uC ha.1 ha.2).2
     have lb:=(uC hb.1 hb.2).2
     simp only[Qu,Wz,Rz,Yk,Qo,Eh]
     omega
   · have ha:=hx a jd
     have hb:=hx b jd
     have hd:=hx d jd
     have la:=(uC ha.1 ha.2).2
     have lb:=(uC hb.1 hb.2).2
     have ld:=(uC hd.1 hd.2).2
     simp only[Qu,Wz,Rz,Yk,Qo,Eh]
     omega
 show(rC [.fz (yX xs)]).bind xR=_
 unfold rC
 refine pI.trans ?_
 unfold vB
 rw[show eC (.str ",") [.fz (yX xs)]=some (D.str ",") from rfl,Qq,ec,Qq]
 dsimp only
 rw[oC,Qq,Qv hs]
 exact Eo (fun z=>some (D.str z)) (Ru _ _)
end
inductive Val | nm (w:Str) | pl (p:List Int) | mn (i:Int) | nb (i:Int)
def wF:Val->D | .nm w=>.str w | .pl p=>yX p | .mn i=>.int i | .nb i=>.int i
def uP:Val->Str | .nm _=>"name" | .pl _=>"place" | .mn _=>"many" | .nb _=>"number"
def wM:Val->Str | .nm w=>w | .pl p=>plT p | .mn i=>vH i | .nb i=>vH i
def iQ (n:Nat):Val->Prop | .nm w=>Wd w | .pl p=>Plc n p | .mn i=>1<=i/\i<=999 | .nb i=>0<=i/\i < 10^60
def fY:List (Str×D):=[("put",(.tup [.str "name",.str "place",.str "place"])),("move",(.tup [.str "name",.str "place",.str "place"])),("take",(.tup [.str "name"])),("names",(.tup [])),("where",(.tup [.str "name"])),("inside",(.tup [.str "place",.str "place"])),("meeting",(.tup [.str "place",.str "place"])),("near",(.tup [.str "place",.str "many"])),("sharing",(.tup [])),("number",(.tup [.str "place"])),("place",(.tup [.str "number"])),("spans",(.tup [.str "place",.str "place"])),("cover",(.tup [.str "place",.str "place",.str "many"]))]
def zM7 (k:Str):Bool:=decide (k.length<=10) && !k.cps.toList.contains 32 && !k.cps.toList.contains 10
def zGe:D:=.lst [.str "names",.str "sharing",.str "take",.str "where"]
structure Key (k:Str)(ks:List Str):Prop where
 look:fY.lookup k=some (.tup (ks.map .str))
 fit:zM7 k=true
 shut:∃b,zNn (.str k) zGe=some b/\(b=true->ks.all (· == "name")=true)
 len:ks.length<=3
def vJ (k:Str)(vs:List Val):D:=.tup (.str k::vs.map wF)
def vG (k:Str)(vs:List Val):List Str:=k::vs.map wM
def zWT (k:Str)(vs:List Val):Str:=Str.join " " (vG k vs)
def zPV {i:Int}(h:1<=i/\i<=999):0<=i/\i < 10^60:=⟨jc,Int.lt_of_le_of_lt h.2 ja⟩
def zPR {n:Nat}(hn:n=2∨n=3){v:Val}(h:iQ n v):wA 32 (wM v)/\wA 10 (wM v)/\(wM v).length<=200:=by
 cases v with
 | nm w=>have h:Wd w:=h;exact⟨h.free.1,h.free.2,by show w.length<=200;have:=h.2.1;omega⟩
 | pl p=>have h:Plc n p:=h;exact⟨zOV hn h jb,zOV hn h jb,zQD hn h⟩
 | mn i=>have h:=zPV h;exact⟨dO h.1 jb,dO h.1 jb,by show(vH i).length<=200;have:=(uC h.1 h.2).2;omega⟩
 | nb i=>have h:0<=i/\i < 10^60:=h;exact⟨dO h.1 jb,dO h.1 jb,by show(vH i).length<=200;have:=(uC h.1 h.2).2;omega⟩
def zK1 {k:Str}(h:zM7 k=true):wA 32 k/\wA 10 k/\k.length<=10:=by
 unfold zM7 at h
 rw[Qc,Qc] at h
 refine⟨fun z=>?_,fun z=>?_,Wn h.1.1⟩
 · have q:=h.1.2
   rw[Rx.mpr z] at q
   exact absurd q jb
 · have q:=h.2
   rw[Rx.mpr z] at q
   exact absurd q jb
theorem zV4 {n:Nat}(hn:n=2∨n=3){v:Val}(h:iQ n v):sP [.str (uP v),.str (wM v),.int n]=some (wF v):=by
 cases v with
 | nm w =>
   have h:Wd w:=h
   show(wY [.fz (.str "name"),.fz (.str w),.fz (.int n)]).bind xR=some (.str w)
   unfold wY
   refine pM je ?_
   unfold eIf
   rw[show tB1 (zN 1 iW (zY (eV 1) zR)) [.fz (.str "name"),.fz (.str w),.fz (.int n)]=some true from by
     unfold tB1
     rw[(sH (x:=.str w) rfl).trans (zPa h)]
     rfl]
   rfl
 | pl p =>
   have h:Plc n p:=h
   show(wY [.fz (.str "place"),.fz (.str (plT p)),.fz (.int n)]).bind xR=some (yX p)
   unfold wY
   refine sW je ?_
   unfold sY
   exact pM je ((vD rfl rfl).trans (zPZ hn h))
 | mn i =>
   have h:1<=i/\i<=999:=h
   show(wY [.fz (.str "many"),.fz (.str (vH i)),.fz (.int n)]).bind xR=some (.int i)
   unfold wY
   refine sW je ?_
   unfold sY
   refine sW je ?_
   unfold qV
   exact pM je ((eB rfl rfl rfl).trans (zOn h.1 h.2))
 | nb i =>
   have h:0<=i/\i < 10^60:=h
   show(wY [.fz (.str "number"),.fz (.str (vH i)),.fz (.int n)]).bind xR=some (.int i)
   unfold wY
   refine sW je ?_
   unfold sY
   refine sW je ?_
   unfold qV
   refine sW je ?_
   unfold eG
   exact pI.trans ((sH rfl).trans (zSB h.1 h.2))
def zKn (x:D):∀l:List D,l.length<=3->zZO (x::l) (some 1) none=l
 | [],_=>rfl
 | [_],_=>rfl
 | [_,_],_=>rfl
 | [_,_,_],_=>rfl
 | _::_::_::_::_,h=>by simp at h
def dN {t u:Tf}{ρ:List B}{a b:Bool}(h1:t ρ=some a)(h2:u ρ=some b):pE t u ρ=some (a||b):=by
 unfold pE
 rw[h1,Qq,h2]
 cases a<;>rfl
def aE {i:Nat}{g:Lf}{ρ:List B}{ds:List D}(h:g ρ=some ds):uO i g ρ=some (.nx (ρ.set i (.ow ds))):=by
 unfold uO
 rw[h]
 rfl
def at0 (x:D)(l:List D):atI (x::l) 0=some x:=by
 unfold atI ixN
 rw[Qv (Int.le_refl 0),Qv (by rw[Qo];omega)]
 rfl
def zHF (k:Str)(vs:List Val)(ρ:List B):eIx (eV 0) jl (.fz (vJ k vs)::ρ)=some (.str k):=at0 _ _
def zTk (k:Str)(vs:List Val)(ρ:List B):yD (zY (eIx (eV 0) jl) zR) (.fz (vJ k vs)::ρ)=some [.str k]:=zTr (zHF k vs ρ)
def zJx (v:Val):noN (wF v)=true:=by cases v<;>rfl
section
variable {n:Nat} (hn:n=2∨n=3) {k:Str} {vs:List Val} (hk:Key k (vs.map uP)) (hv:∀v∈vs,iQ n v)
include hn hk hv
omit hn hv in
theorem zY4:vs.length<=3:=by have:=hk.len;rwa[Qt] at this
theorem zYP:(∀y∈vG k vs,wA 32 y/\wA 10 y/\y.length<=200):=by
 obtain⟨k1,k2,k3⟩:=zK1 hk.fit
 intro y hy
 rcases Qh.mp hy with rfl | hy
 · exact⟨k1,k2,jc⟩
 · obtain⟨v,h,rfl⟩:=Wj.mp hy
   exact zPR hn (hv v h)
theorem zHV:((vG k vs).map (·.length)).sum+(vG k vs).length*(" ":Str).length<=1000:=by
 have hf:=zYP hn hk hv
 have l2:(" ":Str).length=1:=ja
 have hl:=zY4 hk
 have go:∀l:List Str,(∀y∈l,y.length<=200)->(l.map (·.length)).sum<=200*l.length:=by
   intro l
   induction l with
   | nil=>intro _;exact Ql _
   | cons p r ih =>
     intro h
     have h3:=h p Qf
     have h4:=ih fun q hq=>h q (Qa _ hq)
     rw[Qu,Rz,Qo]
     omega
 have h5:=go (vG k vs) fun y hy=>(hf y hy).2.2
 have h6:(vG k vs).length=vs.length+1:=by unfold vG;simp
 rw[l2]
 omega
theorem zSN:(zWT k vs).length<=1000:=Ep (Up _ _) (zHV hn hk hv)
theorem zOc {c:Nat}(hc:c≠32):∀ys:List Str,(∀y∈ys,wA c y)->wA c (Str.join " " ys):=by
 have e:(" ":Str)=⟨#[32]⟩:=bG
 rw[e]
 intro ys
 induction ys with
 | nil=>intro _ z;cases z
 | cons y r ih =>
   intro h z
   cases r with
   | nil=>exact h y Qf z
   | cons y2 r2 =>
     have z:c∈(Str.join ⟨#[32]⟩ (y::y2::r2)).cps.toList:=z
     rw[qB] at z
     rcases Eu.mp z with z | z
     · exact h y Qf z
     · rcases Qh.mp z with z | z
       · exact hc z
       · exact ih (fun q hq=>h q (Qa _ hq)) z
theorem zOd:wA 10 (zWT k vs):=zOc hn hk hv jb _ fun y hy=>(zYP hn hk hv y hy).2.1
theorem zPA:kD (.str (zWT k vs)) (.str " ")=some ((vG k vs).map .str):=by
 have hl:=zSN hn hk hv
 have e:Txt.split (zWT k vs) ⟨#[32]⟩=vG k vs:=by
   unfold zWT
   rw[bG]
   exact pH 32 _ (fun y hy=>(zYP hn hk hv y hy).1) (by unfold vG;exact Tw _ _)
 rw[bG]
 show(if 1<=(⟨#[32]⟩:Str).length/\(zWT k vs).length<=100000 then some ((Txt.split (zWT k vs) ⟨#[32]⟩).map D.str) else none)=_
 rw[Qv ⟨Ql 1,jc⟩,e]
theorem zLZ {v:Val}(h:iQ n v)(x0:B)(x2:B)(ws:List D)(hl:ws.length<=100):tH [x0,.ow ws,.fz (wF v)]=some (.nx [x0,.ow (ws++[.str (wM v)]),.fz (wF v)]):=by
 unfold tH sIf
 cases v with
 | nm w =>
   rw[show tB1 (pK rX (eV 2)) [x0,.ow ws,.fz (wF (.nm w))]=some false from rfl,Qq,Wh Qj,rH (d:=.str w) (ds:=ws) rfl rfl jc]
   rfl
 | pl p =>
   have h:Plc n p:=h
   rw[show tB1 (pK rX (eV 2)) [x0,.ow ws,.fz (wF (.pl p))]=some true from rfl,Qq,Qv rfl,rH (d:=.str (plT p)) (ds:=ws) ((sH (x:=yX p) rfl).trans (zXE hn h)) rfl jc]
   rfl
 | mn i =>
   have h:=zPV h
   rw[show tB1 (pK rX (eV 2)) [x0,.ow ws,.fz (wF (.mn i))]=some false from rfl,Qq,Wh Qj,rH (d:=.str (vH i)) (ds:=ws) (by
     show(if i.natAbs.log2 < 1920 then some (D.str (Str.ofString (toString i))) else none)=_
     rw[Qv (jB h.1 (Uj h.2 ja))]
     rfl) rfl jc]
   rfl
 | nb i =>
   have h:0<=i/\i < 10^60:=h
   rw[show tB1 (pK rX (eV 2)) [x0,.ow ws,.fz (wF (.nb i))]=some false from rfl,Qq,Wh Qj,rH (d:=.str (vH i)) (ds:=ws) (by
     show(if i.natAbs.log2 < 1920 then some (D.str (Str.ofString (toString i))) else none)=_
     rw[Qv (jB h.1 (Uj h.2 ja))]
     rfl) rfl jc]
   rfl
theorem zS3 (x0:B):∀(l:List Val) (x2:B) (ws:List D),(∀v∈l,iQ n v)->ws.length+l.length<=100->∃y2,mS (gN 2) tH (l.map wF) [x0,.ow ws,x2]=some (.nx [x0,.ow (ws++l.map fun v=>.str (wM v)),y2])
 | [],x2,ws,_,_=>⟨x2,by rw[Wz,Wz,Wx,mS]⟩
 | v::r,x2,ws,h,hl=>by
   rw[Qo] at hl
   obtain⟨y2,e⟩:=zS3 x0 r (.fz (wF v)) (ws++[.str (wM v)]) (fun q hq=>h q (Qa _ hq)) (by rw[Qk,Ey];omega)
   refine⟨y2,?_⟩
   rw[Qu,nB (ρ1:=[x0,.ow ws,.fz (wF v)]) rfl (zLZ hn hk hv (h v Qf) x0 x2 ws jc),e,Ex,Rc,Qu]
theorem zR7:lI [vJ k vs]=some (.str (zWT k vs)):=by
 have hl:=zY4 hk
 obtain⟨y2,e⟩:=zS3 hn hk hv (.fz (vJ k vs)) vs .no [.str k] hv (by rw[Ey];omega)
 show(sQ [.fz (vJ k vs),.no,.no]).bind xR=_
 unfold sQ
 refine xZ (ρ':=[.fz (vJ k vs),.ow [.str k],.no]) (by unfold uO;rw[zTk];rfl) ?_
 unfold pJ
 refine xZ (ρ':=[.fz (vJ k vs),.ow ((vG k vs).map .str),y2]) (by
   unfold pQ
   rw[show iT (zZg (eV 0) (sI jm) oNo) [.fz (vJ k vs),.ow [.str k],.no]=some (vs.map wF) from by
     show some (zZO (.str k::vs.map wF) (some 1) none)=_
     rw[zKn _ _ (by rw[Qt];exact hl)],Qq,e]
   unfold vG
   rw[Qu,Rq]
   rfl) ?_
 unfold jD
 show(yM (vB (eC (.str " ")) (iL (eV 1))) [.fz (vJ k vs),.fz (.lst ((vG k vs).map .str)),y2]).bind xR=_
 refine pI.trans ?_
 unfold vB
 rw[show eC (.str " ") [.fz (vJ k vs),.fz (.lst ((vG k vs).map .str)),y2]=some (D.str " ") from rfl,Qq,show iL (eV 1) [.fz (vJ k vs),.fz (.lst ((vG k vs).map .str)),y2]=some ((vG k vs).map .str) from rfl,Qq]
 dsimp only
 rw[oC,Qq,Qv (Ep (zHV hn hk hv) jb)]
 exact Eo (fun z=>some (D.str z)) (Ru _ _)
theorem zPr:∀l:List Val,sD (l.map fun v=>.str (uP v)) (l.map fun v=>.str (wM v))=l.map fun v=>.tup [.str (uP v),.str (wM v)]
 | []=>rfl
 | v::r=>by rw[Qu,Qu,Qu,sD,zPr r]
theorem zUP (r:B):∀(l:List Val) (x0 x1:B) (j7:List D),(∀v∈l,iQ n v)->vL (gT (zM (gN 0) (zM (gN 1) xI))) tOK (zN 3 sP (zY (eV 0) (zY (eV 1) (zY (eV 2) zR)))) (l.map fun v=>.tup [.str (uP v),.str (wM v)]) [x0,x1,.fz (.int n)] j7=some (j7++l.map wF)
 | [],_,_,j7,_=>by simp[vL]
 | v::t,x0,x1,j7,h=>by
   rw[Qu]
   unfold vL
   have e1:gT (zM (gN 0) (zM (gN 1) xI)) (.tup [.str (uP v),.str (wM v)]) [x0,x1,.fz (.int n)]=some [.fz (.str (uP v)),.fz (.str (wM v)),.fz (.int n)]:=rfl
   have e2:tOK [.fz (.str (uP v)),.fz (.str (wM v)),.fz (.int n)]=some true:=rfl
   have e3:zN 3 sP (zY (eV 0) (zY (eV 1) (zY (eV 2) zR))) [.fz (.str (uP v)),.fz (.str (wM v)),.fz (.int n)]=some (wF v):=(eB rfl rfl rfl).trans (zV4 hn (h v Qf))
   rw[e1,Qq,e2,Qq,Qv rfl,e3,Qq,zUP r t _ _ _ fun q hq=>h q (Qa _ hq)]
   simp
theorem zTw (r:Int):kX [.lst ((vG k vs).map .str),.int n,.int r]=some (vJ k vs):=by
 have hl:=zY4 hk
 have hlk:fY.lookup k=some (.tup (vs.map fun v=>.str (uP v))):=by have:=hk.look;rwa[Rq] at this
 have hw:(vG k vs).map D.str = .str k::vs.map fun v=>.str (wM v):=by unfold vG;rw[Qu,Rq];rfl
 rw[hw]
 have e0:∀x3:B,eIx (eV 0) jl [.fz (.lst (.str k::vs.map fun v=>.str (wM v))),.fz (.int n),.fz (.int r),x3]=some (.str k):=fun x3=>at0 _ _
 have eix:∀x3:B,zZU fY (eIx (eV 0) jl) [.fz (.lst (.str k::vs.map fun v=>.str (wM v))),.fz (.int n),.fz (.int r),x3]=some (.tup (vs.map fun v=>.str (uP v))):=fun x3=>by
   unfold zZU
   rw[e0,Qq]
   exact hlk
 have t1:zSV false fY (eIx (eV 0) jl) [.fz (.lst (.str k::vs.map fun v=>.str (wM v))),.fz (.int n),.fz (.int r),.no]=some false:=by
   unfold zSV
   rw[e0,Qq]
   dsimp only
   rw[hlk]
   rfl
 have t2:eB2 gNe (wT (eV 0)) (uU jm (wT (zZU fY (eIx (eV 0) jl)))) [.fz (.lst (.str k::vs.map fun v=>.str (wM v))),.fz (.int n),.fz (.int r),.no]=some false:=by
   have a1:wT (eV 0) [.fz (.lst (.str k::vs.map fun v=>.str (wM v))),.fz (.int n),.fz (.int r),.no]=some (.int ((vs.length:Int)+1)):=by
     show some (D.int (((.str k::vs.map fun v=>.str (wM v)):List D).length:Nat))=_
     rw[Qo,Qt]
     rfl
   have a2:wT (zZU fY (eIx (eV 0) jl)) [.fz (.lst (.str k::vs.map fun v=>.str (wM v))),.fz (.int n),.fz (.int r),.no]=some (.int (vs.length:Nat)):=by
     unfold wT
     rw[eix,Qq]
     show some (D.int ((vs.map fun v=>D.str (uP v)).length:Nat))=_
     rw[Qt]
   have a3:uU jm (wT (zZU fY (eIx (eV 0) jl))) [.fz (.lst (.str k::vs.map fun v=>.str (wM v))),.fz (.int n),.fz (.int r),.no]=some (.int (1+(vs.length:Nat))):=yZ rfl a2 rfl
   unfold eB2
   rw[a1,Qq,a3,Qq]
   show(some (decide ((vs.length:Int)+1=1+(vs.length:Nat)))).map (!·)=_
   rw[Qp jc]
   rfl
 have hN:(vs.map wF).all noN=true:=by rw[Iv];exact Qn.mpr fun v _=>zJx v
 show(oV [.fz (.lst (.str k::vs.map fun v=>.str (wM v))),.fz (.int n),.fz (.int r),.no]).bind xR=_
 unfold oV
 refine sW (dN t1 t2) ?_
 unfold jP
 refine xZ (ρ':=[.fz (.lst (.str k::vs.map fun v=>.str (wM v))),.fz (.int n),.fz (.int r),.ow (vs.map wF)]) (by
   have e:yN (zRr (zZU fY (eIx (eV 0) jl)) (eL (jX (eV 0) (sI jm) oNo))) 2 [1] (gT (zM (gN 0) (zM (gN 1) xI))) tOK (zN 3 sP (zY (eV 0) (zY (eV 1) (zY (eV 2) zR)))) [.fz (.lst (.str k::vs.map fun v=>.str (wM v))),.fz (.int n),.fz (.int r),.no]=some (vs.map wF):=by
     unfold yN
     rw[show zRr (zZU fY (eIx (eV 0) jl)) (eL (jX (eV 0) (sI jm) oNo)) [.fz (.lst (.str k::vs.map fun v=>.str (wM v))),.fz (.int n),.fz (.int r),.no]=some (vs.map fun v=>.tup [.str (uP v),.str (wM v)]) from by
       unfold zRr zXj
       rw[eix,Qq,show eL (jX (eV 0) (sI jm) oNo) [.fz (.lst (.str k::vs.map fun v=>.str (wM v))),.fz (.int n),.fz (.int r),.no]=some (.lst (vs.map fun v=>.str (wM v))) from by
         show some (D.lst (zZO (.str k::vs.map fun v=>.str (wM v)) (some 1) none))=_
         rw[zKn _ _ (by rw[Qt];exact hl)],Qq]
       dsimp only
       rw[zPr hn hk hv],Qq,uM (by rw[Qt];omega),Qq]
     have q:=zUP hn hk hv (.fz (.int r)) vs .no .no [] hv
     rw[Ws] at q
     exact q
   exact aE e) ?_
 unfold jW
 refine xZ (ρ':=[.fz (.lst (.str k::vs.map fun v=>.str (wM v))),.fz (.int n),.fz (.int r),.fz (.lst (vs.map wF))]) (by
   show sIf (eB2 zUp (eC .non) (eV 3)) (fun _=>none) xQ [.fz (.lst (.str k::vs.map fun v=>.str (wM v))),.fz (.int n),.fz (.int r),.fz (.lst (vs.map wF))]=_
   unfold sIf
   rw[show eB2 zUp (eC .non) (eV 3) [.fz (.lst (.str k::vs.map fun v=>.str (wM v))),.fz (.int n),.fz (.int r),.fz (.lst (vs.map wF))]=some false from by
     show(if (vs.map wF).all noN then some false else none)=_
     rw[Qv hN]]
   rfl) ?_
 unfold aX
 refine pI.trans ?_
 unfold zYf
 rw[zZA (ds:=[.str k]) (zK (e0 _) rfl) jd,Qq]
 show(if [D.str k].length+(vs.map wF).length<=1000 then some (D.tup ([.str k]++vs.map wF)) else none)=_
 rw[Qv (by rw[Qt];show 1+vs.length<=1000;omega)]
 rfl
end
def zGp (v:Val){n:Nat}(h:iQ n v)(hn:n<=1000):okS 3 (wF v)=true:=by
 cases v with
 | nm w=>rfl
 | pl p=>exact zIM (n:=1) (by have h:Plc n p:=h;rw[h.1];exact hn)
 | mn i=>rfl
 | nb i=>rfl
def zTF (c f:Int):0<=zXb c f:=by unfold zXb;omega
def Low (n:Nat)(b:Int)(xs:List Int):Prop:=xs.length=n/\∀x∈xs,0<=x/\x < b
def Rng (n:Nat)(b:Int)(xs:List Int):Prop:=xs.length=n/\∀x∈xs,-1<=x/\x < b
def zSS {f:Ef}{ρ:List B}{a:Nat}(h:f ρ=some (.int (a:Nat)))(ha:a<=1000):zX7 jm f ρ=some (.int (2^a)):=by
 refine(yZ (C:=zUj) (g:=fun i j=>i*2^j.toNat) (fa:=eC (.int 1)) (fb:=f) (i:=1) (j:=(a:Nat)) rfl h (by
   unfold zUj
   rw[Qp (show(0:Int)<=(a:Nat) by omega),Qp (show((a:Nat):Int)<=1000000 by omega),Qp (show(1:Int).natAbs < 2^64 by decide)]
   rfl)).trans ?_
 rw[Int.one_mul,Rs]
def zJM {f:Ef}{ρ:List B}{n:Nat}(h:f ρ=some (.int (n:Nat)))(hn:n<=1000):iR f ρ=some (tD 0 n):=by
 have e:=zPP h jc jc
 rwa[Rs] at e
def zIY {a:Nat}(ha:a<=6):(1:Int)<=2^a/\(2:Int)^a<=64:=by
 have z:a=0∨a=1∨a=2∨a=3∨a=4∨a=5∨a=6:=jc
 rcases z with rfl | rfl | rfl | rfl | rfl | rfl | rfl<;>decide
def zZF {xs:List Int}{P:Int->Prop}(h:∀x∈xs,P x){i:Int}(h0:0<=i)(h1:i < xs.length):∃x,atI (xs.map D.int) i=some (.int x)/\P x:=by
 obtain⟨x,hx,e⟩:=zUv h0 h1
 exact⟨x,by rw[bY,e];rfl,h x hx⟩
section
variable {n:Nat} (hn:n=2∨n=3) {a:Nat} (ha:a<=6)
include hn ha
theorem zJe (c:Int):∃xs,aT [.int c,.int n,.int a]=some (yX xs)/\Low n (2^a) xs:=by
 obtain⟨p1,p2⟩:=zIY ha
 obtain⟨xs,e,hl,hq⟩:=cE (α:=Int) (elt:=xG (zN 2 vY (zY (eV 1) (zY (uU (eC (.int 16807)) (rY (eC (.int 14)) (eV 0))) zR))) (zX7 jm (eV 2))) (f:=D.int) (Q:=fun x=>0<=x/\x < 2^a) (rest:=[.fz (.int c),.fz (.int a)]) (tD 0 n) .no [] (fun d hd=>by
   obtain⟨i,hi,rfl⟩:=jA hd
   refine⟨zXb c (16807+14*(0+(i:Nat))) % 2^a,?_,Rn _ jc,Rl _ jc⟩
   exact yZ ((vD (x:=.int c) (y:=.int (16807+14*(0+(i:Nat)))) rfl (yZ rfl (yZ rfl rfl (rE jb jb)) rfl)).trans (aS _ _ jc jc)) (zSS (a:=a) rfl jc) (Qp jc))
 rw[Ws] at e
 rw[tT] at hl
 refine⟨xs,?_,hl,hq⟩
 show(gH [.fz (.int c),.fz (.int n),.fz (.int a)]).bind xR=_
 unfold gH
 refine pI.trans ?_
 unfold wC
 rw[bL (ds:=xs.map D.int) (by
   unfold yN
   rw[zJM (n:=n) rfl jc,Qq,uM (by rw[tT];omega),Qq]
   exact e)]
 rfl
theorem zLv {t:Tf}{f g:Sf}{ρ:List B}{b:Bool}{P:List B->Prop}(ht:t ρ=some b)(h0:P ρ)(h1:∃ρ',f ρ=some (.nx ρ')/\P ρ'):∃ρ',zQ (sIf t f xQ) g ρ=g ρ'/\P ρ':=by
 cases b with
 | true =>
   obtain⟨ρ',e,h⟩:=h1
   exact⟨ρ',yE ((rZ ht).trans (by rw[Qv rfl];exact e)),h⟩
 | false=>exact⟨ρ,yE ((rZ ht).trans (by rw[Wh Qj])),h0⟩
theorem zUg {fi fv:Ef}{ρ:List B}{i:Nat}{xs:List Int}{j v:Int}(hx:ρ[i]?=some (.ow (xs.map D.int)))(hl:xs.length<=1000)(h1:fi ρ=some (.int j))(h2:fv ρ=some (.int v))(j0:0<=j)(j1:j < xs.length):eJ i fi fv ρ=some (.nx (ρ.set i (.ow ((xs.set j.toNat v).map D.int)))):=by
 unfold eJ
 rw[h2,Qq,h1,Qq,hx]
 show(if (xs.map D.int).length<=100000 then(ixN (xs.map D.int).length j).map _ else none)=_
 rw[Qt,Qv jc]
 unfold ixN
 rw[Qv j0,Qv j1,Wq,List.map_set]
theorem zTn {xs:List Int}{P:Int->Prop}{j:Nat}{v:Int}(h:∀x∈xs,P x)(hv:P v):∀x∈xs.set j v,P x:=fun x hx=>by
 rcases List.mem_or_eq_of_mem_set hx with z | z
 · exact h x z
 · rw[z];exact hv
theorem zJX:(10:Int)^(17:Int).toNat+100<=10^60:=ja
theorem zLw (c m:Int)(hm:0 < m)(hm2:m<=100):∃lo hi,cA [.int c,.int n,.int a,.int m]=some (.tup [yX lo,yX hi])/\Rng n (10^60) lo/\Rng n (10^60) hi:=by
 obtain⟨p1,p2⟩:=zIY ha
 have big:=zJX hn ha
 obtain⟨lo,elo,llo,hlo⟩:=zJe hn ha c
 obtain⟨fr,efr,lfr,hfr⟩:=cE (α:=Int) (elt:=xG (zN 2 vY (zY (eV 2) (zY (uU (eC (.int 69621)) (rY (eC (.int 22)) (eV 0))) zR))) (eV 1)) (f:=D.int) (Q:=fun x=>0<=x/\x < m) (rest:=[.fz (.int m),.fz (.int c)]) (tD 0 n) .no [] (fun d hd=>by
   obtain⟨i,hi,rfl⟩:=jA hd
   refine⟨zXb c (69621+22*(0+(i:Nat))) % m,?_,Rn _ jc,Rl _ jc⟩
   exact yZ ((vD (x:=.int c) (y:=.int (69621+22*(0+(i:Nat)))) rfl (yZ rfl (yZ rfl rfl (rE jb jb)) rfl)).trans (aS _ _ jc jc)) rfl (Qp hm))
 rw[Ws] at efr
 rw[tT] at lfr
 obtain⟨hi,ehi,lhi,hhi⟩:=cE (α:=Int) (elt:=zKB (rB (zX7 jm (eV 1)) jm) (uU (eIx (eV 2) (eV 0)) (eIx (eV 3) (eV 0)))) (f:=D.int) (Q:=fun x=>0<=x/\x < 64) (rest:=[.fz (.int a),.fz (yX lo),.fz (.lst (fr.map .int))]) (tD 0 n) .no [] (fun d hd=>by
   obtain⟨i,hi,rfl⟩:=jA hd
   obtain⟨x,ex,hx⟩:=zZF (i:=0+(i:Nat)) hlo jc jc
   obtain⟨y,ey,hy⟩:=zZF (i:=0+(i:Nat)) hfr jc jc
   refine⟨if x+y < 2^a - 1 then x+y else 2^a - 1,?_,?_⟩
   · have s1:rB (zX7 jm (eV 1)) jm [.fz (.int (0+(i:Nat))),.fz (.int a),.fz (yX lo),.fz (.lst (fr.map .int))]=some (.int (2^a - 1)):=yZ (zSS (a:=a) rfl jc) rfl rfl
     have s2:uU (eIx (eV 2) (eV 0)) (eIx (eV 3) (eV 0)) [.fz (.int (0+(i:Nat))),.fz (.int a),.fz (yX lo),.fz (.lst (fr.map .int))]=some (.int (x+y)):=yZ ((sC (x:=yX lo) (y:=.int (0+(i:Nat))) rfl rfl).trans ex) ((sC (x:=.lst (fr.map .int)) (y:=.int (0+(i:Nat))) rfl rfl).trans ey) rfl
     unfold zKB
     rw[s1,Qq,s2]
     rfl
   · split<;>omega)
 rw[Ws] at ehi
 rw[tT] at lhi
 have ew:=aS c 39373 jb jb
 have w0:=zTF c 39373
 generalize zXb c 39373=w at ew w0
 obtain⟨j,ej,j0,j1⟩:∃j:Int,w / 24 % (n:Nat)=j/\0<=j/\j < n:=⟨_,rfl,Rn _ jc,Rl _ jc⟩
 show ∃lo hi,(kT [.fz (.int c),.fz (.int n),.fz (.int a),.fz (.int m),.no,.no,.no,.no,.no]).bind xR=_/\_
 unfold kT
 rw[pO ((eB rfl rfl rfl).trans elo)]
 dsimp only[List.set]
 unfold cQ
 rw[pO (d:=.lst (fr.map .int)) (bL (by
   unfold yN
   rw[zJM (n:=n) rfl jc,Qq,uM (by rw[tT];omega),Qq]
   exact efr))]
 dsimp only[List.set]
 unfold eO
 rw[yE (ρ':=[.fz (.int c),.fz (.int n),.fz (.int a),.fz (.int m),.fz (yX lo),.fz (.lst (fr.map .int)),.ow (hi.map .int),.no,.no]) (aE (by
   unfold yN
   rw[zJM (n:=n) rfl jc,Qq,uM (by rw[tT];omega),Qq]
   exact ehi))]
 unfold dZ
 rw[pO ((vD rfl rfl).trans ew)]
 dsimp only[List.set]
 unfold dX
 rw[pO (d:=.int j) (by rw[←ej];exact yZ (yZ rfl rfl rfl) rfl (Qp jc))]
 dsimp only[List.set]
 unfold dG
 obtain⟨_,e1,h1,⟨l1,q1⟩,rfl⟩:=zLv hn ha (t:=eB2 gEq (xG (eV 7) (eC (.int 12))) jl) (f:=eJ 6 (eV 8) (rB (eIx (eV 4) (eV 8)) jm)) (g:=kN) (P:=fun ρ=>∃xs:List Int,Rng n 64 xs/\ρ=[.fz (.int c),.fz (.int n),.fz (.int a),.fz (.int m),.fz (yX lo),.fz (.lst (fr.map .int)),.ow (xs.map .int),.fz (.int w),.fz (.int j)]) (wX (x:=w % 12) (yZ rfl rfl rfl)) ⟨hi,⟨lhi,fun x hx=>by have:=hhi x hx;omega⟩,rfl⟩ (by
     obtain⟨x,ex,hx⟩:=zZF (i:=j) hlo j0 jc
     refine⟨_,zUg hn ha (xs:=hi) (j:=j) (v:=x - 1) rfl jc rfl (yZ ((sC (x:=yX lo) (y:=.int j) rfl rfl).trans ex) rfl rfl) j0 jc,hi.set j.toNat (x - 1),⟨by rw[Tk];exact lhi,zTn hn ha (fun x hx=>by have:=hhi x hx;omega) jc⟩,rfl⟩)
 rw[e1]
 unfold kN
 obtain⟨_,e2,h2,⟨l2,q2⟩,rfl⟩:=zLv hn ha (t:=eB2 gEq (xG (eV 7) (eC (.int 12))) jm) (f:=eJ 6 (eV 8) (uU (zX7 jm (eV 2)) (xG (wJ (eV 7) (eC (.int 72))) jo))) (g:=kK) (P:=fun ρ=>∃xs:List Int,Rng n 100 xs/\ρ=[.fz (.int c),.fz (.int n),.fz (.int a),.fz (.int m),.fz (yX lo),.fz (.lst (fr.map .int)),.ow (xs.map .int),.fz (.int w),.fz (.int j)]) (wX (x:=w % 12) (yZ rfl rfl rfl)) ⟨h1,⟨l1,fun x hx=>by have:=q1 x hx;omega⟩,rfl⟩ (by
     refine⟨_,zUg hn ha (xs:=h1) (j:=j) (v:=2^a+w / 72 % 3) rfl jc rfl (yZ (zSS (a:=a) rfl jc) (yZ (yZ rfl rfl rfl) rfl rfl) rfl) j0 jc,h1.set j.toNat (2^a+w / 72 % 3),⟨by rw[Tk];exact l1,zTn hn ha (fun x hx=>by have:=q1 x hx;omega) jc⟩,rfl⟩)
 rw[e2]
 unfold kK
 obtain⟨_,e3,h3,r3,rfl⟩:=zLv hn ha (t:=eB2 gEq (xG (eV 7) (eC (.int 12))) jn) (f:=eJ 6 (eV 8) (uU (zNt 6 (eV 8)) (zSL (eC (.int 10)) (eC (.int 17))))) (g:=dH) (P:=fun ρ=>∃xs:List Int,Rng n (10^60) xs/\ρ=[.fz (.int c),.fz (.int n),.fz (.int a),.fz (.int m),.fz (yX lo),.fz (.lst (fr.map .int)),.ow (xs.map .int),.fz (.int w),.fz (.int j)]) (wX (x:=w % 12) (yZ rfl rfl rfl)) ⟨h2,⟨l2,fun x hx=>by have:=q2 x hx;exact⟨this.1,Yl this.2 ja⟩⟩,rfl⟩ (by
     obtain⟨x,ex,hx⟩:=zZF (i:=j) q2 j0 jc
     refine⟨_,zUg hn ha (xs:=h2) (j:=j) (v:=x+10^(17:Int).toNat) rfl jc rfl (yZ (i:=x) (j:=10^(17:Int).toNat) ex (yZ (C:=zUj) (g:=fun i j=>i^j.toNat) (i:=10) (j:=17) rfl rfl jb) rfl) j0 jc,h2.set j.toNat (x+10^(17:Int).toNat),⟨by rw[Tk];exact l2,zTn hn ha (fun x hx=>by have:=q2 x hx;exact⟨this.1,Yl this.2 ja⟩) ?_⟩,rfl⟩
     have g0:(0:Int)<=10^(17:Int).toNat:=ja
     exact⟨jc,jc⟩)
 rw[e3]
 unfold dH
 exact⟨lo,h3,rfl,⟨llo,fun x hx=>by have:=hlo x hx;exact⟨jc,Yl (show x < 64 by omega) ja⟩⟩,r3⟩
end
def zSX (n:Nat):Val->Prop | .nm w=>Wd w | .pl p=>Rng n (10^60) p | .mn i=>1<=i/\i<=999 | .nb i=>0<=i/\i < 10^60
def bT (n:Nat)(d:D):Prop:=∃k vs,d=vJ k vs/\Key k (vs.map uP)/\∀v∈vs,zSX n v
theorem zKw:Key "put" ["name","place","place"]:=⟨je,je,⟨false,je,fun h=>by cases h⟩,jb⟩
theorem zMa:Key "move" ["name","place","place"]:=⟨je,je,⟨false,je,fun h=>by cases h⟩,jb⟩
theorem zMi:Key "take" ["name"]:=⟨je,je,⟨true,je,fun h=>je⟩,jb⟩
theorem zNe:Key "where" ["name"]:=⟨je,je,⟨true,je,fun h=>je⟩,jb⟩
theorem zNE:Key "names" []:=⟨je,je,⟨true,je,fun h=>je⟩,jb⟩
theorem zRV:Key "sharing" []:=⟨je,je,⟨true,je,fun h=>je⟩,jb⟩
theorem zQt:Key "inside" ["place","place"]:=⟨je,je,⟨false,je,fun h=>by cases h⟩,jb⟩
theorem zSz:Key "meeting" ["place","place"]:=⟨je,je,⟨false,je,fun h=>by cases h⟩,jb⟩
theorem zMv:Key "near" ["place","many"]:=⟨je,je,⟨false,je,fun h=>by cases h⟩,jb⟩
theorem zQg:Key "number" ["place"]:=⟨je,je,⟨false,je,fun h=>by cases h⟩,jb⟩
theorem zUG:Key "place" ["number"]:=⟨je,je,⟨false,je,fun h=>by cases h⟩,jb⟩
theorem zN0:Key "spans" ["place","place"]:=⟨je,je,⟨false,je,fun h=>by cases h⟩,jb⟩
theorem zN7:Key "cover" ["place","place","many"]:=⟨je,je,⟨false,je,fun h=>by cases h⟩,jb⟩
def zGj {f:Ef}{ρ:List B}{i:Int}(h:f ρ=some (.int i)):xG f (zSL (eC (.int 10)) (eC (.int 60))) ρ=some (.int (i % 10^60)):=by
 have e:=yZ (C:=fun _ j=>decide (0 < j)) (g:=fun i j=>i % j) (fa:=f) (fb:=zSL (eC (.int 10)) (eC (.int 60))) (ρ:=ρ) (i:=i) (j:=10^(60:Int).toNat) h (yZ (C:=zUj) (g:=fun i j=>i^j.toNat) (i:=10) (j:=60) rfl rfl jb) ja
 exact e
def zNb (i:Int):0<=i % 10^60/\i % 10^60 < 10^60:=⟨Rn _ ja,Rl _ ja⟩
def zOS {f:Ef}{ρ:List B}{x k:Int}(h:f ρ=some (.int x)):eB2 gLt f (eC (.int k)) ρ=some (decide (x < k)):=by unfold eB2;rw[h];rfl
def zPc {n:Nat}{k:Str}(hk:Key k []):bT n (vJ k []):=⟨k,[],rfl,hk,fun v h=>nomatch h⟩
def zZ9 {n:Nat}{k:Str}{v:Val}(hk:Key k [uP v])(h:zSX n v):bT n (vJ k [v]):=⟨k,[v],rfl,hk,fun u hu=>by rw[Wm.mp hu];exact h⟩
def zXL {n:Nat}{k:Str}{v u:Val}(hk:Key k [uP v,uP u])(h:zSX n v)(h':zSX n u):bT n (vJ k [v,u]):=⟨k,[v,u],rfl,hk,fun z hz=>by
 rcases Qh.mp hz with rfl | hz
 · exact h
 · rw[Wm.mp hz];exact h'⟩
def zYL {n:Nat}{k:Str}{v u t:Val}(hk:Key k [uP v,uP u,uP t])(h:zSX n v)(h':zSX n u)(h'':zSX n t):bT n (vJ k [v,u,t]):=⟨k,[v,u,t],rfl,hk,fun z hz=>by
 rcases Qh.mp hz with rfl | hz
 · exact h
 · rcases Qh.mp hz with rfl | hz
   · exact h'
   · rw[Wm.mp hz];exact h''⟩
section
variable {n:Nat} (hn:n=2∨n=3) {a:Nat} (ha:a<=6)
include hn ha
theorem zLl (c dr:Int)(dr0:0<=dr)(names:D)(w:Str)(hw:Wd w)(lo hi lo' hi':List Int)(r1:Rng n (10^60) lo)(r2:Rng n (10^60) hi)(r3:Rng n (10^60) lo')(r4:Rng n (10^60) hi')(m:Int)(hm:1<=m/\m<=999)(x4:B)(z:Int)(z0:0<=z)(z1:z < 20) :
   ∃d,(nN [.fz (.int c),.fz (.int n),.fz (.int a),.fz names,x4,.fz (.int dr),.fz (.str w),.fz (yX lo),.fz (yX hi),.fz (.tup [yX lo',yX hi']),.fz (.int m),.fz (.int z)]).bind xR=some d/\bT n d:=by
 generalize hρ:[B.fz (.int c),.fz (.int n),.fz (.int a),.fz names,x4,.fz (.int dr),.fz (.str w),.fz (yX lo),.fz (yX hi),.fz (.tup [yX lo',yX hi']),.fz (.int m),.fz (.int z)]=ρ
 have v0:eV 0 ρ=some (.int c):=by rw[←hρ];rfl
 have v1:eV 1 ρ=some (.int n):=by rw[←hρ];rfl
 have v2:eV 2 ρ=some (.int a):=by rw[←hρ];rfl
 have v5:eV 5 ρ=some (.int dr):=by rw[←hρ];rfl
 have v6:eV 6 ρ=some (.str w):=by rw[←hρ];rfl
 have v7:eV 7 ρ=some (yX lo):=by rw[←hρ];rfl
 have v8:eV 8 ρ=some (yX hi):=by rw[←hρ];rfl
 have v9:eV 9 ρ=some (.tup [yX lo',yX hi']):=by rw[←hρ];rfl
 have v10:eV 10 ρ=some (.int m):=by rw[←hρ];rfl
 have v11:eV 11 ρ=some (.int z):=by rw[←hρ];rfl
 clear hρ
 have k1:∀s:Str,eC (.str s) ρ=some (.str s):=fun s=>rfl
 have tup1:∀ {f:Ef} {x:D},f ρ=some x->yT (zY f zR) ρ=some (.tup [x]):=fun h=>zZA (zK h rfl) jd
 have tup2:∀ {f g:Ef} {x y:D},f ρ=some x->g ρ=some y->yT (zY f (zY g zR)) ρ=some (.tup [x,y]):=fun h h'=>zZA (zK h (zK h' rfl)) jd
 have zMm:∀ {f g e:Ef} {x y u:D},f ρ=some x->g ρ=some y->e ρ=some u->yT (zY f (zY g (zY e zR))) ρ=some (.tup [x,y,u]):=fun h h' h''=>zZA (zK h (zK h' (zK h'' rfl))) jd
 have tup4:∀ {f g e i:Ef} {x y u v:D},f ρ=some x->g ρ=some y->e ρ=some u->i ρ=some v->yT (zY f (zY g (zY e (zY i zR)))) ρ=some (.tup [x,y,u,v]):=fun h h' h'' h3=>zZA (zK h (zK h' (zK h'' (zK h3 rfl)))) jd
 have pair:∀ {f g e:Ef} {x y:D} {i:Int},f ρ=some x->g ρ=some y->e ρ=some (.int i)->i=0∨i=1->eIx (eL (yD (zY f (zY g zR)))) e ρ=some (if i=0 then x else y):=fun {f g e x y i} h h' h'' hi=>by
   rw[sC (x:=.lst [x,y]) (y:=.int i) (bL (zWq (zK h (zK h' rfl)) jd)) h'']
   rcases hi with rfl | rfl<;>rfl
 have wide:∀ {e:Ef} {i:Int},e ρ=some (.int i)->i=0∨i=1->∃p,eIx (eV 9) e ρ=some (yX p)/\Rng n (10^60) p:=fun {e i} h hi=>by
   rw[sC v9 h]
   rcases hi with rfl | rfl
   · exact⟨lo',rfl,r3⟩
   · exact⟨hi',rfl,r4⟩
 have e8:wJ (xG (wJ (eV 5) (eC (.int 640))) ju) jt ρ=some (.int (dr / 640 % 8 / 7)):=yZ (yZ (yZ v5 rfl rfl) rfl rfl) rfl rfl
 have e5:wJ (xG (wJ (eV 5) (eC (.int 640))) jq) jp ρ=some (.int (dr / 640 % 5 / 4)):=yZ (yZ (yZ v5 rfl rfl) rfl rfl) rfl rfl
 unfold nN
 by_cases h6:z < 7
 · exact⟨_,pM ((zOS v11).trans (by rw[Qp h6])) (tup4 (k1 _) v6 v7 v8),zYL (v:=.nm w) (u:=.pl lo) (t:=.pl hi) zKw hw r1 r2⟩
 refine(fun⟨d,e,h⟩=>⟨d,sW ((zOS v11).trans (by rw[Qb h6])) e,h⟩) (?_:∃d,(nK ρ).bind xR=some d/\bT n d)
 unfold nK
 by_cases h7:z < 9
 · exact⟨_,pM ((zOS v11).trans (by rw[Qp h7])) (tup4 (k1 _) v6 v7 v8),zYL (v:=.nm w) (u:=.pl lo) (t:=.pl hi) zMa hw r1 r2⟩
 refine(fun⟨d,e,h⟩=>⟨d,sW ((zOS v11).trans (by rw[Qb h7])) e,h⟩) (?_:∃d,(nJ ρ).bind xR=some d/\bT n d)
 unfold nJ
 by_cases h8:(decide (z=9)||decide (z=10))=true
 · have hz:z - 9=0∨z - 9=1:=by simp at h8;omega
   refine⟨_,pM ((dN (wX v11) (wX v11)).trans (by rw[h8])) (pair (tup2 (k1 _) v6) (tup2 (k1 _) v6) (yZ v11 rfl rfl) hz),?_⟩
   rcases hz with h | h
   · rw[Qv h];exact zZ9 (v:=.nm w) zMi hw
   · rw[Wh jc];exact zZ9 (v:=.nm w) zNe hw
 rw[Ou] at h8
 refine(fun⟨d,e,h⟩=>⟨d,sW ((dN (wX v11) (wX v11)).trans (by rw[h8])) e,h⟩) (?_:∃d,(nA ρ).bind xR=some d/\bT n d)
 unfold nA
 by_cases h9:(decide (z=11)||decide (z=12))=true
 · have hz:z - 11=0∨z - 11=1:=by simp at h9;omega
   refine⟨_,pM ((dN (wX v11) (wX v11)).trans (by rw[h9])) (pair (tup1 (k1 _)) (tup1 (k1 _)) (yZ v11 rfl rfl) hz),?_⟩
   rcases hz with h | h
   · rw[Qv h];exact zPc zNE
   · rw[Wh jc];exact zPc zRV
 rw[Ou] at h9
 refine(fun⟨d,e,h⟩=>⟨d,sW ((dN (wX v11) (wX v11)).trans (by rw[h9])) e,h⟩) (?_:∃d,(oZ ρ).bind xR=some d/\bT n d)
 unfold oZ
 by_cases h10:(decide (z=13)||decide (z=14))=true
 · have hz:z - 13=0∨z - 13=1:=by simp at h10;omega
   have cat:∀s:Str,zYf (yT (zY (eC (.str s)) zR)) (eV 9) ρ=some (.tup [.str s,yX lo',yX hi']):=fun s=>by
     unfold zYf
     rw[tup1 (k1 s),Qq,v9]
     rfl
   refine⟨_,pM ((dN (wX v11) (wX v11)).trans (by rw[h10])) (pair (cat _) (cat _) (yZ v11 rfl rfl) hz),?_⟩
   rcases hz with h | h
   · rw[Qv h];exact zXL (v:=.pl lo') (u:=.pl hi') zQt r3 r4
   · rw[Wh jc];exact zXL (v:=.pl lo') (u:=.pl hi') zSz r3 r4
 rw[Ou] at h10
 refine(fun⟨d,e,h⟩=>⟨d,sW ((dN (wX v11) (wX v11)).trans (by rw[h10])) e,h⟩) (?_:∃d,(oW ρ).bind xR=some d/\bT n d)
 have i8:dr / 640 % 8 / 7=0∨dr / 640 % 8 / 7=1:=jc
 have i5:dr / 640 % 5 / 4=0∨dr / 640 % 5 / 4=1:=jc
 obtain⟨p,ep,rp⟩:=wide e8 i8
 unfold oW
 by_cases h11:z=15
 · exact⟨_,pM ((wX v11).trans (by rw[Qp h11])) (zMm (k1 _) ep v10),zXL (v:=.pl p) (u:=.mn m) zMv rp hm⟩
 refine(fun⟨d,e,h⟩=>⟨d,sW ((wX v11).trans (by rw[Qb h11])) e,h⟩) (?_:∃d,(oP ρ).bind xR=some d/\bT n d)
 unfold oP
 by_cases h12:z=16
 · exact⟨_,pM ((wX v11).trans (by rw[Qp h12])) (tup2 (k1 _) ep),zZ9 (v:=.pl p) zQg rp⟩
 refine(fun⟨d,e,h⟩=>⟨d,sW ((wX v11).trans (by rw[Qb h12])) e,h⟩) (?_:∃d,(oS ρ).bind xR=some d/\bT n d)
 unfold oS
 by_cases h13:z=17
 · have hna:n*a<=1000:=by
     rcases hn with rfl | rfl<;>omega
   have ena:rY (eV 1) (eV 2) ρ=some (.int ((n*a:Nat):Nat)):=by
     have e:=yZ (C:=zYK) (g:=fun i j=>i*j) (i:=(n:Nat)) (j:=(a:Nat)) v1 v2 (rE jc jc)
     rw[←Int.natCast_mul] at e
     exact e
   have pos:(0:Int) < 2^(n*a)+2:=by
     have:(0:Int) < 2^(n*a):=Int.pow_pos jb
     omega
   have small:(2:Int)^(n*a)+2<=10^60:=by
     have h18:n*a<=18:=by rcases hn with rfl | rfl<;>omega
     have:(2:Int)^(n*a)<=2^18:=by
       have h:=Nat.pow_le_pow_right (show 0 < 2 by decide) h18
       exact_mod_cast h
     have:(2:Int)^18+2<=10^60:=ja
     omega
   have g1:xG (eV 0) (uU (zX7 jm (rY (eV 1) (eV 2))) jn) ρ=some (.int (c % (2^(n*a)+2))):=yZ v0 (yZ (zSS ena hna) rfl rfl) (Qp pos)
   have g2:=zGj v0
   refine⟨_,pM ((wX v11).trans (by rw[Qp h13])) (tup2 (k1 _) (pair g1 g2 e5 i5)),?_⟩
   rcases i5 with h | h
   · rw[Qv h]
     exact zZ9 (v:=.nb (c % (2^(n*a)+2))) zUG ⟨Rn _ jc,Yl (Rl _ pos) small⟩
   · rw[Wh jc]
     exact zZ9 (v:=.nb (c % 10^60)) zUG (zNb c)
 refine(fun⟨d,e,h⟩=>⟨d,sW ((wX v11).trans (by rw[Qb h13])) e,h⟩) (?_:∃d,(oO ρ).bind xR=some d/\bT n d)
 unfold oO
 by_cases h14:z=18
 · exact⟨_,pM ((wX v11).trans (by rw[Qp h14])) (zMm (k1 _) v7 v8),zXL (v:=.pl lo) (u:=.pl hi) zN0 r1 r2⟩
 refine(fun⟨d,e,h⟩=>⟨d,sW ((wX v11).trans (by rw[Qb h14])) e,h⟩) (?_:∃d,(jQ ρ).bind xR=some d/\bT n d)
 unfold jQ
 exact⟨_,pI.trans (tup4 (k1 _) v7 v8 v10),zYL (v:=.pl lo) (u:=.pl hi) (t:=.mn m) zN7 r1 r2 hm⟩
theorem zJb (c:Int)(ws:List Str)(h8:ws.length=8)(hw:∀w∈ws,Wd w):∃d,aV [.int c,.int n,.int a,.lst (ws.map .str),.int 4]=some d/\bT n d:=by
 have em:=aS c 48271 jb jb
 have dr0:=zTF c 48271
 generalize zXb c 48271=dr at em dr0
 obtain⟨w,hwm,ew⟩:=zUv (xs:=ws) (i:=dr / 20 % 8) jc jc
 obtain⟨lo,hi,eb,r1,r2⟩:=zLw hn ha c 4 jb jb
 obtain⟨m2,em2,m20,m21⟩:∃m2:Int,uU (uU (eV 4) jn) (rY jo (sB (uZ (eB2 gLt (eV 2) (rB jr (eV 1)))))) [.fz (.int c),.fz (.int n),.fz (.int a),.fz (.lst (ws.map .str)),.fz (.int 4),.fz (.int dr),.fz (.str w),.fz (yX lo),.fz (yX hi),.no,.no,.no]=some (.int m2)/\0 < m2/\m2<=100:=by
   have t:sB (uZ (eB2 gLt (eV 2) (rB jr (eV 1)))) [.fz (.int c),.fz (.int n),.fz (.int a),.fz (.lst (ws.map .str)),.fz (.int 4),.fz (.int dr),.fz (.str w),.fz (yX lo),.fz (yX hi),.no,.no,.no]=some (.int (if (a:Int) < 6 - (n:Nat) then 1 else 0)):=by
     show zKA (.bl (decide ((a:Int) < 6 - (n:Nat))))=_
     by_cases h:(a:Int) < 6 - (n:Nat)
     · rw[Qp h,Qv h];rfl
     · rw[Qb h,Wh h];rfl
   refine⟨4+2+3*(if (a:Int) < 6 - (n:Nat) then 1 else 0),yZ (i:=4+2) (yZ rfl rfl rfl) (yZ rfl t (rE jb jb)) rfl,?_,?_⟩<;>split<;>decide
 obtain⟨lo',hi',eb',r3,r4⟩:=zLw hn ha c m2 m20 m21
 obtain⟨m,emm,hm⟩:∃m:Int,eIx (eL (yD (zY (uU jm (xG (wJ (eV 5) (eC (.int 160))) jp)) (zY (uU jm (xG (wJ (eV 5) (eC (.int 160))) (eC (.int 999)))) (zY (eC (.int 999)) zR))))) (xG (wJ (eV 5) (eC (.int 640))) jo) [.fz (.int c),.fz (.int n),.fz (.int a),.fz (.lst (ws.map .str)),.fz (.int 4),.fz (.int dr),.fz (.str w),.fz (yX lo),.fz (yX hi),.fz (.tup [yX lo',yX hi']),.no,.no]=some (.int m)/\1<=m/\m<=999:=by
   obtain⟨m,e,h⟩:=zZF (xs:=[1+dr / 160 % 4,1+dr / 160 % 999,999]) (P:=fun m=>1<=m/\m<=999) (i:=dr / 640 % 3) (fun x hx=>by
     simp only[Qh,Wf,Ra] at hx
     rcases hx with rfl | rfl | rfl<;>omega) jc (by show _ < (3:Int);omega)
   refine⟨m,?_,h⟩
   rw[sC (x:=.lst [.int (1+dr / 160 % 4),.int (1+dr / 160 % 999),.int 999]) (y:=.int (dr / 640 % 3)) (bL (zWq (zK (yZ rfl (yZ (yZ rfl rfl rfl) rfl rfl) rfl) (zK (yZ rfl (yZ (yZ rfl rfl rfl) rfl rfl) rfl) rfl)) jd)) (yZ (yZ rfl rfl rfl) rfl rfl)]
   exact e
 obtain⟨d,ed,hd⟩:=zLl hn ha c dr dr0 (.lst (ws.map .str)) w (hw w hwm) lo hi lo' hi' r1 r2 r3 r4 m hm (.fz (.int 4)) (dr % 20) jc jc
 refine⟨d,?_,hd⟩
 show(mR [.fz (.int c),.fz (.int n),.fz (.int a),.fz (.lst (ws.map .str)),.fz (.int 4),.no,.no,.no,.no,.no,.no,.no]).bind xR=_
 unfold mR
 refine wR ((vD rfl rfl).trans em) ?_
 dsimp only[List.set]
 unfold iD
 refine wR (d:=.str w) (by
   rw[sC (x:=.lst (ws.map .str)) (y:=.int (dr / 20 % 8)) rfl (yZ (yZ rfl rfl rfl) (by
     show some (D.int ((ws.map D.str).length:Nat))=some (.int 8)
     rw[Qt,h8]
     rfl) rfl)]
   show atI (ws.map D.str) _=_
   rw[bY,ew]
   rfl) ?_
 dsimp only[List.set]
 unfold fL
 refine xZ (ρ':=[.fz (.int c),.fz (.int n),.fz (.int a),.fz (.lst (ws.map .str)),.fz (.int 4),.fz (.int dr),.fz (.str w),.fz (yX lo),.fz (yX hi),.no,.no,.no]) (by
   unfold lE
   rw[(zIZ rfl rfl rfl rfl).trans eb]
   rfl) ?_
 unfold fQ
 refine wR ((zIZ rfl rfl rfl em2).trans eb') ?_
 dsimp only[List.set]
 unfold iB
 refine wR emm ?_
 dsimp only[List.set]
 unfold fU
 refine wR (d:=.int (dr % 20)) (yZ rfl rfl rfl) ?_
 exact ed
end
section
variable {n:Nat} (hn:n=2∨n=3)
include hn
theorem zRh (x0:B)(ws:List D)(hl:ws.length<=100)(v:Val)(h:zSX n v):∃u,uP u=uP v/\iQ n u/\wO [x0,.ow ws,.fz (wF v)]=some (.nx [x0,.ow (ws++[wF u]),.fz (wF u)]):=by
 have plain:tB1 (pK rX (eV 2)) [x0,.ow ws,.fz (wF v)]=some false->wO [x0,.ow ws,.fz (wF v)]=some (.nx [x0,.ow (ws++[wF v]),.fz (wF v)]):=fun t=>by
   unfold wO
   rw[yE ((rZ t).trans (by rw[Wh Qj]))]
   unfold nW
   rw[rH (d:=wF v) (ds:=ws) rfl rfl jc]
   rfl
 cases v with
 | nm w=>exact⟨.nm w,rfl,h,plain rfl⟩
 | mn w=>exact⟨.mn w,rfl,h,plain rfl⟩
 | nb w=>exact⟨.nb w,rfl,h,plain rfl⟩
 | pl p =>
   have h:Rng n (10^60) p:=h
   have p0:(0:Int) < 10^60:=ja
   obtain⟨q,e,hq1,hq⟩:=cE (α:=Int) (elt:=zJ6 jl (eV 0)) (f:=D.int) (Q:=fun x=>0<=x/\x < 10^60) (rest:=[]) (p.map D.int) .no [] (fun d hd=>by
     obtain⟨x,hx,rfl⟩:=Wj.mp hd
     have:=h.2 x hx
     exact⟨if x > 0 then x else 0,rfl,by split<;>omega,by split<;>omega⟩)
   rw[Ws] at e
   rw[Qt,h.1] at hq1
   refine⟨.pl q,rfl,⟨hq1,hq⟩,?_⟩
   show wO [x0,.ow ws,.fz (yX p)]=some (.nx [x0,.ow (ws++[yX q]),.fz (yX q)])
   unfold wO
   rw[yE (ρ':=[x0,.ow ws,.fz (yX q)]) ((rZ (b:=true) rfl).trans (by
     rw[Qv rfl]
     unfold yK wC
     rw[bL (ds:=q.map D.int) (by
       unfold yN
       rw[show iT (eV 2) [x0,.ow ws,.fz (yX p)]=some (p.map D.int) from rfl,Qq,uM (by rw[Qt,h.1];omega),Qq]
       exact e)]
     rfl))]
   unfold nW
   rw[rH (d:=yX q) (ds:=ws) rfl rfl jc]
   rfl
theorem zYq (x0:B):∀(vs:List Val) (x2:B) (ws:List D),(∀v∈vs,zSX n v)->ws.length+vs.length<=100->∃(us:List Val) (y2:B),us.map uP=vs.map uP/\(∀v∈us,iQ n v)/\mS (gN 2) wO (vs.map wF) [x0,.ow ws,x2]=some (.nx [x0,.ow (ws++us.map wF),y2])
 | [],x2,ws,_,_=>⟨[],x2,rfl,fun v h=>(nomatch h),by simp[mS]⟩
 | v::r,x2,ws,h,hl=>by
   rw[Qo] at hl
   obtain⟨u,ku,gu,e⟩:=zRh hn x0 ws jc v (h v Qf)
   obtain⟨us,y2,kus,gus,es⟩:=zYq x0 r (.fz (wF u)) (ws++[wF u]) (fun q hq=>h q (Qa _ hq)) (by rw[Qk,Ey];omega)
   refine⟨u::us,y2,by rw[Qu,Qu,ku,kus],fun q hq=>by
     rcases Qh.mp hq with rfl | hq
     · exact gu
     · exact gus q hq,?_⟩
   rw[Qu,nB (ρ1:=[x0,.ow ws,.fz (wF v)]) rfl e,es,Ex,Rc,Qu]
theorem zOx (d:D)(h:bT n d):∃k vs,iC [d]=some (vJ k vs)/\Key k (vs.map uP)/\∀v∈vs,iQ n v:=by
 obtain⟨k,vs,rfl,hk,hv⟩:=h
 have hl:=zY4 hk
 obtain⟨us,y2,kus,gus,e⟩:=zYq hn (.fz (vJ k vs)) vs .no [.str k] hv (by rw[Ey];omega)
 refine⟨k,us,?_,by rw[kus];exact hk,gus⟩
 show(qD [.fz (vJ k vs),.no,.no]).bind xR=_
 unfold qD
 refine xZ (ρ':=[.fz (vJ k vs),.ow [.str k],.no]) (aE (zTk k vs _)) ?_
 unfold lV
 refine xZ (ρ':=[.fz (vJ k vs),.ow ([.str k]++us.map wF),y2]) (by
   unfold pQ
   rw[show iT (zZg (eV 0) (sI jm) oNo) [.fz (vJ k vs),.ow [.str k],.no]=some (vs.map wF) from by
     show some (zZO (.str k::vs.map wF) (some 1) none)=_
     rw[zKn _ _ (by rw[Qt];exact hl)],Qq]
   exact e) rfl
end
def jS (n:Nat):List (Nat×Nat):=(List.range (11 - 2*n)).flatMap fun a=>(List.range 9).map fun b=>(a,b+4)
def zSu (a:Nat):Str:=⟨(if a < 10 then [48+a] else [49,48+(a - 10)]).toArray⟩
def sF (a b:Nat):List Str:=["floor",zSu a,zSu b]
def vS (a b:Nat):Str:=Str.join " " (sF a b)
def dY (a b:Nat):Bool:=decide ((vS a b).length<=30) && !(vS a b).cps.toList.contains 10&&(sF a b).all fun w => !w.cps.toList.contains 32
def zMX {n a b:Nat}(ha:a < 11 - 2*n)(h4:4<=b)(hb:b < 13):(a,b)∈jS n:=Tg.mpr ⟨a,Te.mpr ha,Wj.mpr ⟨b - 4,Te.mpr jc,by rw[show b - 4+4=b by omega]⟩⟩
theorem zGZ:((jS 2).all fun q=>dY q.1 q.2)=true:=je
theorem zHn (x0 x1 x2 x3 x4 x7 x8 x9 x10 x11 x12 x13 x14 x15 x16 x17 x18:B):(jS 2).map (fun q=>xW (xW (xW (eC (.str "floor ")) (wB (eV 5))) (eC (.str " "))) (wB (eV 6)) [x0,x1,x2,x3,x4,.fz (.int (q.1:Nat)),.fz (.int (q.2:Nat)),x7,x8,x9,x10,x11,x12,x13,x14,x15,x16,x17,x18])=(jS 2).map fun q=>some (.str (vS q.1 q.2)):=je
theorem zFS:(jS 2).map (fun q=>(zOp (.int (q.1:Nat)),zOp (.int (q.2:Nat))))=(jS 2).map fun q=>(some (.str (zSu q.1)),some (.str (zSu q.2))):=je
theorem zHN (r:Int):(jS 2).map (fun q=>pY [.lst ((sF q.1 q.2).map .str),.int 2,.int r])=(jS 2).map fun q=>some (.tup [.int (q.1:Nat),.int (q.2:Nat)]):=je
theorem zI4 (r:Int):(jS 3).map (fun q=>pY [.lst ((sF q.1 q.2).map .str),.int 3,.int r])=(jS 3).map fun q=>some (.tup [.int (q.1:Nat),.int (q.2:Nat)]):=je
def zKo {q:Nat×Nat}(h:q∈jS 3):q∈jS 2:=by
 revert h
 revert q
 decide +kernel
section
variable {n:Nat} (hn:n=2∨n=3) {a b:Nat} (hq:(a,b)∈jS n)
include hn hq
theorem lv2:(a,b)∈jS 2:=by
 rcases hn with rfl | rfl
 · exact hq
 · exact zKo hq
theorem zYA:dY a b=true:=by have h:=Qn.mp zGZ _ (lv2 hn hq);exact h
theorem zPL (r:Int):pY [.lst ((sF a b).map .str),.int n,.int r]=some (.tup [.int (a:Nat),.int (b:Nat)]):=by
 rcases hn with rfl | rfl
 · have h:=qN (zHN r) hq;exact h
 · have h:=qN (zI4 r) hq;exact h
theorem zU3:(vS a b).length<=30:=by
 have h:=zYA hn hq
 unfold dY at h
 rw[Wy,Wy] at h
 exact Wn h.1.1
theorem zQl:wA 10 (vS a b):=by
 have h:=zYA hn hq
 unfold dY at h
 rw[Wy,Wy] at h
 have h:=h.1.2
 intro z
 rw[Rx.mpr z] at h
 exact absurd h jb
theorem zSi:kD (.str (vS a b)) (.str " ")=some ((sF a b).map .str):=by
 have h:=zYA hn hq
 unfold dY at h
 rw[Wy,Wy] at h
 have hw:∀w∈sF a b,wA 32 w:=fun w hw z=>by
   have q:=Qn.mp h.2 w hw
   rw[Rx.mpr z] at q
   exact absurd q jb
 have e:Txt.split (vS a b) ⟨#[32]⟩=sF a b:=by
   unfold vS
   rw[bG]
   exact pH 32 (sF a b) hw (by unfold sF;exact Tw _ _)
 have hl:=Wn h.1.1
 rw[bG]
 show(if 1<=(⟨#[32]⟩:Str).length/\(vS a b).length<=100000 then some ((Txt.split (vS a b) ⟨#[32]⟩).map D.str) else none)=_
 rw[Qv ⟨Ql 1,jc⟩,e]
end
def zPS {n:Nat}(hn:n=2∨n=3){a b:Nat}(hq:(a,b)∈jS n)(x0 x1 x2 x3 x4 x7 x8 x9 x10 x11 x12 x13 x14 x15 x16 x17 x18:B):xW (xW (xW (eC (.str "floor ")) (wB (eV 5))) (eC (.str " "))) (wB (eV 6)) [x0,x1,x2,x3,x4,.fz (.int (a:Nat)),.fz (.int (b:Nat)),x7,x8,x9,x10,x11,x12,x13,x14,x15,x16,x17,x18]=some (.str (vS a b)):=by
 have h:=qN (zHn x0 x1 x2 x3 x4 x7 x8 x9 x10 x11 x12 x13 x14 x15 x16 x17 x18) (lv2 hn hq);exact h
def zMp {n:Nat}(hn:n=2∨n=3){a b:Nat}(hq:(a,b)∈jS n):zOp (.int (a:Nat))=some (.str (zSu a))/\zOp (.int (b:Nat))=some (.str (zSu b)):=by
 have h:=qN zFS (lv2 hn hq)
 exact⟨Eo Prod.fst h,Eo Prod.snd h⟩
abbrev Dq:=Str×List Val
def GD (n:Nat)(q:Dq):Prop:=Key q.1 (q.2.map uP)/\∀v∈q.2,iQ n v
def zY5 (q:Dq):Str:=zWT q.1 q.2
def w9 (q:Dq):D:=vJ q.1 q.2
def eY (c:D)(a b:Nat)(ds:List D):D:=.obj "Scene" ["curve","level","size","deeds"] [c,.int (a:Nat),.int (b:Nat),.lst ds]
def xS (wN:Str)(n:Nat)(j:Bool)(ps:List Pt)(a b:Nat)(l:List Dq):List Str:=w8 wN n j::ps.map tL++[vS a b]++l.map zY5
def zWQ {n:Nat}(hn:n=2∨n=3){ps:List Pt}{wN:Str}{j:Bool}(R:List Str)(x0 x3 x4 x5:B):∀(l j7:List Dq) (s:Nat) (x7:B),(∀(t:Nat) (q:Dq),l[t]?=some q->R[s+t]?=some (zY5 q))->(∀q∈l,GD n q)->j7.length+l.length<=100 ->
   ∃y7,mS (gN 7) rW ((List.range l.length).map fun(t:Nat)=>D.int (((s+t:Nat):Int)+1)) [x0,.fz (.lst (R.map .str)),.fz (zA wN n j ps),x3,x4,x5,.ow (j7.map w9),x7] =
     some (.nx [x0,.fz (.lst (R.map .str)),.fz (zA wN n j ps),x3,x4,x5,.ow ((j7++l).map w9),y7])
 | [],j7,s,x7,_,_,_=>⟨x7,by rw[Eh,List.range_zero,Wz,Wx,mS]⟩
 | q::r,j7,s,x7,hR,ok,hl=>by
   rw[Qo] at hl
   obtain⟨hk,hv⟩:=ok q Qf
   have hw:=zZc R s _ _ (by have h:=hR 0 q rfl;exact h) (zPA hn hk hv)
   have h1:zN 3 kX (zY (eL (tR 2 uV (zY (eV 1) (zY (eV 7) zR)))) (zY (yB "Curve" "dims" (eV 2)) (zY (eV 7) zR))) [x0,.fz (.lst (R.map .str)),.fz (zA wN n j ps),x3,x4,x5,.ow (j7.map w9),.fz (.int ((s:Int)+1))]=some (w9 q):=by
     refine(eB (x:=.lst ((vG q.1 q.2).map .str)) (y:=.int n) (z:=.int ((s:Int)+1)) ?_ (by unfold yB;rfl) rfl).trans (zTw hn hk hv _)
     unfold eL
     rw[aA (x:=.lst (R.map .str)) (y:=.int ((s:Int)+1)) rfl rfl,hw]
     rfl
   have t:eB2 gEq (dR 6) (eC (.int 400)) [x0,.fz (.lst (R.map .str)),.fz (zA wN n j ps),x3,x4,x5,.ow (j7.map w9),.fz (.int ((s:Int)+1))]=some false:=by
     show some (decide (((j7.map w9).length:Int)=400))=_
     rw[Qt,Qb jc]
   have st:rW [x0,.fz (.lst (R.map .str)),.fz (zA wN n j ps),x3,x4,x5,.ow (j7.map w9),.fz (.int ((s:Int)+1))]=some (.nx [x0,.fz (.lst (R.map .str)),.fz (zA wN n j ps),x3,x4,x5,.ow ((j7++[q]).map w9),.fz (.int ((s:Int)+1))]):=by
     unfold rW
     rw[yE ((rZ t).trans (by rw[Wh Qj]))]
     unfold bA
     rw[rH (d:=w9 q) (ds:=j7.map w9) h1 rfl (by rw[Qt];omega),Wt,Qu,Wz]
     rfl
   obtain⟨y7,e⟩:=zWQ hn R x0 x3 x4 x5 r (j7++[q]) (s+1) (.fz (.int ((s:Int)+1))) (fun t p hp=>by have h:=hR (t+1) p hp;rw[show s+1+t=s+(t+1) from jc];exact h) (fun p hp=>ok p (Qa _ hp)) (by rw[Qk,Ey];omega)
   refine⟨y7,?_⟩
   rw[Qo,Uy,Qu,Rq]
   rw[nB (ρ1:=[x0,.fz (.lst (R.map .str)),.fz (zA wN n j ps),x3,x4,x5,.ow (j7.map w9),.fz (.int ((s:Int)+1))]) rfl st]
   rw[Ex,Rc] at e
   rw[←e]
   congr 1
   refine Tq fun i _=>?_
   show D.int (((s+(i+1):Nat):Int)+1)=D.int (((s+1+i:Nat):Int)+1)
   rw[show s+1+i=s+(i+1) from jc]
def zQ7 {α:Type}(f:α->Nat)(m:Nat):∀l:List α,(∀x∈l,f x<=m)->(l.map f).sum<=m*l.length
 | [],_=>Ql _
 | x::r,h=>by
   have h3:=h x Qf
   have h4:=zQ7 f m r fun q hq=>h q (Qa _ hq)
   rw[Qu,Rz,Qo,Nat.mul_succ]
   omega
section
variable {n:Nat} (hn:n=2∨n=3) {ps:List Pt} (ok:PtsOk n ps) {wN:Str} (hw:Wd wN) {a b:Nat} (hq:(a,b)∈jS n) (j:Bool) {l:List Dq} (hl:l.length<=60) (hd:∀q∈l,GD n q)
include hn ok hw hq hl hd
theorem zWn:(∀y∈xS wN n j ps a b l,wA 10 y)/\((xS wN n j ps a b l).map (·.length)).sum+(xS wN n j ps a b l).length<=90000:=by
 have hs:=ok.small hn
 have hcs:∀p∈ps,p.c∈zG n/\p.t∈zC n:=fun p hp=>⟨ok.perm.mem_iff.mp (Wj.mpr ⟨p,hp,rfl⟩),ok.turn p hp⟩
 refine⟨fun y hy=>?_,?_⟩
 · unfold xS at hy
   rcases Eu.mp hy with hy | hy
   · rcases Eu.mp hy with hy | hy
     · rcases Qh.mp hy with rfl | hy
       · exact zNT hw n j
       · obtain⟨p,hp,rfl⟩:=Wj.mp hy
         exact zLy hn p (hcs p hp).1 (hcs p hp).2
     · rw[Wm.mp hy];exact zQl hn hq
   · obtain⟨q,hqm,rfl⟩:=Wj.mp hy
     exact zOd hn (hd q hqm).1 (hd q hqm).2
 · have h1:=zRU hw n j
   have h7:=zU3 hn hq
   have h5:=zQ7 (fun p=>(tL p).length) 30 ps fun p hp=>zJT hn p (hcs p hp).1 (hcs p hp).2
   have h8:=zQ7 (fun q=>(zY5 q).length) 1000 l fun q hqm=>zSN hn (hd q hqm).1 (hd q hqm).2
   have e1:((xS wN n j ps a b l).map (·.length)).sum=(w8 wN n j).length+(ps.map fun p=>(tL p).length).sum+(vS a b).length+(l.map fun q=>(zY5 q).length).sum:=by
     unfold xS
     simp only[Re,Qu,Wt,Wz,Rz,List.sum_append,Yk,Rq]
     simp only[Ij]
     omega
   have e2:(xS wN n j ps a b l).length=ps.length+2+l.length:=by unfold xS;simp;omega
   rw[e1,e2]
   omega
theorem zMb (T:Str)(hT:T=Str.join "\n" (xS wN n j ps a b l))(hf:oE [zA wN n j ps]=some (zA wN n j ps)):aO [.str T]=some (eY (zA wN n j ps) a b (l.map w9)):=by
 have hs:=ok.small hn
 obtain⟨hfree,hsum⟩:=zWn hn ok hw hq j hl hd
 have h6:("\n":Str).length=1:=ja
 have j5:T.length<=100000:=by
   rw[hT]
   refine Ep (Up _ _) ?_
   rw[h6]
   omega
 have hR:(xS wN n j ps a b l).length=ps.length+2+l.length:=by unfold xS;simp;omega
 have hsp:kD (.str T) (.str "\n")=some ((xS wN n j ps a b l).map .str):=by
   rw[zIO]
   show(if 1<=(⟨#[10]⟩:Str).length/\T.length<=100000 then some ((Txt.split T ⟨#[10]⟩).map D.str) else none)=_
   rw[Qv ⟨Ql 1,j5⟩,hT,zIO,pH 10 _ hfree (by unfold xS;exact Tw _ _)]
 have hpre:∀i:Nat,i < ps.length+2->(xS wN n j ps a b l)[i]?=(w8 wN n j::ps.map tL++[vS a b])[i]?:=fun i hi=>by
   unfold xS
   rw[Es (by simp;omega)]
 have hfrom:=zJq hn ok hw (xS wN n j ps a b l) j rfl (fun i p hp=>by
   have hi:i < ps.length:=by
     rcases Nat.lt_or_ge i ps.length with h | h
     · exact h
     · rw[Yr h] at hp;cases hp
   rw[hpre (1+i) jc,show 1+i=i+1 from jc,Re,Qx,Es (by rw[Qt];exact hi),Wa,hp]
   rfl)
 have hwf:=zZc (xS wN n j ps a b l) (ps.length+1) _ _ (by
   rw[hpre (ps.length+1) jc,Re,Qx,Ew (by rw[Qt];exact Ql _),Qt,Ic]
   rfl) (zSi hn hq)
 have hdeeds:∀(t:Nat) (q:Dq),l[t]?=some q->(xS wN n j ps a b l)[ps.length+2+t]?=some (zY5 q):=fun t q hq'=>by
   unfold xS
   have z:(w8 wN n j::ps.map tL++[vS a b]).length=ps.length+2:=jd
   rw[Ew (by rw[z];omega),z,show ps.length+2+t - (ps.length+2)=t by omega,Wa,hq']
   rfl
 have hfr:=zPL hn hq (((ps.length+1:Nat):Int)+1)
 generalize xS wN n j ps a b l=R at hR hsp hfrom hwf hdeeds
 obtain⟨y7,eloop⟩:=zWQ hn (ps:=ps) (wN:=wN) (j:=j) R (.fz (.str T)) (.fz (.int (((ps.length+1:Nat):Int)+1))) (.fz (.int (a:Nat))) (.fz (.int (b:Nat))) l [] (ps.length+2) .no hdeeds hd (by simp;omega)
 rw[Ws] at eloop
 show(nH [.fz (.str T),.no,.no,.no,.no,.no,.no,.no]).bind xR=_
 unfold nH
 refine wR (d:=.lst (R.map .str)) (by
   unfold eL hV
   rw[show eV 0 [.fz (.str T),.no,.no,.no,.no,.no,.no,.no]=some (D.str T) from rfl,Qq,show eC (.str "\n") [.fz (.str T),.no,.no,.no,.no,.no,.no,.no]=some (D.str "\n") from rfl,Qq,hsp]
   rfl) ?_
 dsimp only[List.set]
 unfold gL
 refine wR (d:=zA wN n j ps) ((sH rfl).trans hfrom) ?_
 dsimp only[List.set]
 unfold hW
 refine wR (d:=.int (((ps.length+1:Nat):Int)+1)) (by
   have e:=yZ (C:=fun _ _=>true) (g:=fun i j=>i+j) (fa:=eC (.int 2)) (fb:=wT (yB "Curve" "parts" (eV 2))) (ρ:=[.fz (.str T),.fz (.lst (R.map .str)),.fz (zA wN n j ps),.no,.no,.no,.no,.no]) (i:=2) (j:=(ps.length:Nat)) rfl (by
     unfold wT
     rw[cF _ (eV 2) (wN:=wN) (n:=n) (j:=j) (ps:=ps) rfl]
     show some (D.int ((ps.map yF).length:Nat))=_
     rw[Qt]) rfl
   rw[show(2:Int)+(ps.length:Nat)=((ps.length+1:Nat):Int)+1 by omega] at e
   exact e) ?_
 dsimp only[List.set]
 unfold iI
 refine xZ (ρ':=[.fz (.str T),.fz (.lst (R.map .str)),.fz (zA wN n j ps),.fz (.int (((ps.length+1:Nat):Int)+1)),.fz (.int (a:Nat)),.fz (.int (b:Nat)),.no,.no]) (by
   unfold lE
   rw[(eB (x:=.lst ((sF a b).map .str)) (y:=.int n) (z:=.int (((ps.length+1:Nat):Int)+1)) (by
     unfold eL
     rw[aA (x:=.lst (R.map .str)) (y:=.int (((ps.length+1:Nat):Int)+1)) rfl rfl,hwf]
     rfl) (by unfold yB;rfl) rfl).trans hfr]
   rfl) ?_
 unfold gZ
 refine xZ (ρ':=[.fz (.str T),.fz (.lst (R.map .str)),.fz (zA wN n j ps),.fz (.int (((ps.length+1:Nat):Int)+1)),.fz (.int (a:Nat)),.fz (.int (b:Nat)),.ow [],.no]) rfl ?_
 unfold gO
 refine xZ (ρ':=[.fz (.str T),.fz (.lst (R.map .str)),.fz (zA wN n j ps),.fz (.int (((ps.length+1:Nat):Int)+1)),.fz (.int (a:Nat)),.fz (.int (b:Nat)),.ow (l.map w9),y7]) (by
   unfold pQ iR2
   rw[show uU (eV 3) jm [.fz (.str T),.fz (.lst (R.map .str)),.fz (zA wN n j ps),.fz (.int (((ps.length+1:Nat):Int)+1)),.fz (.int (a:Nat)),.fz (.int (b:Nat)),.ow [],.no]=some (.int (((ps.length+1:Nat):Int)+1+1)) from rfl,Qq]
   rw[show uU (wT (eV 1)) jm [.fz (.str T),.fz (.lst (R.map .str)),.fz (zA wN n j ps),.fz (.int (((ps.length+1:Nat):Int)+1)),.fz (.int (a:Nat)),.fz (.int (b:Nat)),.ow [],.no]=some (.int (((ps.length+1:Nat):Int)+1+1+(l.length:Nat))) from by
     have e:=yZ (C:=fun _ _=>true) (g:=fun i j=>i+j) (fa:=wT (eV 1)) (fb:=eC (.int 1)) (ρ:=[.fz (.str T),.fz (.lst (R.map .str)),.fz (zA wN n j ps),.fz (.int (((ps.length+1:Nat):Int)+1)),.fz (.int (a:Nat)),.fz (.int (b:Nat)),.ow [],.no]) (i:=((R.map D.str).length:Nat)) (j:=1) rfl rfl rfl
     rw[Qt,hR,show((ps.length+2+l.length:Nat):Int)+1=((ps.length+1:Nat):Int)+1+1+(l.length:Nat) by omega] at e
     exact e,Qq]
   dsimp only
   rw[Qp (show(-1000000:Int)<=((ps.length+1:Nat):Int)+1+1 by omega),Qp (show((ps.length+1:Nat):Int)+1+1+(l.length:Nat)<=1000000 by omega),Qp (show((ps.length+1:Nat):Int)+1+1<=1000000 by omega),Qp (show(-1000000:Int)<=((ps.length+1:Nat):Int)+1+1+(l.length:Nat) by omega),show((ps.length+1:Nat):Int)+1+1+(l.length:Nat) - (((ps.length+1:Nat):Int)+1+1)=(l.length:Nat) by omega,Rs,Bool.and_self,Bool.and_self,Bool.and_self,Qv rfl,Qq]
   rw[show tD (((ps.length+1:Nat):Int)+1+1) l.length=(List.range l.length).map fun(t:Nat)=>D.int (((ps.length+2+t:Nat):Int)+1) from by
     unfold tD
     refine Tq fun t _=>?_
     congr 1
     omega]
   exact eloop) ?_
 unfold zZh
 have ea:=zK (f:=zN 1 oE (zY (eV 2) zR)) (g:=zY (eV 4) (zY (eV 5) (zY (eV 6) zR))) (ρ:=[.fz (.str T),.fz (.lst (R.map .str)),.fz (zA wN n j ps),.fz (.int (((ps.length+1:Nat):Int)+1)),.fz (.int (a:Nat)),.fz (.int (b:Nat)),.fz (.lst (l.map w9)),y7]) (d:=zA wN n j ps) (ds:=[.int (a:Nat),.int (b:Nat),.lst (l.map w9)]) ((sH rfl).trans hf) rfl
 have em:=zWM (c:="Scene") (ns:=["curve","level","size","deeds"]) (n:=4) (f:=zW8) (xs:=[zA wN n j ps,.int (a:Nat),.int (b:Nat),.lst (l.map w9)]) ea rfl rfl rfl
 exact(zWg _).trans em
end
def fP (b:Bool)(q:Pq):Option D:=pA [yF ⟨q.1,q.2,b⟩]
theorem pr2 (b:Bool):(prs 2).map (fP b)=(prs 2).map (gC b):=by cases b<;>kernel_rfl
theorem zHc:(xV 0).map (fP true)=(xV 0).map (gC true):=je
theorem zGn:(xV 1).map (fP true)=(xV 1).map (gC true):=je
theorem zFY:(xV 2).map (fP true)=(xV 2).map (gC true):=je
theorem zGS:(xV 3).map (fP true)=(xV 3).map (gC true):=je
theorem zGk:(xV 0).map (fP false)=(xV 0).map (gC false):=je
theorem zGM:(xV 1).map (fP false)=(xV 1).map (gC false):=je
theorem zGF:(xV 2).map (fP false)=(xV 2).map (gC false):=je
theorem zFT:(xV 3).map (fP false)=(xV 3).map (gC false):=je
def pr3 (b:Bool):(prs 3).map (fP b)=(prs 3).map (gC b):=by
 cases b with
 | true=>exact zRI zHc zGn zFY zGS
 | false=>exact zRI zGk zGM zGF zFT
theorem zGY:((jS 2).all fun q=>decide (((sF q.1 q.2).map (·.length)).sum+(sF q.1 q.2).length*(" ":Str).length<=100))=true:=je
section
variable {n:Nat} (hn:n=2∨n=3)
include hn
theorem zS5 (p:Pt)(hc:p.c∈zG n)(ht:p.t∈zC n):pA [yF p]=some (.str (tL p)):=by
 obtain⟨c,t,b⟩:=p
 rcases hn with rfl | rfl
 · have h:=qN (pr2 b) (rO hc ht);exact h
 · have h:=qN (pr3 b) (rO hc ht);exact h
theorem zUO:∀(ps:List Pt) (x0:B) (j7:List D),(∀p∈ps,p.c∈zG n/\p.t∈zC n)->vL (gN 0) tOK (zN 1 pA (zY (eV 0) zR)) (ps.map yF) [x0] j7=some (j7++ps.map fun p=>.str (tL p))
 | [],_,j7,_=>by simp[vL]
 | p::r,x0,j7,h=>by
   rw[Qu]
   unfold vL
   have hp:=h p Qf
   have e1:gN 0 (yF p) [x0]=some [.fz (yF p)]:=rfl
   have e2:tOK [.fz (yF p)]=some true:=rfl
   rw[e1,Qq,e2,Qq,Qv rfl,(sH (x:=yF p) rfl).trans (zS5 hn p hp.1 hp.2),Qq,zUO r _ _ fun q hq=>h q (Qa _ hq)]
   simp
theorem zWb {v:Val}(h:iQ n v):qA [wF v]=some (.str (wM v)):=by
 show(lU [.fz (wF v)]).bind xR=_
 unfold lU
 refine pI.trans ?_
 unfold eIf
 cases v with
 | nm w=>rfl
 | pl p =>
   have h:Plc n p:=h
   rw[show tB1 (pK rX (eV 0)) [.fz (wF (.pl p))]=some true from rfl,Qq,Qv rfl]
   exact(sH (x:=yX p) rfl).trans (zXE hn h)
 | mn i =>
   have h:=zPV h
   rw[show tB1 (pK rX (eV 0)) [.fz (wF (.mn i))]=some false from rfl,Qq,Wh Qj]
   show(if i.natAbs.log2 < 1920 then some (D.str (Str.ofString (toString i))) else none)=_
   rw[Qv (jB h.1 (Uj h.2 ja))]
   rfl
 | nb i =>
   have h:0<=i/\i < 10^60:=h
   rw[show tB1 (pK rX (eV 0)) [.fz (wF (.nb i))]=some false from rfl,Qq,Wh Qj]
   show(if i.natAbs.log2 < 1920 then some (D.str (Str.ofString (toString i))) else none)=_
   rw[Qv (jB h.1 (Uj h.2 ja))]
   rfl
theorem zYs:∀(l:List Val) (x0:B) (j7:List D),(∀v∈l,iQ n v)->vL (gN 0) tOK (zN 1 qA (zY (eV 0) zR)) (l.map wF) [x0] j7=some (j7++l.map fun v=>.str (wM v))
 | [],_,j7,_=>by simp[vL]
 | v::r,x0,j7,h=>by
   rw[Qu]
   unfold vL
   have e1:gN 0 (wF v) [x0]=some [.fz (wF v)]:=rfl
   have e2:tOK [.fz (wF v)]=some true:=rfl
   rw[e1,Qq,e2,Qq,Qv rfl,(sH (x:=wF v) rfl).trans (zWb hn (h v Qf)),Qq,zYs r _ _ fun q hq=>h q (Qa _ hq)]
   simp
theorem zUr {f g:Lf}{ρ:List B}{xs ys:List D}(h1:f ρ=some xs)(h2:g ρ=some ys)(h:xs.length+ys.length<=1000):eT f g ρ=some (xs++ys):=by
 unfold eT
 rw[h1,Qq,h2,Qq]
 exact uM (by rw[Qk];omega)
theorem zTt {q:Dq}(h:GD n q):lY [w9 q]=some (.str (zY5 q)):=by
 obtain⟨k,vs⟩:=q
 obtain⟨hk,hv⟩:=h
 have hk:Key k (vs.map uP):=hk
 have hl:=zY4 hk
 have e:=zYs hn vs .no [] hv
 rw[Ws] at e
 show(iE [.fz (vJ k vs)]).bind xR=some (.str (zWT k vs))
 unfold iE
 refine pI.trans ?_
 have ec:eT (yD (zY (eIx (eV 0) jl) zR)) (yN (iT (zZg (eV 0) (sI jm) oNo)) 1 [] (gN 0) tOK (zN 1 qA (zY (eV 0) zR))) [.fz (vJ k vs)]=some ((vG k vs).map .str):=by
   rw[zUr hn (ys:=vs.map fun v=>.str (wM v)) (zTk k vs []) (by
     unfold yN
     rw[show iT (zZg (eV 0) (sI jm) oNo) [.fz (vJ k vs)]=some (vs.map wF) from by
       show some (zZO (.str k::vs.map wF) (some 1) none)=_
       rw[zKn _ _ (by rw[Qt];exact hl)],Qq,uM (by rw[Qt];omega),Qq]
     exact e) (by rw[Qt];show 1+vs.length<=1000;omega)]
   unfold vG
   rw[Qu,Rq]
   rfl
 unfold vB
 rw[show eC (.str " ") [.fz (vJ k vs)]=some (D.str " ") from rfl,Qq,ec,Qq]
 dsimp only
 rw[oC,Qq,Qv (Ep (zHV hn hk hv) jb)]
 exact Eo (fun z=>some (D.str z)) (Ru _ _)
theorem zWh:∀(l:List Dq) (x0:B) (j7:List D),(∀q∈l,GD n q)->vL (gN 0) tOK (zN 1 lY (zY (eV 0) zR)) (l.map w9) [x0] j7=some (j7++l.map fun q=>.str (zY5 q))
 | [],_,j7,_=>by simp[vL]
 | v::r,x0,j7,h=>by
   rw[Qu]
   unfold vL
   have e1:gN 0 (w9 v) [x0]=some [.fz (w9 v)]:=rfl
   have e2:tOK [.fz (w9 v)]=some true:=rfl
   rw[e1,Qq,e2,Qq,Qv rfl,(sH (x:=w9 v) rfl).trans (zTt hn (h v Qf)),Qq,zWh r _ _ fun q hq=>h q (Qa _ hq)]
   simp
variable {ps:List Pt} (ok:PtsOk n ps) {w:Str} (hw:Wd w) (j:Bool)
include ok hw
theorem zSW:nI [zA w n j ps]=some ((w8 w n j::ps.map tL).map D.str):=by
 have hs:=ok.small hn
 have hcs:∀p∈ps,p.c∈zG n/\p.t∈zC n:=fun p hp=>⟨ok.perm.mem_iff.mp (Wj.mpr ⟨p,hp,rfl⟩),ok.turn p hp⟩
 show(pV [.fz (zA w n j ps),.no,.no]).bind zSI=_
 unfold pV
 rw[pO (d:=.str (if j=true then "joined" else "loose")) (by cases j<;>rfl)]
 dsimp only[List.set]
 unfold lQ
 rw[pO (d:=.str (w8 w n j)) (by
   have e5:wB (yB "Curve" "dims" (eV 0)) [.fz (zA w n j ps),.fz (.str (if j=true then "joined" else "loose")),.no]=some (.str (if n=2 then("2":Str) else "3")):=by
     unfold wB
     rw[show yB "Curve" "dims" (eV 0) [.fz (zA w n j ps),.fz (.str (if j=true then "joined" else "loose")),.no]=some (.int n) from rfl]
     rcases hn with rfl | rfl<;>kernel_rfl
   have l3:(if j=true then("joined":Str) else "loose").length<=6:=by cases j<;>decide +kernel
   have l4:(if n=2 then("2":Str) else "3").length<=1:=by split<;>decide +kernel
   have h2:w.length<=12:=hw.2.1
   unfold vB
   rw[show eC (.str " ") _=some (D.str " ") from rfl,Qq,show yD (zY (eC (.str "curve")) (zY (yB "Curve" "name" (eV 0)) (zY (eV 1) (zY (wB (yB "Curve" "dims" (eV 0))) zR)))) [.fz (zA w n j ps),.fz (.str (if j=true then "joined" else "loose")),.no]=some ((pW w n j).map D.str) from by
     unfold yD
     rw[zK rfl (zK (d:=.str w) rfl (zK rfl (zK e5 rfl)))]
     rfl,Qq]
   dsimp only
   rw[oC,Qq,Qv]
   · exact Eo (fun z=>some (D.str z)) (Ru _ _)
   · show((pW w n j).map (·.length)).sum+(pW w n j).length*1<=100000
     unfold pW
     have l1:("curve":Str).length=5:=ja
     simp only[Qu,Wz,Rz,Yk,Qo,Eh]
     omega)]
 dsimp only[List.set]
 unfold dQ zWN
 have ec:yN (iL (yB "Curve" "parts" (eV 0))) 1 [] (gN 0) tOK (zN 1 pA (zY (eV 0) zR)) [.fz (zA w n j ps),.fz (.str (if j=true then "joined" else "loose")),.fz (.str (w8 w n j))]=some (ps.map fun p=>.str (tL p)):=by
   unfold yN
   rw[show iL (yB "Curve" "parts" (eV 0)) [.fz (zA w n j ps),.fz (.str (if j=true then "joined" else "loose")),.fz (.str (w8 w n j))]=some (ps.map yF) from by
     unfold iL
     rw[cF _ (eV 0) (wN:=w) (n:=n) (j:=j) (ps:=ps) rfl]
     rfl,Qq,uM (by rw[Qt];omega),Qq]
   exact(zUO hn ps .no [] hcs).trans (by rw[Ws])
 unfold eT
 rw[zTr (d:=.str (w8 w n j)) rfl,Qq,ec,Qq,uM (by simp;omega),Qu,Rq]
 rfl
variable {a b:Nat} (hq:(a,b)∈jS n) {l:List Dq} (hl:l.length<=60) (hd:∀q∈l,GD n q)
include hq hl hd
theorem zVJ:pU [eY (zA w n j ps) a b (l.map w9)]=some (.str (Str.join "\n" (xS w n j ps a b l))):=by
 have hs:=ok.small hn
 obtain⟨hfree,hsum⟩:=zWn hn ok hw hq j hl hd
 have h6:("\n":Str).length=1:=ja
 obtain⟨m1,m2⟩:=zMp hn hq
 have f2:=zU3 hn hq
 have hr:=zSW hn ok hw j
 have ed:=zWh hn l .no [] hd
 rw[Ws] at ed
 show(qM [.fz (eY (zA w n j ps) a b (l.map w9)),.no]).bind xR=_
 unfold qM
 refine wR (d:=.str (vS a b)) (by
   have ea:yD (zY (eC (.str "floor")) (zY (wB (yB "Scene" "level" (eV 0))) (zY (wB (yB "Scene" "size" (eV 0))) zR))) [.fz (eY (zA w n j ps) a b (l.map w9)),.no]=some ((sF a b).map .str) :=
     zWq (zK (d:=.str "floor") rfl (zK (d:=.str (zSu a)) m1 (zK (d:=.str (zSu b)) m2 rfl))) (by show(3:Nat)<=100000;decide)
   have hfl:((sF a b).map (·.length)).sum+(sF a b).length*(" ":Str).length<=100000:=by
     have q:=Qn.mp zGY _ (lv2 hn hq)
     have q:=Wn q
     exact Ep q jb
   unfold vB
   rw[show eC (.str " ") _=some (D.str " ") from rfl,Qq,ea,Qq]
   dsimp only
   rw[oC,Qq,Qv hfl]
   exact Eo (fun z=>some (D.str z)) (Ru _ _)) ?_
 dsimp only[List.set]
 unfold dL
 refine pI.trans ?_
 have ec:eT (eT (tR 1 nI (zY (yB "Scene" "curve" (eV 0)) zR)) (yD (zY (eV 1) zR))) (yN (iL (yB "Scene" "deeds" (eV 0))) 1 [] (gN 0) tOK (zN 1 lY (zY (eV 0) zR))) [.fz (eY (zA w n j ps) a b (l.map w9)),.fz (.str (vS a b))]=some ((xS w n j ps a b l).map .str):=by
   rw[zUr hn (xs:=(w8 w n j::ps.map tL).map D.str++[.str (vS a b)]) (ys:=l.map fun q=>.str (zY5 q)) (zUr hn (xs:=(w8 w n j::ps.map tL).map D.str) (by
     rw[←hr]
     unfold tR
     rw[zK (d:=zA w n j ps) (by unfold yB;rfl) rfl]
     rfl) (zTr rfl) (by rw[Qt,Qo,Qt];show ps.length+1+1<=1000;omega)) (by
     unfold yN
     rw[show iL (yB "Scene" "deeds" (eV 0)) [.fz (eY (zA w n j ps) a b (l.map w9)),.fz (.str (vS a b))]=some (l.map w9) from by unfold iL yB;rfl,Qq,uM (by rw[Qt];omega),Qq]
     exact ed) (by rw[Qk,Qt,Qo,Qt,Qt];show ps.length+1+1+l.length<=1000;omega)]
   unfold xS
   rw[Wt,Wt,Rq]
   rfl
 unfold vB
 rw[show eC (.str "\n") _=some (D.str "\n") from rfl,Qq,ec,Qq]
 dsimp only
 rw[oC,Qq,Qv]
 · exact Eo (fun z=>some (D.str z)) (Ru _ _)
 · rw[h6];omega
end
def zGx {f:jv}{fa fb fc fd fe:Ef}{ρ:List B}{a b c d e:D}(h1:fa ρ=some a)(h2:fb ρ=some b)(h3:fc ρ=some c)(h4:fd ρ=some d)(h5:fe ρ=some e):zN 5 f (zY fa (zY fb (zY fc (zY fd (zY fe zR))))) ρ=f [a,b,c,d,e]:=iP (zK h1 (zK h2 (zK h3 (zK h4 (zK h5 rfl))))) rfl
def zLd {n:Nat}{f:List D->Option (List D)}{g:Lf}{ρ:List B}{ds:List D}(h:g ρ=some ds)(hl:ds.length=n):tR n f g ρ=f ds:=by unfold tR;rw[h,Qq,Qv hl]
def dA (ns:List Int)(z:Int)(h0:0<=z):∃c,vP [.lst (ns.map .int),.int z]=some (.int c):=by
 show ∃c,(rS [.fz (.lst (ns.map .int)),.fz (.int z)]).bind xR=some (.int c)
 have t:eB2 gLt (eV 1) (wT (eV 0)) [.fz (.lst (ns.map .int)),.fz (.int z)]=some (decide (z < (ns.length:Nat))):=by
   show some (decide (z < ((ns.map D.int).length:Nat)))=_
   rw[Qt]
 unfold rS
 by_cases h:z < (ns.length:Nat)
 · refine⟨ns.getD z.toNat 0,?_⟩
   rw[zZe (d:=.int (ns.getD z.toNat 0)) ((rZ t).trans (by
     rw[Qp h,Qv rfl]
     unfold yM
     rw[show eIx (eV 0) (eV 1) [.fz (.lst (ns.map .int)),.fz (.int z)]=some (.int (ns.getD z.toNat 0)) from by
       show atI (ns.map D.int) z=_
       rw[bY,cM ns _ 0 h0 h]
       rfl]
     rfl))]
   rfl
 · refine⟨0,?_⟩
   rw[yE (ρ':=[.fz (.lst (ns.map .int)),.fz (.int z)]) ((rZ t).trans (by rw[Qb h];rfl))]
   rfl
def zTZ {n:Nat}{ps:List Pt}{w:Str}:oE [zA w n false ps]=some (zA w n false ps):=rfl
def zGs {n:Nat}(hn:n=2∨n=3){q:Dq}(h:GD n q):okS 4 (w9 q)=true:=by
 have hl:=zY4 h.1
 refine zPw (by rw[Qo,Qt];omega) (bX rfl (iV fun v hv=>zGp v (h.2 v hv) jc))
def zKI:∀(n:Nat),(∀d,okS n d=true->okS (n+1) d=true)/\∀ds,bW n ds=true->bW (n+1) ds=true:=by
 intro n
 induction n with
 | zero =>
   refine⟨fun d h=>(by unfold okS at h;cases h),fun ds h=>?_⟩
   cases ds with
   | nil=>rfl
   | cons d r=>unfold bW okS at h;cases h
 | succ n ih =>
   have one:∀d,okS (n+1) d=true->okS (n+2) d=true:=fun d h=>by
     cases d with
     | tup ds =>
       unfold okS at h ⊢
       rw[Qc] at h ⊢
       exact⟨h.1,ih.2 ds h.2⟩
     | lst ds =>
       unfold okS at h ⊢
       rw[Qc] at h ⊢
       exact⟨h.1,ih.2 ds h.2⟩
     | obj a b c=>unfold okS at h;cases h
     | exc a b c=>unfold okS at h;cases h
     | _=>rfl
   refine⟨one,fun ds=>?_⟩
   induction ds with
   | nil=>intro _;rfl
   | cons d r ihr =>
     intro h
     unfold bW at h ⊢
     rw[Qc] at h ⊢
     exact⟨one d h.1,ihr h.2⟩
def aD:∀l:List Int,uX (l.map D.int)=true
 | []=>rfl
 | x::r=>by rw[Qu];unfold uX;rw[aD r];rfl
def zOU:∀t:Tn,uX (t.map iM)=true
 | []=>rfl
 | x::r=>by rw[Qu];unfold uX;rw[zOU r];rfl
def zVu:∀ps:List Pt,uX (ps.map yF)=true
 | []=>rfl
 | p::r=>by
   rw[Qu]
   unfold uX
   rw[zVu r,Ym]
   show uX [yX p.c,yU p.t,.bl p.b]=true
   show(uX (p.c.map D.int)&&(uX (p.t.map iM)&&(true&&true)))=true
   rw[aD,zOU]
   rfl
def zOZ:∀l:List Dq,uX (l.map w9)=true
 | []=>rfl
 | q::r=>by
   have go:∀vs:List Val,uX (vs.map wF)=true:=by
     intro vs
     induction vs with
     | nil=>rfl
     | cons v t ih =>
       rw[Qu]
       unfold uX
       rw[ih,Ym]
       cases v with
       | pl p=>exact aD p
       | _=>rfl
   rw[Qu]
   unfold uX
   rw[zOZ r,Ym]
   show(true&&uX (q.2.map wF))=true
   rw[go]
   rfl
def zIW {f:jv}{f1 f2 f3 f4 f5 f6 f7 f8:Ef}{ρ:List B}{a b c d e g h i:D}(h1:f1 ρ=some a)(h2:f2 ρ=some b)(h3:f3 ρ=some c)(h4:f4 ρ=some d)(h5:f5 ρ=some e)(h6:f6 ρ=some g)(h7:f7 ρ=some h)(h8:f8 ρ=some i):zN 8 f (zY f1 (zY f2 (zY f3 (zY f4 (zY f5 (zY f6 (zY f7 (zY f8 zR)))))))) ρ=f [a,b,c,d,e,g,h,i]:=iP (zK h1 (zK h2 (zK h3 (zK h4 (zK h5 (zK h6 (zK h7 (zK h8 rfl)))))))) rfl
section
variable {n:Nat} (hn:n=2∨n=3)
include hn
theorem zKX (j:Bool)(r c:Int)(S:D)(hS:vP [S,.int 1]=some (.int c))(x5 x6 x7 x8 x9 x10 x11 x12 x13 x14 x15 x16 x17 x18:B)(w:Str):∃ps:List Pt,PtsOk n ps/\oE [zA w n j ps]=some (zA w n j ps) /\
   ∀o,(zXG [.fz S,.fz (.int r),.fz (.int n),.fz (.bl j),.fz (.lst (ps.map xO)),x5,x6,x7,x8,x9,x10,x11,x12,x13,x14,x15,x16,x17,x18]).bind xR=o ->
     (zZs [.fz S,.fz (.int r),.fz (.int n),.fz (.bl j),.no,x5,x6,x7,x8,x9,x10,x11,x12,x13,x14,x15,x16,x17,x18]).bind xR=o:=by
 obtain⟨ls,okl,el⟩:=zLr hn c
 obtain⟨js,e,f,okj,M,ej⟩:=zN2 hn (zXb c 16807)
 have em:=aS c 16807 jb jb
 have t:=dN (t:=tB1 (eV 3)) (u:=eB2 gEq (xG (wJ (eV 1) jp) jp) jm) (ρ:=[.fz S,.fz (.int r),.fz (.int n),.fz (.bl j),.fz (.lst (ls.map xO)),x5,x6,x7,x8,x9,x10,x11,x12,x13,x14,x15,x16,x17,x18]) (a:=j) (b:=decide (r / 4 % 4=1)) rfl (wX (yZ (yZ rfl rfl rfl) rfl rfl))
 by_cases hb:(j||decide (r / 4 % 4=1))=true
 · refine⟨js,okj,zOr hn okj M j,fun o h=>?_⟩
   unfold zZs
   refine wR (bL ((aA rfl ((vD rfl rfl).trans hS)).trans el)) ?_
   dsimp only[List.set]
   unfold zXF
   refine xZ ((rZ t).trans ?_) h
   rw[Qv hb]
   unfold yK
   rw[bL ((aA rfl ((vD ((vD rfl rfl).trans hS) rfl).trans em)).trans ej)]
   rfl
 · have hj:j=false:=by cases j with
     | true=>exact absurd rfl hb
     | false=>rfl
   refine⟨ls,okl,by rw[hj];exact zTZ,fun o h=>?_⟩
   unfold zZs
   refine wR (bL ((aA rfl ((vD rfl rfl).trans hS)).trans el)) ?_
   dsimp only[List.set]
   unfold zXF
   refine xZ ((rZ t).trans ?_) h
   rw[Wh hb]
theorem zLI {a:Nat}(ha:a<=6)(ws:List Str)(h8:ws.length=8)(hw:∀w∈ws,Wd w)(x0 x1 x3 x4 x6:B)(zs:List B)(R0:List Str)(hR0:R0.length<=20)(i:Nat)(hi:i < 60)(c:Int)(l:List Dq)(hl:l.length=i)(hd:∀q∈l,GD n q) :
   ∃q:Dq,GD n q/\iZ (x0::x1 :: .fz (.int n)::x3::x4 :: .fz (.int a)::x6 :: .fz (.lst (ws.map .str)) :: .ow (l.map w9) :: .ow ((R0++l.map zY5).map .str) :: .fz (.int (i:Nat)) :: .fz (.int c)::zs) =
     some (.nx (x0::x1 :: .fz (.int n)::x3::x4 :: .fz (.int a)::x6 :: .fz (.lst (ws.map .str)) :: .ow ((l++[q]).map w9) :: .ow ((R0++(l++[q]).map zY5).map .str) :: .fz (.int (i:Nat)) :: .fz (.int c)::zs)):=by
 obtain⟨d1,e1,r1⟩:=zJb hn ha (c+65537*(i:Nat)*(i:Nat)) ws h8 hw
 obtain⟨k,vs,e3,hk,hv⟩:=zOx hn d1 r1
 have e4:=zR7 hn hk hv
 refine⟨(k,vs),⟨hk,hv⟩,?_⟩
 unfold iZ
 rw[yE (rH (d:=vJ k vs) (ds:=l.map w9) ((sH ((zGx (sV rfl (yZ (yZ rfl rfl (rE jb jb)) rfl (rE jc jc))) rfl rfl rfl rfl).trans e1)).trans e3) rfl (by rw[Qt];omega))]
 dsimp only[List.set]
 unfold zRS
 rw[rH (d:=.str (zWT k vs)) (ds:=(R0++l.map zY5).map .str) ((sH (x:=vJ k vs) (by
   show atI (l.map w9++[vJ k vs]) (i:Nat)=_
   refine zZm ?_
   rw[Ew (by rw[Qt,hl];exact Ql _),Qt,hl,Ic]
   rfl)).trans e4) rfl (by rw[Qt,Qk,Qt];omega)]
 dsimp only[List.set]
 rw[Wt,Wt,Wt,Wt,Wt,Ex]
 rfl
theorem zRF {a:Nat}(ha:a<=6)(ws:List Str)(h8:ws.length=8)(hw:∀w∈ws,Wd w)(x0 x1 x3 x4 x6:B)(zs:List B)(R0:List Str)(hR0:R0.length<=20):∀(cs:List Int) (l:List Dq) (i:Nat) (x9 x10:B),l.length=i->i+cs.length<=60->(∀q∈l,GD n q) ->
   ∃(l':List Dq) (y9 y10:B),l'.length<=60/\(∀q∈l',GD n q)/\mS (gT (zM (gN 10) (zM (gN 11) xI))) iZ (((cs.map D.int).zipIdx i).map fun q=>D.tup [.int (q.2:Nat),q.1]) (x0::x1 :: .fz (.int n)::x3::x4 :: .fz (.int a)::x6 :: .fz (.lst (ws.map .str)) :: .ow (l.map w9) :: .ow ((R0++l.map zY5).map .str)::x9::x10::zs) =
     some (.nx (x0::x1 :: .fz (.int n)::x3::x4 :: .fz (.int a)::x6 :: .fz (.lst (ws.map .str)) :: .ow (l'.map w9) :: .ow ((R0++l'.map zY5).map .str)::y9::y10::zs))
 | [],l,i,x9,x10,hl,hi,hd=>⟨l,x9,x10,by rw[hl];simpa using hi,hd,rfl⟩
 | c::t,l,i,x9,x10,hl,hi,hd=>by
   rw[Qo] at hi
   obtain⟨q,hq,e⟩:=zLI hn ha ws h8 hw x0 x1 x3 x4 x6 zs R0 hR0 i jc c l hl hd
   obtain⟨l',z9,z10,hl',hd',e'⟩:=zRF ha ws h8 hw x0 x1 x3 x4 x6 zs R0 hR0 t (l++[q]) (i+1) (.fz (.int (i:Nat))) (.fz (.int c)) (by rw[Qk,Ey,hl]) jc (fun z hz=>by
     rcases Eu.mp hz with hz | hz
     · exact hd z hz
     · rw[Wm.mp hz];exact hq)
   refine⟨l',z9,z10,hl',hd',?_⟩
   rw[Qu,Ot,Qu,nB rfl e]
   exact e'
end
def zWa {n:Nat}(hn:n=2∨n=3){ps:List Pt}(ok:PtsOk n ps){w:Str}(j:Bool)(a b:Nat){l:List Dq}(hl:l.length<=60)(hd:∀q∈l,GD n q):sS [eY (zA w n j ps) a b (l.map w9),.str w,.bl j,.int n,.lst (ps.map xO),.int (a:Nat),.int (b:Nat),.lst (l.map w9)]=some (.bl true):=by
 have hs:=ok.small hn
 have s0:rF [.lst [.str w,.bl j,.int n,.int (a:Nat),.int (b:Nat)],.lst [.str w,.bl j,.int n,.int (a:Nat),.int (b:Nat)]]=some (.bl true):=cC 7 _ rfl
 have s1:rF [.lst (l.map w9),.lst (l.map w9)]=some (.bl true):=cC 7 _ (by
   unfold okS
   rw[Qt,Qp (show l.length<=1000 by omega),Tb]
   exact iV fun q hqm=>(zKI 5).1 _ ((zKI 4).1 _ (zGs hn (hd q hqm))))
 have s2:rF [.lst (ps.map xO),.lst (ps.map xO)]=some (.bl true):=cC 7 _ (by
   unfold okS
   rw[Qt,Qp (show ps.length<=1000 by omega),Tb]
   refine iV fun p hp=>?_
   have hc:p.c.length=n:=uD hn _ (ok.perm.mem_iff.mp (Wj.mpr ⟨p,hp,rfl⟩))
   have ht:p.t.length<=1000:=by rw[(trM hn (ok.turn p hp)).len];omega
   exact zPw (by show(3:Nat)<=1000;decide) (bX (zIM (n:=3) jc) (bX (zGl (n:=2) jc) (bX rfl rfl))))
 show(tW [.fz (eY (zA w n j ps) a b (l.map w9)),.fz (.str w),.fz (.bl j),.fz (.int n),.fz (.lst (ps.map xO)),.fz (.int (a:Nat)),.fz (.int (b:Nat)),.fz (.lst (l.map w9)),.no]).bind xR=_
 unfold tW
 refine wR (d:=.lst [.str w,.bl j,.int n,.int (a:Nat),.int (b:Nat)]) rfl ?_
 dsimp only[List.set]
 unfold rK
 refine sW (dN (zPe ((vD rfl rfl).trans s0)) (zPe ((vD (x:=.lst (l.map w9)) (by unfold yB;rfl) rfl).trans s1))) ?_
 unfold lF
 refine pI.trans ((vD (x:=.lst (ps.map xO)) (y:=.lst (ps.map xO)) (bL ?_) rfl).trans s2)
 unfold yN
 generalize hE:l.map w9=E
 rw[show iL (yB "Curve" "parts" (yB "Scene" "curve" (eV 0))) [.fz (eY (zA w n j ps) a b E),.fz (.str w),.fz (.bl j),.fz (.int n),.fz (.lst (ps.map xO)),.fz (.int (a:Nat)),.fz (.int (b:Nat)),.fz (.lst E),.fz (.lst [.str w,.bl j,.int n,.int (a:Nat),.int (b:Nat)])]=some (ps.map yF) from by
   unfold iL
   rw[cF _ (yB "Scene" "curve" (eV 0)) (wN:=w) (n:=n) (j:=j) (ps:=ps) (by unfold yB;rfl)]
   rfl,Qq,uM (by rw[Qt];omega),Qq]
 exact(zVn ps .no []).trans (by rw[Ws])
def at7 {ws:List Str}{w:Str}(h:ws[7]?=some w):atI (ws.map D.str) 7=some (.str w):=by
 have e:(ws.map D.str)[7]?=some (D.str w):=by rw[Wa,h];rfl
 exact zZm e
def zJ5 {R:List Str}{g:Lf}{ρ:List B}(h:g ρ=some (R.map D.str))(hs:(R.map (·.length)).sum+R.length<=90000):vB (eC (.str "\n")) g ρ=some (.str (Str.join "\n" R)):=by
 have h6:("\n":Str).length=1:=ja
 unfold vB
 rw[show eC (.str "\n") ρ=some (D.str "\n") from rfl,Qq,h,Qq]
 dsimp only
 rw[oC,Qq,Qv]
 · exact Eo (fun z=>some (D.str z)) (Ru _ _)
 · rw[h6];omega
def zLP (x:Str):gNe (.str x) (.str x)=some false:=by
 show(some (decide (x=x))).map (!·)=_
 rw[Qp rfl]
 rfl
def zSH {i n:Nat}{c fl:Str}{ns:List Str}{l:List D->Option (List D)}{g:Lf}{ρ:List B}{own ds es:List D}(h0:ρ[i]?=some (.ow own))(h1:g ρ=some ds)(h3:l (ds++[.lst own])=some es)(hn:ds.length+1=n/\ns.length=ds.length/\uX es=true):zYN i c ns fl n l g ρ=some (.obj c (ns++[fl]) (ds++[.lst es])):=by
 unfold zYN
 rw[h0]
 dsimp only
 rw[h1,Qq,h3,Qq,Qv hn]
section
variable {n:Nat} (hn:n=2∨n=3) {ps:List Pt} (ok:PtsOk n ps) (j:Bool) {a b:Nat} (hq:(a,b)∈jS n) {l:List Dq} (hl:l.length<=60) (hd:∀q∈l,GD n q) {ws:List Str} {w7:Str} (e7:ws[7]?=some w7) (hw7:Wd w7) (hf:oE [zA w7 n j ps]=some (zA w7 n j ps)) (ns:List Int) (r:Int)
include hn ok hq hl hd e7 hw7 hf
theorem zJ7 (y10 y11 x12 x14:B):(zZE [.fz (.lst (ns.map .int)),.fz (.int r),.fz (.int n),.fz (.bl j),.fz (.lst (ps.map xO)),.fz (.int (a:Nat)),.fz (.int (b:Nat)),.fz (.lst (ws.map .str)),.fz (.lst (l.map w9)),.fz (.lst ((xS w7 n j ps a b l).map .str)),y10,y11,x12,.fz (zA w7 n j ps),x14,.fz (eY (zA w7 n j ps) a b (l.map w9)),.fz (.str (Str.join "\n" (xS w7 n j ps a b l))),.no,.no]).bind xR=some (.bl true):=by
 have hsc:=zMb hn ok hw7 hq j hl hd _ rfl hf
 have ht:=zVJ hn ok hw7 j hq hl hd
 have hs:=zWa hn ok (w:=w7) j a b hl hd
 have e7':∀ρ:List B,eIx (eV 7) jt (.fz (.lst (ns.map .int)) :: .fz (.int r) :: .fz (.int n) :: .fz (.bl j) :: .fz (.lst (ps.map xO)) :: .fz (.int (a:Nat)) :: .fz (.int (b:Nat)) :: .fz (.lst (ws.map .str))::ρ)=some (.str w7):=fun ρ=>by
   refine(sC (x:=.lst (ws.map .str)) (y:=.int 7) rfl rfl).trans ?_
   exact at7 e7
 generalize Str.join "\n" (xS w7 n j ps a b l)=T at hsc ht ⊢
 generalize(xS w7 n j ps a b l).map D.str=RR
 unfold zZE
 refine wR ((sH rfl).trans ht) ?_
 dsimp only[List.set]
 unfold zXk
 refine sW (dN (a:=false) rfl (dN (a:=false) (b:=false) (zLP T) (by
   unfold eB2
   rw[(sH rfl).trans ht]
   exact zLP T))) ?_
 unfold zWi
 refine sW (zPe ((zIW rfl (e7' _) rfl rfl rfl rfl rfl rfl).trans hs)) ?_
 unfold zXu
 refine wR ((sH rfl).trans hsc) ?_
 dsimp only[List.set]
 unfold zW6
 refine sW (by
   unfold eB2
   rw[(sH rfl).trans ht]
   exact zLP T) ?_
 unfold zS8
 exact pI.trans ((zIW rfl (e7' _) rfl rfl rfl rfl rfl rfl).trans hs)
theorem zJ9 (y10 y11:B):(zZI [.fz (.lst (ns.map .int)),.fz (.int r),.fz (.int n),.fz (.bl j),.fz (.lst (ps.map xO)),.fz (.int (a:Nat)),.fz (.int (b:Nat)),.fz (.lst (ws.map .str)),.ow (l.map w9),.ow ((xS w7 n j ps a b l).map .str),y10,y11,.no,.no,.no,.no,.no,.no,.no]).bind xR=some (.bl true):=by
 have hs:=ok.small hn
 obtain⟨hfree,hsum⟩:=zWn hn ok hw7 hq j hl hd
 have h6:("\n":Str).length=1:=ja
 obtain⟨p0,pr,rfl⟩:∃p0 pr,ps=p0::pr:=by
   cases ps with
   | nil=>have:=ok.len;rcases hn with rfl | rfl<;>cases this
   | cons p0 pr=>exact⟨p0,pr,rfl⟩
 have fin:=zJ7 hn ok j hq hl hd e7 hw7 hf ns r y10 y11
 have e2:=zRe (elt:=dW "Part" ["corner","turn","back"] 3 zZS (zY (eV 0) (zY (eV 1) (zY (eV 2) zR)))) (h:=yF) (p0::pr) .no .no .no [] fun p hp=>rfl
 rw[Ws] at e2
 unfold zZI
 refine xZ (aE (ds:=(p0::pr).map yF) (by
   unfold yN
   rw[show iL (eV 4) _=some ((p0::pr).map xO) from rfl,Qq,uM (by rw[Qt];omega),Qq]
   exact e2)) ?_
 dsimp only[List.set]
 unfold zWm
 refine wR (d:=zA w7 n j (p0::pr)) (zSH (ds:=[.str w7,.int n,.bl j]) (es:=(p0::pr).map yF) rfl (zK ((sC (x:=.lst (ws.map .str)) (y:=.int 7) rfl rfl).trans (at7 e7)) rfl) rfl ⟨rfl,rfl,zVu _⟩) ?_
 dsimp only[List.set]
 unfold zXz
 refine xZ (ρ':=[.fz (.lst (ns.map .int)),.fz (.int r),.fz (.int n),.fz (.bl j),.fz (.lst ((p0::pr).map xO)),.fz (.int (a:Nat)),.fz (.int (b:Nat)),.fz (.lst (ws.map .str)),.fz (.lst (l.map w9)),.ow ((xS w7 n j (p0::pr) a b l).map .str),y10,y11,.ow ((p0::pr).map yF),.fz (zA w7 n j (p0::pr)),.ow (l.map w9),.no,.no,.no,.no]) rfl ?_
 unfold zW0
 refine wR (d:=eY (zA w7 n j (p0::pr)) a b (l.map w9)) (zSH (ds:=[zA w7 n j (p0::pr),.int (a:Nat),.int (b:Nat)]) (es:=l.map w9) rfl rfl rfl ⟨rfl,rfl,zOZ l⟩) ?_
 dsimp only[List.set]
 unfold zX8
 refine xZ (rH (d:=yF ⟨p0.c,p0.t,false⟩) (ds:=(p0::pr).map yF) (by
   have z1:∀ρ:List B,eV 4 ρ=some (.lst ((p0::pr).map xO))->eIx (eV 4) jl ρ=some (xO p0):=fun ρ h=>(sC (y:=.int 0) h rfl).trans (at0 _ _)
   refine zWM (ds:=[yX p0.c,yU p0.t,.bl false]) (zK ((sC (z1 _ rfl) rfl).trans rfl) (zK ((sC (z1 _ rfl) rfl).trans rfl) (zK rfl rfl))) rfl rfl rfl) rfl (by rw[Qt];omega)) ?_
 dsimp only[List.set]
 unfold zX0
 refine xZ (rH (d:=.tup [.str "names"]) (ds:=l.map w9) rfl rfl (by rw[Qt];omega)) ?_
 dsimp only[List.set]
 unfold zX1
 refine xZ (ρ':=[.fz (.lst (ns.map .int)),.fz (.int r),.fz (.int n),.fz (.bl j),.fz (.lst ((p0::pr).map xO)),.fz (.int (a:Nat)),.fz (.int (b:Nat)),.fz (.lst (ws.map .str)),.fz (.lst (l.map w9)),.fz (.lst ((xS w7 n j (p0::pr) a b l).map .str)),y10,y11,.ow ((p0::pr).map yF++[yF ⟨p0.c,p0.t,false⟩]),.fz (zA w7 n j (p0::pr)),.ow (l.map w9++[.tup [.str "names"]]),.fz (eY (zA w7 n j (p0::pr)) a b (l.map w9)),.fz (.str (Str.join "\n" (xS w7 n j (p0::pr) a b l))),.no,.no]) (by
   show yK 16 (vB (eC (.str "\n")) (iL (eV 9))) _=_
   unfold yK
   rw[zJ5 (R:=xS w7 n j (p0::pr) a b l) rfl hsum]
   rfl) ?_
 exact fin _ _
end
def zLX (ns:List Int)(h:ns.length<=63)(hb:∀n∈ns,Builtin.Int.intBits n<=1048576):zUI [.lst (ns.map .int)]=some (.bl true):=by
 obtain⟨c0,q0⟩:=dA ns 0 jb
 obtain⟨c1,q1⟩:=dA ns 1 jb
 obtain⟨c2,q2⟩:=dA ns 2 jb
 have e1:=aS c0 39373 jb jb
 have r0:0<=zXb c0 39373:=zTF _ _
 generalize zXb c0 39373=r at e1 r0
 obtain⟨n,hn,hnn⟩:∃n:Nat,(n=2∨n=3)/\(2+r % 2)=(n:Int):=by
   rcases bit r with h | h
   · exact⟨2,.inl rfl,jc⟩
   · exact⟨3,.inr rfl,jc⟩
 obtain⟨a,eqa,ha⟩:∃a:Nat,r / 16 % (11 - 2*(n:Int))=(a:Nat)/\a < 11 - 2*n:=⟨(r / 16 % (11 - 2*(n:Int))).toNat,by
   have:=Rn (r / 16) (show(11 - 2*(n:Int))≠0 by omega)
   omega,by
   have:=Rn (r / 16) (show(11 - 2*(n:Int))≠0 by omega)
   have:=Rl (r / 16) (show 0 < (11 - 2*(n:Int)) by omega)
   omega⟩
 obtain⟨b,eqb,b4,b13⟩:∃b:Nat,4+r / 256 % 9=(b:Nat)/\4<=b/\b < 13:=⟨(4+r / 256 % 9).toNat,jc,jc,jc⟩
 have ha6:a<=6:=jc
 have hq:(a,b)∈jS n:=zMX ha b4 b13
 have hj:∀x2 x3 x4 x5 x6 x7 x8 x9 x10 x11 x12 x13 x14 x15 x16 x17 x18:B,uZ (eB2 gEq (xG (wJ (eV 1) jn) jn) jm) [.fz (.lst (ns.map .int)),.fz (.int r),x2,x3,x4,x5,x6,x7,x8,x9,x10,x11,x12,x13,x14,x15,x16,x17,x18]=some (.bl (decide (r / 2 % 2=1))):=fun x2 x3 x4 x5 x6 x7 x8 x9 x10 x11 x12 x13 x14 x15 x16 x17 x18=>by
   unfold uZ;rw[wX (x:=r / 2 % 2) (yZ (yZ rfl rfl rfl) rfl rfl)];rfl
 generalize decide (r / 2 % 2=1)=j at hj
 obtain⟨ws,ew,h8,hw⟩:=cE (α:=Str) (elt:=zN 2 fX (zY (xG (zN 2 vP (zY (eV 1) (zY jn zR))) (zSL (eC (.int 10)) (eC (.int 12)))) (zY (eV 0) zR))) (f:=D.str) (Q:=Wd) (rest:=[.fz (.lst (ns.map .int))]) (tD 0 8) .no [] (fun d hd=>by
   obtain⟨i,hi,rfl⟩:=jA hd
   obtain⟨w,e,hw⟩:=zKq (c2 % (10:Int)^(12:Int).toNat) (0+(i:Nat))
   exact⟨w,(vD (x:=.int (c2 % (10:Int)^(12:Int).toNat)) (y:=.int (0+(i:Nat))) (yZ ((vD rfl rfl).trans q2) (yZ (C:=zUj) (g:=fun i j=>i^j.toNat) (i:=10) (j:=12) rfl rfl jb) jb) rfl).trans e,hw⟩)
 rw[Ws] at ew
 rw[tT] at h8
 obtain⟨w7,e7⟩:∃w7,ws[7]?=some w7:=⟨ws[7],Qi jc⟩
 have hw7:Wd w7:=hw w7 (Ta e7)
 obtain⟨ps,ok,hf,step⟩:=zKX hn j r c1 (.lst (ns.map .int)) q1 .no .no .no .no .no .no .no .no .no .no .no .no .no .no w7
 have hs:=ok.small hn
 have er:=zVy hn ok j hw7
 obtain⟨cs,hcs,hclen⟩:∃cs:List Int,zZO (ns.map D.int) (some 3) (some 63)=cs.map D.int/\cs.length<=60:=by
   have z1:HT.sIx (ns.map D.int).length 0 (some 3)=min 3 ns.length:=by rw[Qt];exact HT.sIx_nat _ _ 3
   have z2:HT.sIx (ns.map D.int).length (ns.map D.int).length (some 63)=min 63 ns.length:=by rw[Qt];exact HT.sIx_nat _ _ 63
   refine⟨(ns.drop (min 3 ns.length)).take (min 63 ns.length - min 3 ns.length),?_,?_⟩
   · unfold zZO
     rw[z1,z2,List.map_take,List.map_drop]
   · rw[Yt,Oq]
     omega
 have hR0:(w8 w7 n j::ps.map tL++[vS a b]).length<=20:=by simp;omega
 obtain⟨l,y10,y11,hl,hd,eloop⟩:=zRF hn ha6 ws h8 hw (.fz (.lst (ns.map .int))) (.fz (.int r)) (.fz (.bl j)) (.fz (.lst (ps.map xO))) (.fz (.int (b:Nat))) [.no,.no,.no,.no,.no,.no,.no] (w8 w7 n j::ps.map tL++[vS a b]) hR0 cs [] 0 .no .no rfl jc (fun q hq=>nomatch hq)
 have mid:=zJ9 hn ok j hq hl hd e7 hw7 hf ns r y10 y11
 show(zXJ [.fz (.lst (ns.map .int)),.no,.no,.no,.no,.no,.no,.no,.no,.no,.no,.no,.no,.no,.no,.no,.no,.no,.no]).bind xR=_
 unfold zXJ
 refine wR ((vD ((vD rfl rfl).trans q0) rfl).trans e1) ?_
 unfold zTo
 dsimp only[List.set]
 refine wR (d:=.int (n:Nat)) (by rw[←hnn];exact sV rfl (yZ rfl rfl rfl)) ?_
 unfold zUc
 dsimp only[List.set]
 refine wR (hj _ _ _ _ _ _ _ _ _ _ _ _ _ _ _ _ _) ?_
 dsimp only[List.set]
 refine step _ ?_
 unfold zXG
 refine wR (d:=.int (a:Nat)) (by
   rw[←eqa]
   exact yZ (yZ rfl rfl rfl) (yZ rfl (yZ rfl rfl (rE jb jb)) rfl) (Qp jc)) ?_
 dsimp only[List.set]
 unfold zTW
 refine wR (d:=.int (b:Nat)) (by rw[←eqb];exact sV rfl (yZ (yZ rfl rfl rfl) rfl rfl)) ?_
 dsimp only[List.set]
 unfold zTI
 refine xZ (aE (ds:=ws.map D.str) (by
   unfold yN
   rw[zJM (n:=8) rfl jb,Qq,uM (by rw[tT];decide),Qq]
   exact ew)) ?_
 dsimp only[List.set]
 unfold zTs
 refine xZ (aE (ds:=[]) rfl) ?_
 dsimp only[List.set]
 unfold zUf
 refine xZ (aE (ds:=(w8 w7 n j::ps.map tL).map D.str) (by
   rw[←er]
   refine(zLd (ds:=[.str w7,.bl j,.int n,.lst (ps.map xO)]) (zK (by
     show atI (ws.map D.str) 7=_
     exact at7 e7) (zK rfl (zK rfl (zK rfl rfl)))) rfl))) ?_
 dsimp only[List.set]
 unfold zWr
 refine xZ (rH (d:=.str (vS a b)) (ds:=(w8 w7 n j::ps.map tL).map D.str) (zPS hn hq _ _ _ _ _ _ _ _ _ _ _ _ _ _ _ _ _) rfl (by rw[Qt,Qo,Qt];omega)) ?_
 dsimp only[List.set]
 unfold zWv
 refine xZ (by
   show pQ (zSG (jX (eV 0) (sI jo) (sI (eC (.int 63))))) (gT (zM (gN 10) (zM (gN 11) xI))) iZ [.fz (.lst (ns.map .int)),.fz (.int r),.fz (.int n),.fz (.bl j),.fz (.lst (ps.map xO)),.fz (.int (a:Nat)),.fz (.int (b:Nat)),.fz (.lst (ws.map .str)),.ow [],.ow ((w8 w7 n j::ps.map tL).map D.str++[.str (vS a b)]),.no,.no,.no,.no,.no,.no,.no,.no,.no]=_
   unfold pQ
   rw[show zSG (jX (eV 0) (sI jo) (sI (eC (.int 63)))) [.fz (.lst (ns.map .int)),.fz (.int r),.fz (.int n),.fz (.bl j),.fz (.lst (ps.map xO)),.fz (.int (a:Nat)),.fz (.int (b:Nat)),.fz (.lst (ws.map .str)),.ow [],.ow ((w8 w7 n j::ps.map tL).map D.str++[.str (vS a b)]),.no,.no,.no,.no,.no,.no,.no,.no,.no]=some (numbered (cs.map D.int)) from by
     rw[←hcs];rfl,Qq]
   rw[Wz,Wz,Wx,Wt] at eloop
   exact eloop) ?_
 exact mid
end My
open PySem PySem.W PyProof.Rows
set_option maxRecDepth 100000 in
set_option maxHeartbeats 0 in
theorem PySem.Challenge.cw_curveyard_k46_scenes_both_ways_holds : PySem.Challenge.rw_curveyard_k46_scenes_both_ways.Holds := by
 w_on
 refine PySem.W.holds_law My.zJR fun said=>?_
 refine PySem.W.holds_open (r:=PySem.Challenge.rw_curveyard_k46_scenes_both_ways.row) (q:=My.mM) (loose:=My.loose) (XP:=PySem.W.XL My.mM [])
   (YP:=PySem.W.InK My.zTc) My.zJi (PySem.W.InK.of My.zRw) PySem.W.InK.keeps
   (fun s e=>PySem.W.xl_of s (Wy.mp e).1) PySem.W.XL.keeps jf jf jf
   (fun s e=>PySem.W.recFacts_of (Wy.mp e).2) jf (by assumption) ja
   ⟨rfl,rfl,rfl,rfl,rfl,ja⟩ ?hw ?hc
 case hw=>w_witness2
 k_fill
 refine L2.zN9 (l:=PySem.Challenge.rw_curveyard_k46_scenes_both_ways) (n:=63) (k:=10) (x:="_law_script") (CX:=fun _=>L2.CX0) (sp:=fun w=>L2.spF _ 1 My.zUI) rfl jb rfl ⟨rfl,jb,jb⟩ (fun w h Y=>Y) ?F (fun w H a ns hl hb hO hS=>My.zHr hS (My.zLX ns hl hb)) (fun _ _ _ _ _ z=>z)
 case F =>
   intro w mg fa h KX G hmg
   refine' My.zHH KX G hmg ?g0 ?g1 ?g2 ?g3 ?g4 ?g5 ?g6 ?g7 ?g8 ?g9 ?g10 ?g11 ?g12 ?g13 ?g14 ?g15 ?g16 ?g17 ?g18 ?g19 ?g20 ?g21 ?a22 ?l22 ?c22 ?k22 ?dl22 ?dd22 ?g23 ?g24 ?g25 ?g26 ?g27 ?g28 ?g29 ?g30 ?g31 ?g32 ?g33 ?g34 ?g35 ?g36 ?g37 ?g38 ?g39 ?g40 ?g41 ?g42 ?g43 ?g44 ?g45 ?g46 ?g47 ?g48 ?g49 ?g50 ?g51 ?g52 ?g53 ?g54 ?g55 ?ca0 ?ci0 ?cn0 ?cl0 ?cc0 ?ck0 ?cpg0 ?chd0 ?cpo0 ?csa0 ?cmk0 ?ckc0 ?cf0_back ?cf0_corner ?cf0_turn ?ca1 ?ci1 ?cn1 ?cl1 ?cc1 ?ck1 ?cpg1 ?chd1 ?cpo1 ?csa1 ?cmk1 ?ckc1 ?cf1_dims ?cf1_joined ?cf1_name ?cf1_parts ?ca2 ?ci2 ?cn2 ?cl2 ?cc2 ?ck2 ?cpg2 ?chd2 ?cpo2 ?csa2 ?cmk2 ?ckc2 ?cf2_curve ?cf2_deeds ?cf2_level ?cf2_size ?g_BITS ?g_FLIPS ?g_AXES ?g_FIGURES ?g_LETTERS ?g_LONGEST_NUMBER ?g_LONGEST_WORD ?g_PROMISES ?dl_PROMISES ?ds_PROMISES ?g_DIMS ?dl_DIMS ?ds_DIMS ?g_MOST_LEVEL ?dl_MOST_LEVEL ?g_LEAST_SIZE ?g_MOST_SIZE ?g_LEAST_MANY ?g_MOST_MANY ?g_MOST_DEEDS ?g_FORMS ?dl_FORMS ?ds_FORMS ?tl_FORMS_0 ?tl_FORMS_1 ?tl_FORMS_2 ?tl_FORMS_3 ?tl_FORMS_4 ?tl_FORMS_5 ?tl_FORMS_6 ?tl_FORMS_7 ?tl_FORMS_8 ?tl_FORMS_9 ?tl_FORMS_10 ?tl_FORMS_11 ?tl_FORMS_12 ?z_abs ?z_all ?z_bool ?z_enumerate ?z_int ?z_isinstance ?z_len ?z_list ?z_max ?z_min ?z_range ?z_reversed ?z_sorted ?z_str ?z_sum ?z_tuple ?z_zip
   all_goals (try exact⟨_,_,_,_,_,_,_,_,_,_,by k_is,by k_is,by k_is,by k_is⟩)
   all_goals (try k_is)
   (case dd22=>rfl)
   all_goals kernel_rfl

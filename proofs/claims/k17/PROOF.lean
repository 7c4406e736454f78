import PyProof.Rows.All
import OpenK.KLine
import KE.KItem
import Wide.Once
import Open.Boot
import Wide.FinOn
import Lean
import PyProof.EqAt
import PyProof.EqKinds
import PyProof.TupleCall
import PyProof.TupleKey
import KE.KIntText
import KE.IntTextLaws
import OpenK.KOwn
import KE.KIsAll
import PyProof.InstStoreFacts
import PyProof.RaisesMany
import PyProof.RulesAs
import KE.KTryMore
import PyProof.MaxThree
import PyProof.WalkInts
import KE.KRevIter
import PyProof.ListRange
import KE.RegMulBits
import PyProof.ReprRoads
import PyProof.ReprLen
import PyProof.Rows.SumAny
import PyProof.Rows.RuleN_abs
import Wide.Seal
import PyProof.FactsAll.bool_1
import PyProof.DictRoadsH
import PyProof.MinMaxWalk
import PyProof.Rows.CallKwBuiltin
import PyProof.ZipIter
import PyProof.StrLaws
import PyProof.Rows.FStr
import PyProof.Rows.StrNews
import PyProof.Rows.StrItems
import PyProof.StrLawsChain
import PyProof.StrLawsTight
import PyProof.StrCalls
import PyProof.LongRange
import OpenK.KTop
import PyProof.FactsAll.set_1
import PyProof.FactsAll.set_2
import PySem.Challenge.RW_curveyard_k17_neighbours
set_option Elab.async false
set_option Elab.async false
set_option linter.all false
set_option maxRecDepth 100000
set_option maxRecDepth 100000
noncomputable section
section
open PySem PySem.Spec PyProof.Rows
def Qq:=@Option.bind_eq_some_iff
def Qw:=@wpAny_bind
def Qe:=@Option.bind_some
def Qr:=@Heap.get?_push_of_some
def Qt:=@Option.map_eq_some_iff
def Qy:=@wpAny_pure
def Qu:=@List.getElem?_eq_getElem
def Qi:=@List.size_toArray
def Qo:=@List.length_map
def Qp:=@Heap.get?_push_size
def Qa:=@List.length_cons
def Qs:=@Heap.lt_size
def Qd:=@List.mem_cons_of_mem
def Qf:=@Nat.le_refl
def Qg:=@decide_eq_true
def Qh:=@Bool.and_eq_true
def Qj:=@List.mem_cons_self
def Qk:=@List.mem_cons
def Ql:=@List.getElem?_eq_some_iff
def Qz:=@decide_eq_true_eq
def Qx:=@List.getElem?_cons_succ
def Qc:=@if_pos
def Qv:=@Nat.ne_of_lt
def Qb:=@List.map_cons
def Qn:=@Bool.false_ne_true
def Qm:=@Nat.lt_of_lt_of_le
def Wq:=@Option.map_some
def Ww:=@List.all_eq_true
def We:=@List.not_mem_nil
def Wr:=@decide_eq_false
def Wt:=@List.getElem?_map
def Wy:=@wpAny_setField_rec
def Wu:=@List.getD_eq_getElem?_getD
def Wi:=@PassesOwn.never
def Wo:=@List.getElem?_cons_zero
def Wp:=@List.length_append
def Wa:=@Bool.false_eq_true
def Ws:=@List.replicate_succ
def Wd:=@if_neg
def Wf:=@wpAny_newObj_type
def Wg:=@Heap.size_push
def Wh:=@Nat.le_trans
def Wj:=@List.mem_append_right
def Wk:=@Option.some.inj
def Wl:=@List.getElem?_set_ne
def Wz:=@Nat.le_of_lt
def Wx:=@PyProof.Rows.callWith_type1
def Wc:=@List.mem_map
def Wv:=@Nat.lt_irrefl
def Wb:=@Int.toNat_natCast
def Wn:=@PySem.F.plainAttrs_list
def Wm:=@List.getElem?_append_right
def Ew:=@List.map_append
def Ee:=@List.length_reverse
def Er:=@List.mem_filter
def Et:=@List.append_nil
def Ey:=@wpAny_callSpecial?_slot
def Eu:=@wpAny_ite_split
def Ei:=@wpAny_call_entry
def Eo:=@PySem.mem_of_lookup
def Ep:=@wpAny_field
def Ea:=@congrArg
def Es:=@List.getElem?_append_left
def Ed:=@List.length_nil
def Eg:=@PySem.F.slot_list_append
def Eh:=@PySem.F.type_list_append
def Ej:=@List.mem_of_getElem?
def Ek:=@Around.under_plainId
def El:=@wpAny_holding
def Ez:=@List.getElem?_replicate
def Ex:=@wpAny_seqItems
def Ec:=@wpAny_truthy_bool
def Ev:=@List.nil_append
def Eb:=@List.lookup_cons
def En:=@Heap.get?_update_self
def Em:=@builtinLookup_eq_fast
def Rq:=@Array.getElem?_eq_getElem
def Rw:=@or_false
def Re:=@List.nodup_cons
def Rr:=@Option.isSome_iff_exists
def Rt:=@if_true
def Ry:=@PyProof.Rows.slot_tuple_getitem
def Ru:=@codeAny_builtin
def Ri:=@Nat.zero_le
def Ro:=@Nat.pow_pos
def Rp:=@Heap.get?_update_other
def Ra:=@List.pairwise_cons
def Rs:=@wpAny_passesOwn
def Rf:=@Nat.mul_comm
def Rg:=@List.flatten_cons
def Rh:=@wpAny_setState_of
def Rj:=@List.mem_range
def Rk:=@wpAny_is_other
def Rl:=@MeetsSeq.plain_index_loop
def Rz:=@PyProof.Rows.F.plain_set_update_loop
def Rx:=@Nat.lt_succ_self
def Rc:=@List.getElem_mem
def Rv:=@List.ext_getElem
def Rb:=@wpAny_askSetting
def Rn:=@List.mem_reverse
def Rm:=@Nat.ne_of_gt
def Tq:=@Int.pow_succ
def Tw:=@Bool.or_eq_true
def Te:=@PySem.W.kia_one
def Tt:=@plainId_quiet
def Tu:=@List.length_eq_zero_iff
def Ti:=@typeLookup_type
def To:=@List.mem_singleton
def Tp:=@List.getElem?_set_self
def Ta:=@Nat.le_succ
def Ts:=@List.reverse_cons
def Td:=@List.append_assoc
def Tg:=@bne_self_eq_false
def Th:=@Array.getElem?_toList
def Tj:=@List.map_map
def Tk:=@Nat.pow_succ
def Tl:=@beq_eq_false_iff_ne
def Tz:=@List.filterMap_cons
def Tx:=@List.mem_append
def Tc:=@Array.length_toList
def Tv:=@Bool.eq_iff_iff
def Yq:=@Nat.not_lt_zero
def Yw:=@Heap.SameBut.update
def Ye:=@List.length_eraseIdx_of_lt
def Yr:=@wpAny_pyIter_tuple
def Yt:=@codeAny_mono
def Yy:=@wpAny_Call_Name_kw
def Yu:=@if_false
def Yi:=@wpAny_typeOf
def Yo:=@Nat.lt_of_le_of_lt
def Yp:=@Int.emod_lt_of_pos
def Ya:=@Int.mul_comm
def Ys:=@List.pairwise_iff_getElem
def Yd:=@wpAny_pyIter_list
def Yf:=@beq_iff_eq
def Yg:=@PySem.F.args_tuple_add_2
def Yh:=@call_meets
def Yj:=@wpAny_rule
def Yk:=@PySem.F.entry_tuple_add
def Yl:=@List.eraseIdx_cons_succ
def Yz:=@Nat.one_mul
def Yx:=@wpAny_isInstance
def Yc:=@List.map_reverse
def Yv:=@PySem.F.slot_tuple_add
def Yb:=@wpAny_execs_nil
def Yn:=@List.length_replicate
def Ym:=@List.map_nil
def Uq:=@Int.natCast_mul
def Uw:=@Nat.lt_or_ge
def Ue:=@Int.emod_nonneg
def Ur:=@wpAny_pyIter_revIter
def Ut:=@wpAny_updateSeq_pair
def Uy:=@Nat.mul_le_mul
def Uu:=@PyProof.Rows.F.entry_set_update_loop
def Ui:=@Calls.spliced_cons
def Uo:=@wpAny_onRaise
def Up:=@Int.mul_assoc
def Ua:=@Nat.mul_assoc
def Us:=@wpAny_mono
def Ud:=@Calls.spliced_nil
def Uf:=@typeIs_int
def Ug:=@Option.some.injEq
def Uh:=@List.getElem?_set
def Uj:=@List.length_range
def Uk:=@Nat.lt_succ_of_lt
def Ul:=@PyProof.Rows.callWith_builtin1
def Uz:=@concat_meets
def Ux:=@Nat.add_comm
def Uc:=@Nat.sub_zero
def Uv:=@Nat.lt_trans
def Ub:=@List.length_take
def Um:=@noFill_tuple_add
def Iq:=@Option.getD_none
def Iw:=@beq_self_eq_true
def Ie:=@List.cons_append
def Ir:=@List.getElem_map
def Iy:=@List.of_mem_zip
def Iu:=@List.length_set
def Ii:=@List.forIn_cons
def Ip:=@SeqAt.EqAt.same
def Ia:=@wpAny_specialOf
def Ig:=@wpAny_updateSeq
def Ih:=@wpAny_letGo
def Ij:=@Int.pow_pos
def Ik:=@Calls.Name_function_global
def Il:=@Int.fdiv_eq_ediv_of_nonneg
def Ix:=@SeqAt.RcNeAt.lists_lengths
def Ic:=@Bool.false_and
def Iv:=@wpAny_binaryOp_repeat_ref
def Ib:=@List.drop_eq_getElem_cons
def Im:=@MeetsSeq.entry_index_loop
def Oq:=@isSubtype_type
end
namespace L2
open PySem PySem.Spec PyProof.Rows
def mK (s:Stmt)(j:Nat):Stmt:=match s with
 | .ClassDef _ _ _ body _ _ _ _ _ _ _=>body.getD j (.Pass ⟨0,0,0,0⟩)
 | _=>.Pass ⟨0,0,0,0⟩
def uW (s:Stmt):Arguments:=match s with
 | .FunctionDef _ a _ _ _ _ _ _ _ _=>a
 | _=>{ posonlyargs:=[],args:=[],vararg:=none,kwonlyargs:=[],kw_defaults:=[],kwarg:=none,defaults:=[] }
def wP (s:Stmt):List Stmt:=match s with
 | .FunctionDef _ _ b _ _ _ _ _ _ _=>b
 | _=>[]
def zT (s:Stmt):Scope:=match s with
 | .FunctionDef _ _ _ _ _ _ sc _ _ _=>sc
 | _=>{ kind:=.function,names:=[],isGenerator:=false,isCoroutine:=false }
end L2
namespace My
open PySem L2
def top (i:Nat):Stmt:=PySem.Challenge.pw_curveyard_k17_neighbours.main.body.getD i (.Pass ⟨0,0,0,0⟩)
end My
namespace My
open PySem PySem.W L2 PyData
abbrev cb (n:Str)(t1 t2 t3 l r1 m r2 o t4:Nat):Obj:=⟨.type "code",none,.fields #[.str n t1,.str n t2,.str "/claim/cut.py" t3,.int l 0,.int 0 0,.int 0 0,.int 0 0,.int 0 0,.ref r1,.bool false,.int m 0,.ref r2,.none,.none,.none,.none,.int o 0,.int l 0,.str "/claim/cut.py" t4],#[]⟩
abbrev tu (l:Array Value)(n:Nat):Obj:=⟨.type "tuple",none,.seq l n,#[]⟩
abbrev nf (l:Array Value):Obj:=⟨.none,none,.fields l,#[]⟩
abbrev tf (t:String)(l:Array Value):Obj:=⟨.type t,none,.fields l,#[]⟩
abbrev di (l:Array DictEntry)(n:Nat):Obj:=⟨.type "dict",none,.dict l n,#[]⟩
abbrev fm (l:Array (Option Value)):Obj:=⟨.type "frame",none,.plain,l⟩
abbrev co (n q:Str)(t1 t2 t3 l a x y z r1 m r2:Nat)(v1 v2 v3:Value)(r3 o t4:Nat):Obj:=⟨.type "code",none,.fields #[.str n t1,.str q t2,.str "/claim/cut.py" t3,.int l 0,.int a 0,.int x 0,.int y 0,.int z 0,.ref r1,.bool true,.int m 0,.ref r2,v1,v2,v3,.ref r3,.int o 0,.int l 0,.str "/claim/cut.py" t4],#[]⟩
abbrev fu (n q:Str)(s:Stmt)(m:Str)(t c:Nat):Obj:=⟨.type "function",none,.func (fnOf n q (uW s) (wP s) (zT s) (.none) (.none) (.none) (.str m t) none (.ref c) (.none)),#[]⟩
abbrev ke (P:Params)(n:Str)(t:Nat)(v:Value):DictEntry:=⟨keyHash P n,.str n t,v⟩
abbrev cl (n:Str)(b r:List Value)(s:Nat)(u:List Value)(l:Array (Option Value)):Obj:=⟨.type "type",none,.cls { name:=n,bases:=b,mro:=r,ns:=s,qualname:=n,hasDict:=true,slotNames:=[],subclasses:=u,abstract:=false,collection:=none,hasDel:=false },l⟩
abbrev gd (t a:Nat):Obj:=⟨.type "getset_descriptor",none,.fields #[.str "__dict__" t,.ref a,.builtin "function.__dict__",.builtin "function.__dict__#set"],#[]⟩
abbrev gw (t a:Nat):Obj:=⟨.type "getset_descriptor",none,.fields #[.str "__weakref__" t,.ref a,.builtin "ExceptionGroup.__weakref__",.none],#[]⟩
def zZz:Params->Frag:=fun P =>
 (nat_lit 3,di #[ke P "__name__" 165 (.str "law_curveyard_k17_neighbours" 444),ke P "__doc__" 166 .none,ke P "__package__" 167 .none,ke P "__loader__" 168 (.builtin "__main__.__loader__#opaque"),ke P "__spec__" 169 .none,ke P "__annotations__" 170 (.ref 6),ke P "__builtins__" 171 (.ref 4),ke P "__file__" 173 (.str "/claim/cut.py" 172),ke P "__cached__" 174 .none,ke P "turned" 194 (.ref 19),ke P "still" 200 (.ref 24),ke P "after" 206 (.ref 29),ke P "undone" 217 (.ref 36),ke P "Part" 252 (.ref 53),ke P "Curve" 287 (.ref 74),ke P "first_state" 294 (.ref 85),ke P "part_at" 307 (.ref 92),ke P "digit_at" 313 (.ref 97),ke P "walked" 322 (.ref 104),ke P "YardError" 342 (.ref 114),ke P "OffFloor" 358 (.ref 127),ke P "full" 370 (.ref 136),ke P "has_place" 376 (.ref 141),ke P "ask_place" 385 (.ref 148),ke P "place_at" 398 (.ref 155),ke P "digits_of" 409 (.ref 162),ke P "deeper" 415 (.ref 167),ke P "number_at" 421 (.ref 172),ke P "next_to" 427 (.ref 177),ke P "neighbours" 433 (.ref 182),ke P "places_around" 443 (.ref 189),ke P "_law_mix" 454 (.ref 196),ke P "_law_turned" 460 (.ref 201),ke P "_law_after" 466 (.ref 206),ke P "_law_undone" 475 (.ref 213),ke P "_law_turn" 481 (.ref 218),ke P "_law_base" 490 (.ref 225),ke P "_law_joined" 496 (.ref 230),ke P "_law_corners" 502 (.ref 235),ke P "_law_loose" 514 (.ref 242),ke P "_law_altered" 529 (.ref 249),ke P "_law_drawn" 538 (.ref 256),ke P "_law_curve" 544 (.ref 261),ke P "_law_part_at" 558 (.ref 268),ke P "_law_state" 564 (.ref 273),ke P "_law_place" 570 (.ref 278),ke P "_law_level" 577 (.ref 285),ke P "_law_number" 589 (.ref 292),ke P "_law_beside" 603 (.ref 299),ke P "_law_right" 618 (.ref 306),ke P "law" 631 (.ref 313)] 51) ::
 (nat_lit 18,co "turned" "turned" 189 190 191 2 2 0 0 3 15 181 16 .none .none .none 17 192 193) ::
 (nat_lit 19,fu "turned" "turned" (top 1) "curveyard.turns" 187 18) ::
 (nat_lit 23,co "still" "still" 195 196 197 4 1 0 0 3 20 181 21 .none .none .none 22 198 199) ::
 (nat_lit 24,fu "still" "still" (top 2) "curveyard.turns" 187 23) ::
 (nat_lit 28,co "after" "after" 201 202 203 6 2 0 0 3 25 181 26 .none .none .none 27 204 205) ::
 (nat_lit 29,fu "after" "after" (top 3) "curveyard.turns" 187 28) ::
 (nat_lit 35,co "undone" "undone" 207 208 209 8 1 0 0 3 30 181 31 .none (.ref 32) (.ref 33) 34 215 216) ::
 (nat_lit 36,fu "undone" "undone" (top 4) "curveyard.turns" 187 35) ::
 (nat_lit 49,co "__init__" "Part.__init__" 232 233 234 17 4 0 0 3 44 181 45 .none (.ref 46) (.ref 47) 48 239 240) ::
 (nat_lit 50,fu "__init__" "Part.__init__" (mK (top 6) 0) "curveyard.curves" 218 49) ::
 (nat_lit 52,di #[ke P "__module__" 227 (.str "curveyard.curves" 218),ke P "__firstlineno__" 231 (.int 15 230),ke P "__init__" 241 (.ref 50),ke P "__static_attributes__" 245 (.ref 51),ke P "__dict__" 247 (.ref 54),ke P "__weakref__" 249 (.ref 55),ke P "__doc__" 250 .none] 4) ::
 (nat_lit 53,cl "Part" [.type "object"] [.ref 53,.type "object"] 52 [] #[none,none,some (.str "Part" 220),some (.str "Part" 228),some (.builtin "object.__new__"),some (.bool true)]) ::
 (nat_lit 54,gd 246 53) ::
 (nat_lit 55,gw 248 53) ::
 (nat_lit 70,co "__init__" "Curve.__init__" 265 266 267 23 5 0 0 3 65 181 66 .none (.ref 67) (.ref 68) 69 273 274) ::
 (nat_lit 71,fu "__init__" "Curve.__init__" (mK (top 7) 0) "curveyard.curves" 218 70) ::
 (nat_lit 73,di #[ke P "__module__" 260 (.str "curveyard.curves" 218),ke P "__firstlineno__" 264 (.int 21 263),ke P "__init__" 275 (.ref 71),ke P "__static_attributes__" 280 (.ref 72),ke P "__dict__" 282 (.ref 75),ke P "__weakref__" 284 (.ref 76),ke P "__doc__" 285 .none] 4) ::
 (nat_lit 74,cl "Curve" [.type "object"] [.ref 74,.type "object"] 73 [] #[none,none,some (.str "Curve" 253),some (.str "Curve" 261),some (.builtin "object.__new__"),some (.bool true)]) ::
 (nat_lit 75,gd 281 74) ::
 (nat_lit 76,gw 283 74) ::
 (nat_lit 84,co "first_state" "first_state" 288 289 290 28 1 0 0 3 79 181 80 .none (.ref 81) (.ref 82) 83 292 293) ::
 (nat_lit 85,fu "first_state" "first_state" (top 8) "curveyard.curves" 218 84) ::
 (nat_lit 91,co "part_at" "part_at" 295 296 297 30 3 0 0 3 86 181 87 .none (.ref 88) (.ref 89) 90 305 306) ::
 (nat_lit 92,fu "part_at" "part_at" (top 9) "curveyard.curves" 218 91) ::
 (nat_lit 96,co "digit_at" "digit_at" 308 309 310 35 3 0 0 3 93 181 94 .none .none .none 95 311 312) ::
 (nat_lit 97,fu "digit_at" "digit_at" (top 10) "curveyard.curves" 218 96) ::
 (nat_lit 103,co "walked" "walked" 314 315 316 40 3 0 0 3 98 181 99 .none (.ref 100) (.ref 101) 102 320 321) ::
 (nat_lit 104,fu "walked" "walked" (top 11) "curveyard.curves" 218 103) ::
 (nat_lit 113,di #[ke P "__module__" 332 (.str "curveyard.errors" 323),ke P "__firstlineno__" 336 (.int 43 335),ke P "__static_attributes__" 337 (.ref 112),ke P "__weakref__" 339 (.ref 115),ke P "__doc__" 340 .none] 3) ::
 (nat_lit 114,cl "YardError" [.type "ValueError"] [.ref 114,.type "ValueError",.type "Exception",.type "BaseException",.type "object"] 113 [.ref 127] #[some (.ref 105),none,some (.str "YardError" 325),some (.str "YardError" 333),some (.builtin "ValueError.__new__"),some (.bool true)]) ::
 (nat_lit 115,gw 338 114) ::
 (nat_lit 126,di #[ke P "__module__" 350 (.str "curveyard.errors" 323),ke P "__firstlineno__" 354 (.int 45 353),ke P "__static_attributes__" 355 (.ref 125),ke P "__doc__" 356 .none] 2) ::
 (nat_lit 127,cl "OffFloor" [.ref 114] [.ref 127,.ref 114,.type "ValueError",.type "Exception",.type "BaseException",.type "object"] 126 [] #[some (.ref 118),none,some (.str "OffFloor" 343),some (.str "OffFloor" 351),some (.builtin "ValueError.__new__"),some (.bool true)]) ::
 (nat_lit 135,co "full" "full" 361 362 363 48 2 0 0 3 130 181 131 .none (.ref 132) (.ref 133) 134 368 369) ::
 (nat_lit 136,fu "full" "full" (top 16) "curveyard.numbering" 359 135) ::
 (nat_lit 140,co "has_place" "has_place" 371 372 373 53 3 0 0 3 137 181 138 .none .none .none 139 374 375) ::
 (nat_lit 141,fu "has_place" "has_place" (top 17) "curveyard.numbering" 359 140) ::
 (nat_lit 147,co "ask_place" "ask_place" 377 378 379 56 3 0 0 3 142 181 143 .none (.ref 144) (.ref 145) 146 383 384) ::
 (nat_lit 148,fu "ask_place" "ask_place" (top 18) "curveyard.numbering" 359 147) ::
 (nat_lit 154,co "place_at" "place_at" 386 387 388 59 3 0 0 3 149 181 150 .none (.ref 151) (.ref 152) 153 396 397) ::
 (nat_lit 155,fu "place_at" "place_at" (top 19) "curveyard.numbering" 359 154) ::
 (nat_lit 161,co "digits_of" "digits_of" 399 400 401 68 3 0 0 3 156 181 157 .none (.ref 158) (.ref 159) 160 407 408) ::
 (nat_lit 162,fu "digits_of" "digits_of" (top 20) "curveyard.numbering" 359 161) ::
 (nat_lit 166,co "deeper" "deeper" 410 411 412 74 2 0 0 3 163 181 164 .none .none .none 165 413 414) ::
 (nat_lit 167,fu "deeper" "deeper" (top 21) "curveyard.numbering" 359 166) ::
 (nat_lit 171,co "number_at" "number_at" 416 417 418 76 3 0 0 3 168 181 169 .none .none .none 170 419 420) ::
 (nat_lit 172,fu "number_at" "number_at" (top 22) "curveyard.numbering" 359 171) ::
 (nat_lit 176,co "next_to" "next_to" 422 423 424 88 2 0 0 3 173 181 174 .none .none .none 175 425 426) ::
 (nat_lit 177,fu "next_to" "next_to" (top 23) "curveyard.numbering" 359 176) ::
 (nat_lit 181,co "neighbours" "neighbours" 428 429 430 90 3 0 0 3 178 181 179 .none .none .none 180 431 432) ::
 (nat_lit 182,fu "neighbours" "neighbours" (top 24) "curveyard.numbering" 359 181) ::
 (nat_lit 188,co "places_around" "places_around" 434 435 436 93 1 0 0 3 183 181 184 .none (.ref 185) (.ref 186) 187 441 442) ::
 (nat_lit 189,fu "places_around" "places_around" (top 25) "curveyard.numbering" 359 188) ::
 (nat_lit 195,co "_law_mix" "_law_mix" 446 447 448 100 2 0 0 3 190 181 191 .none (.ref 192) (.ref 193) 194 452 453) ::
 (nat_lit 196,fu "_law_mix" "_law_mix" (top 27) "law_curveyard_k17_neighbours" 444 195) ::
 (nat_lit 200,co "_law_turned" "_law_turned" 455 456 457 103 2 0 0 3 197 181 198 .none .none .none 199 458 459) ::
 (nat_lit 201,fu "_law_turned" "_law_turned" (top 28) "law_curveyard_k17_neighbours" 444 200) ::
 (nat_lit 205,co "_law_after" "_law_after" 461 462 463 105 2 0 0 3 202 181 203 .none .none .none 204 464 465) ::
 (nat_lit 206,fu "_law_after" "_law_after" (top 29) "law_curveyard_k17_neighbours" 444 205) ::
 (nat_lit 212,co "_law_undone" "_law_undone" 467 468 469 107 1 0 0 3 207 181 208 .none (.ref 209) (.ref 210) 211 473 474) ::
 (nat_lit 213,fu "_law_undone" "_law_undone" (top 30) "law_curveyard_k17_neighbours" 444 212) ::
 (nat_lit 217,co "_law_turn" "_law_turn" 476 477 478 112 2 0 0 3 214 181 215 .none .none .none 216 479 480) ::
 (nat_lit 218,fu "_law_turn" "_law_turn" (top 31) "law_curveyard_k17_neighbours" 444 217) ::
 (nat_lit 224,co "_law_base" "_law_base" 482 483 484 119 1 0 0 3 219 181 220 .none (.ref 221) (.ref 222) 223 488 489) ::
 (nat_lit 225,fu "_law_base" "_law_base" (top 32) "law_curveyard_k17_neighbours" 444 224) ::
 (nat_lit 229,co "_law_joined" "_law_joined" 491 492 493 129 2 0 0 3 226 181 227 .none .none .none 228 494 495) ::
 (nat_lit 230,fu "_law_joined" "_law_joined" (top 33) "law_curveyard_k17_neighbours" 444 229) ::
 (nat_lit 234,co "_law_corners" "_law_corners" 497 498 499 145 1 0 0 3 231 181 232 .none .none .none 233 500 501) ::
 (nat_lit 235,fu "_law_corners" "_law_corners" (top 34) "law_curveyard_k17_neighbours" 444 234) ::
 (nat_lit 241,co "_law_loose" "_law_loose" 503 504 505 150 2 0 0 3 236 181 237 .none (.ref 238) (.ref 239) 240 512 513) ::
 (nat_lit 242,fu "_law_loose" "_law_loose" (top 35) "law_curveyard_k17_neighbours" 444 241) ::
 (nat_lit 248,co "_law_altered" "_law_altered" 515 516 517 158 2 0 0 3 243 181 244 .none (.ref 245) (.ref 246) 247 527 528) ::
 (nat_lit 249,fu "_law_altered" "_law_altered" (top 36) "law_curveyard_k17_neighbours" 444 248) ::
 (nat_lit 255,co "_law_drawn" "_law_drawn" 530 531 532 169 2 0 0 3 250 181 251 .none (.ref 252) (.ref 253) 254 536 537) ::
 (nat_lit 256,fu "_law_drawn" "_law_drawn" (top 37) "law_curveyard_k17_neighbours" 444 255) ::
 (nat_lit 260,co "_law_curve" "_law_curve" 539 540 541 176 3 0 0 3 257 181 258 .none .none .none 259 542 543) ::
 (nat_lit 261,fu "_law_curve" "_law_curve" (top 38) "law_curveyard_k17_neighbours" 444 260) ::
 (nat_lit 267,co "_law_part_at" "_law_part_at" 545 546 547 178 3 0 0 3 262 181 263 .none (.ref 264) (.ref 265) 266 556 557) ::
 (nat_lit 268,fu "_law_part_at" "_law_part_at" (top 39) "law_curveyard_k17_neighbours" 444 267) ::
 (nat_lit 272,co "_law_state" "_law_state" 559 560 561 184 1 0 0 3 269 181 270 .none .none .none 271 562 563) ::
 (nat_lit 273,fu "_law_state" "_law_state" (top 40) "law_curveyard_k17_neighbours" 444 272) ::
 (nat_lit 277,co "_law_place" "_law_place" 565 566 567 186 4 0 0 3 274 181 275 .none .none .none 276 568 569) ::
 (nat_lit 278,fu "_law_place" "_law_place" (top 41) "law_curveyard_k17_neighbours" 444 277) ::
 (nat_lit 284,co "_law_level" "_law_level" 571 572 573 197 1 0 0 3 279 181 280 .none (.ref 281) (.ref 282) 283 575 576) ::
 (nat_lit 285,fu "_law_level" "_law_level" (top 42) "law_curveyard_k17_neighbours" 444 284) ::
 (nat_lit 291,co "_law_number" "_law_number" 578 579 580 201 3 0 0 3 286 181 287 .none (.ref 288) (.ref 289) 290 587 588) ::
 (nat_lit 292,fu "_law_number" "_law_number" (top 43) "law_curveyard_k17_neighbours" 444 291) ::
 (nat_lit 298,co "_law_beside" "_law_beside" 590 591 592 211 2 0 0 3 293 181 294 .none (.ref 295) (.ref 296) 297 601 602) ::
 (nat_lit 299,fu "_law_beside" "_law_beside" (top 44) "law_curveyard_k17_neighbours" 444 298) ::
 (nat_lit 305,co "_law_right" "_law_right" 604 605 606 223 4 0 0 3 300 181 301 .none (.ref 302) (.ref 303) 304 616 617) ::
 (nat_lit 306,fu "_law_right" "_law_right" (top 45) "law_curveyard_k17_neighbours" 444 305) ::
 (nat_lit 312,co "law" "law" 619 620 621 236 1 0 0 3 307 181 308 .none (.ref 309) (.ref 310) 311 629 630) ::
 (nat_lit 313,fu "law" "law" (top 46) "law_curveyard_k17_neighbours" 444 312)::[]
def oS:Program:=view PySem.Challenge.pw_curveyard_k17_neighbours [46]
def loose:List Str:="turned"::"still"::"after"::"undone"::"Part"::"Curve"::"first_state"::"part_at"::"digit_at"::"walked"::"YardError"::"OffFloor"::"full"::"has_place"::"ask_place"::"place_at"::"digits_of"::"deeper"::"number_at"::"next_to"::"neighbours"::"places_around"::"_law_mix"::"_law_turned"::"_law_after"::"_law_undone"::"_law_turn"::"_law_base"::"_law_joined"::"_law_corners"::"_law_loose"::"_law_altered"::"_law_drawn"::"_law_curve"::"_law_part_at"::"_law_state"::"_law_place"::"_law_level"::"_law_number"::"_law_beside"::"_law_right"::[]
def zSi:List Addr:=nat_lit 3::nat_lit 18::nat_lit 19::nat_lit 23::nat_lit 24::nat_lit 28::nat_lit 29::nat_lit 35::nat_lit 36::nat_lit 49::nat_lit 50::nat_lit 52::nat_lit 53::nat_lit 54::nat_lit 55::nat_lit 70::nat_lit 71::nat_lit 73::nat_lit 74::nat_lit 75::nat_lit 76::nat_lit 84::nat_lit 85::nat_lit 91::nat_lit 92::nat_lit 96::nat_lit 97::nat_lit 103::nat_lit 104::nat_lit 113::nat_lit 114::nat_lit 115::nat_lit 126::nat_lit 127::nat_lit 135::nat_lit 136::nat_lit 140::nat_lit 141::nat_lit 147::nat_lit 148::nat_lit 154::nat_lit 155::nat_lit 161::nat_lit 162::nat_lit 166::nat_lit 167::nat_lit 171::nat_lit 172::nat_lit 176::nat_lit 177::nat_lit 181::nat_lit 182::nat_lit 188::nat_lit 189::nat_lit 195::nat_lit 196::nat_lit 200::nat_lit 201::nat_lit 205::nat_lit 206::nat_lit 212::nat_lit 213::nat_lit 217::nat_lit 218::nat_lit 224::nat_lit 225::nat_lit 229::nat_lit 230::nat_lit 234::nat_lit 235::nat_lit 241::nat_lit 242::nat_lit 248::nat_lit 249::nat_lit 255::nat_lit 256::nat_lit 260::nat_lit 261::nat_lit 267::nat_lit 268::nat_lit 272::nat_lit 273::nat_lit 277::nat_lit 278::nat_lit 284::nat_lit 285::nat_lit 291::nat_lit 292::nat_lit 298::nat_lit 299::nat_lit 305::nat_lit 306::nat_lit 312::nat_lit 313::[]
theorem zYT (P:Params):zSi=(zZz P).map (fun x=>x.1):=by kernel_rfl
abbrev hook:Hook:=kHook zZz zSi zYT
abbrev zSg (s:Shared):Bool:=xlAt oS [] s&&recOk (RowW.records PySem.Challenge.rw_curveyard_k17_neighbours.row.toRowW) s
def b (P:Params)(i:Nat):Obj:=((zZz P).getD i (0,default)).2
def cf (n q:Str)(s:Stmt):Obj:=⟨.none,none,.func { name:=n,qualname:=q,params:=uW s,body:=.stmts (wP s),scope:=zT s,globals:=0,closure:=[],defaults:=.none,kwdefaults:=.none },#[]⟩
def zSW (P:Params):List Obj :=
 boot_o_0 P ::
 boot_o_1 P ::
 boot_o_2 P ::
 di #[ke P "__name__" 165 (.str "curveyard.errors" 323),ke P "__doc__" 166 .none,ke P "__package__" 167 .none,ke P "__loader__" 168 (.builtin "__main__.__loader__#opaque"),ke P "__spec__" 169 .none,ke P "__annotations__" 170 (.ref 6),ke P "__builtins__" 171 (.ref 4),ke P "__file__" 173 (.str "/claim/cut.py" 172),ke P "__cached__" 174 .none,ke P "turned" 194 (.ref 19),ke P "still" 200 (.ref 24),ke P "after" 206 (.ref 29),ke P "undone" 217 (.ref 36),ke P "Part" 252 (.ref 53),ke P "Curve" 287 (.ref 74),ke P "first_state" 294 (.ref 85),ke P "part_at" 307 (.ref 92),ke P "digit_at" 313 (.ref 97),ke P "walked" 322 (.ref 104),ke P "YardError" 342 (.ref 114)] 20 ::
 boot_o_4 P ::
 boot_o_5 P ::
 boot_o_6 P ::
 boot_o_7 P ::
 boot_o_8 P ::
 boot_o_9 P ::
 boot_o_10 P ::
 tu #[] 0 ::
 nf #[.int 2 0,.int 0 0,.ref 18,.int 4 0,.int 0 0,.ref 23,.int 6 0,.int 0 0,.ref 28,.int 8 0,.int 0 0,.ref 35,.int 15 0,.int 0 0,.ref 42,.int 21 0,.int 0 0,.ref 63,.int 28 0,.int 0 0,.ref 84,.int 30 0,.int 0 0,.ref 91,.int 35 0,.int 0 0,.ref 96,.int 40 0,.int 0 0,.ref 103,.int 43 0,.int 0 0,.ref 110] ::
 cb "<module>" 182 183 184 1 11 181 12 185 186 ::
 fm #[some (.ref 13),some (.ref 3),some (.ref 3),none,some (.str "__main__" 164),none,some (.ref 0)] ::
 tu #[] 0 ::
 nf #[] ::
 cf "turned" "turned" (top 1) ::
 b P 1 ::
 b P 2 ::
 tu #[] 0 ::
 nf #[] ::
 cf "still" "still" (top 2) ::
 b P 3 ::
 b P 4 ::
 tu #[] 0 ::
 nf #[] ::
 cf "after" "after" (top 3) ::
 b P 5 ::
 b P 6 ::
 tu #[] 0 ::
 nf #[] ::
 tu #[.str "turn" 210,.str "pairs" 211,.str "bit" 212,.str "axis" 213,.str "flip" 214] 0 ::
 tu #[] 0 ::
 cf "undone" "undone" (top 4) ::
 b P 7 ::
 b P 8 ::
 tu #[] 0 ::
 tf "builtin_function_or_method" #[.builtin "type.__prepare__",.type "type"] ::
 di #[ke P "__module__" 227 (.str "curveyard.curves" 218),ke P "__qualname__" 229 (.str "Part" 228),ke P "__firstlineno__" 231 (.int 15 230),ke P "__init__" 241 (.ref 50),ke P "__static_attributes__" 245 (.ref 51)] 5 ::
 tu #[] 0 ::
 nf #[.int 17 0,.int 4 0,.ref 49] ::
 cb "Part" 222 223 224 15 40 181 41 225 226 ::
 fm #[some (.ref 42),some (.ref 3),some (.ref 39),none,some (.str "curveyard.curves" 218),none,some (.ref 0)] ::
 tu #[] 0 ::
 nf #[] ::
 tu #[.str "self" 235,.str "corner" 236,.str "turn" 237,.str "back" 238] 0 ::
 tu #[] 0 ::
 cf "__init__" "Part.__init__" (mK (top 6) 0) ::
 b P 9 ::
 b P 10 ::
 tu #[.str "back" 242,.str "corner" 243,.str "turn" 244] 0 ::
 b P 11 ::
 b P 12 ::
 b P 13 ::
 b P 14 ::
 tf "super" #[.ref 53,.ref 53,.ref 53] ::
 tf "builtin_function_or_method" #[.builtin "object.__init_subclass__",.ref 53] ::
 tu #[] 0 ::
 tf "builtin_function_or_method" #[.builtin "type.__prepare__",.type "type"] ::
 di #[ke P "__module__" 260 (.str "curveyard.curves" 218),ke P "__qualname__" 262 (.str "Curve" 261),ke P "__firstlineno__" 264 (.int 21 263),ke P "__init__" 275 (.ref 71),ke P "__static_attributes__" 280 (.ref 72)] 5 ::
 tu #[] 0 ::
 nf #[.int 23 0,.int 4 0,.ref 70] ::
 cb "Curve" 255 256 257 21 61 181 62 258 259 ::
 fm #[some (.ref 63),some (.ref 3),some (.ref 60),none,some (.str "curveyard.curves" 218),none,some (.ref 0)] ::
 tu #[] 0 ::
 nf #[] ::
 tu #[.str "self" 268,.str "name" 269,.str "dims" 270,.str "joined" 271,.str "parts" 272] 0 ::
 tu #[] 0 ::
 cf "__init__" "Curve.__init__" (mK (top 7) 0) ::
 b P 15 ::
 b P 16 ::
 tu #[.str "dims" 276,.str "joined" 277,.str "name" 278,.str "parts" 279] 0 ::
 b P 17 ::
 b P 18 ::
 b P 19 ::
 b P 20 ::
 tf "super" #[.ref 74,.ref 74,.ref 74] ::
 tf "builtin_function_or_method" #[.builtin "object.__init_subclass__",.ref 74] ::
 tu #[] 0 ::
 nf #[] ::
 tu #[.str "dims" 291] 0 ::
 tu #[] 0 ::
 cf "first_state" "first_state" (top 8) ::
 b P 21 ::
 b P 22 ::
 tu #[] 0 ::
 nf #[] ::
 tu #[.str "curve" 298,.str "state" 299,.str "digit" 300,.str "turn" 301,.str "back" 302,.str "part" 303,.str "inner" 304] 0 ::
 tu #[] 0 ::
 cf "part_at" "part_at" (top 9) ::
 b P 23 ::
 b P 24 ::
 tu #[] 0 ::
 nf #[] ::
 cf "digit_at" "digit_at" (top 10) ::
 b P 25 ::
 b P 26 ::
 tu #[] 0 ::
 nf #[] ::
 tu #[.str "curve" 317,.str "back" 318,.str "number" 319] 0 ::
 tu #[] 0 ::
 cf "walked" "walked" (top 11) ::
 b P 27 ::
 b P 28 ::
 tu #[.type "ValueError"] 0 ::
 tf "builtin_function_or_method" #[.builtin "type.__prepare__",.type "type"] ::
 di #[ke P "__module__" 332 (.str "curveyard.errors" 323),ke P "__qualname__" 334 (.str "YardError" 333),ke P "__firstlineno__" 336 (.int 43 335),ke P "__static_attributes__" 337 (.ref 112)] 4 ::
 tu #[] 0 ::
 nf #[] ::
 cb "YardError" 327 328 329 43 108 181 109 330 331 ::
 fm #[some (.ref 110),some (.ref 3),some (.ref 107),none,some (.str "curveyard.errors" 323),none,some (.ref 0)] ::
 tu #[] 0 ::
 b P 29 ::
 cl "YardError" [.type "ValueError"] [.ref 114,.type "ValueError",.type "Exception",.type "BaseException",.type "object"] 113 [] #[some (.ref 105),none,some (.str "YardError" 325),some (.str "YardError" 333),some (.builtin "ValueError.__new__"),some (.bool true)] ::
 b P 31 ::
 tf "super" #[.ref 114,.ref 114,.ref 114] ::
 tf "builtin_function_or_method" #[.builtin "object.__init_subclass__",.ref 114]::[]
def fG:Env:={ scope:=PySem.Challenge.rw_curveyard_k17_neighbours.row.prog.main.scope,locals:=mainNs,globals:=mainNs,cells:=[],code:=.ref 13,frame:=some 14 }
def zRH:List Stmt:=(behindTheImports PySem.Challenge.rw_curveyard_k17_neighbours.row.prog).take 14
def zSx:List Stmt:=(behindTheImports PySem.Challenge.rw_curveyard_k17_neighbours.row.prog).drop 14
def zRm (w:World)(os:OsState):Shared:=⟨⟨⟨zSW w.params⟩,{}⟩,#[],⟨0,0,0,0⟩,343,os⟩
def zT7:Pos:=⟨0,0,0,0⟩
def zSj:Pos:=⟨0,0,0,0⟩
def zT8:Pos:=⟨0,0,0,0⟩
def zUR:Pos:=⟨43,0,44,8⟩
abbrev zZw:Code:=.body (zRH++zSx) fG
abbrev zQm (w:World)(os:OsState):=topGo treeTable PySem.Challenge.rw_curveyard_k17_neighbours.row.prog w 11 (some (.ref 6)) 12 ⟨boot_heap w.params,Array.mk [],boot_drawn,boot_toks,os⟩ (topStub PySem.Challenge.rw_curveyard_k17_neighbours.row.prog)
abbrev zRs (w:World)(os:OsState):=(zQm w os).bind fun x=>segRun treeTable PySem.Challenge.rw_curveyard_k17_neighbours.row.prog w 11 (some (.ref 6)) 1 1 x.1 (blockOf (zRH++zSx) fG zZw zSj [topFrame zT7])
theorem zPS (w:World)(os:OsState):(zQm w os).map (fun x=>x.2)=some ⟨denote treeTable zZw,zZw,zSj,[topFrame zT7]⟩:=by kernel_rfl
theorem zPL (w:World)(os:OsState):(zRs w os).map (fun y=>(y.1,y.2.2))=some (.next,zZw,zT8):=by kernel_rfl
theorem zQo (w:World)(os:OsState):((zRs w os).bind fun y=>segRun treeTable PySem.Challenge.rw_curveyard_k17_neighbours.row.prog w 11 (some (.ref 6)) 1 914 y.2.1 (piecesOf zRH fG zZw zT8 [topFrame zT7]))=some (.next,zRm w os,zZw,zUR):=by kernel_rfl
abbrev zRR (w:World)(os:OsState):Option Shared:=(topRun treeTable PySem.Challenge.rw_curveyard_k17_neighbours.row.prog w 11 (some (.ref 6)) 1170 (zRm w os) (restOf zSx fG zZw zUR [topFrame zT7])).bind fun s=>match staticsOk (importedModules PySem.Challenge.rw_curveyard_k17_neighbours.row.prog.main.body) (boot_heap w.params) s.heap&&namesBound PySem.Challenge.rw_curveyard_k17_neighbours.row.prog s.heap&&gensDone s&&laidKept (boot_heap w.params) s.heap with
 | true=>some s
 | false=>none
theorem zVO (w:World)(os:OsState):(zRR w os).map (fun s=>openSeen oS loose (importedModules PySem.Challenge.rw_curveyard_k17_neighbours.row.prog.main.body) zSg true s)=some (openGood oS loose):=by kernel_rfl
theorem zVV (w:World)(os:OsState):(zRR w os).map hook.obs=some (hook.val w):=by kernel_rfl
theorem zUJ (w:World):((boot_heap w.params).isNs mainGlobals&&(Array.mk []:Array GenState).size==0,(boot_heap w.params).objs.size,(boot_heap w.params).nsMap mainGlobals "__annotations__")=(true,11,some (.ref 6)):=by kernel_rfl
theorem zVo:opening PySem.Challenge.rw_curveyard_k17_neighbours.row.prog=plainProg PySem.Challenge.rw_curveyard_k17_neighbours.row.prog.main.scope.names:=by kernel_rfl
theorem zVe (s:Shared):fenceModules? PySem.Challenge.rw_curveyard_k17_neighbours.row.prog s=some s:=by kernel_rfl
theorem zSD (w:World)(os:OsState)(r:Shared)(k:topRun treeTable PySem.Challenge.rw_curveyard_k17_neighbours.row.prog w 11 (some (.ref 6)) 1170 (zRm w os) (restOf zSx fG zZw zUR [topFrame zT7])=some r):topRun treeTable PySem.Challenge.rw_curveyard_k17_neighbours.row.prog w 11 (some (.ref 6)) (12+(1+(914+1170))) ⟨boot_heap w.params,Array.mk [],boot_drawn,boot_toks,os⟩ (topStub PySem.Challenge.rw_curveyard_k17_neighbours.row.prog)=some r:=by
 have ha:=zPS w os
 have hb:=zPL w os
 have hc:=zQo w os
 obtain⟨⟨sa,ta⟩,ga,ea⟩:=Qt.mp ha
 have ea':ta=_:=ea
 subst ea'
 unfold zRs at hb hc
 rw[ga] at hb hc
 obtain⟨⟨fb,sb,cb,pb⟩,gb,eb⟩:=Qt.mp hb
 have e1:fb=Flow.next:=Ea (fun y:Flow×Code×Pos=>y.1) eb
 have e2:cb=zZw:=Ea (fun y:Flow×Code×Pos=>y.2.1) eb
 have e3:pb=zT8:=Ea (fun y:Flow×Code×Pos=>y.2.2) eb
 subst e1 e2 e3
 have gb':=gb
 rw[Qe] at gb'
 rw[gb] at hc
 rw[Qe] at hc
 exact go_top ga (piece_block gb' (piece_app hc k))
theorem zYc {β:Type}{f:Shared->β}{v:World->β}(h:∀w os,(zRR w os).map f=some (v w))(w:World):(openEnds treeTable PySem.Challenge.rw_curveyard_k17_neighbours.row.prog w 4192).map f=some (v w):=by
 obtain⟨⟨hp,gs,d,k,os⟩,e,e'⟩:=Qt.mp (boot_open zVo (N:=4192) (by decide) zVe w)
 have e1:hp=_:=Ea (fun y:Heap×Array GenState×Drawn×Nat=>y.1) e'
 have e2:gs=_:=Ea (fun y:Heap×Array GenState×Drawn×Nat=>y.2.1) e'
 have e3:d=_:=Ea (fun y:Heap×Array GenState×Drawn×Nat=>y.2.2.1) e'
 have e4:k=_:=Ea (fun y:Heap×Array GenState×Drawn×Nat=>y.2.2.2) e'
 subst e1 e2 e3 e4
 have z:=zUJ w
 have z1:=Ea (fun y:Bool×Nat×Option Value=>y.1) z
 have z2:=Ea (fun y:Bool×Nat×Option Value=>y.2.1) z
 have z3:=Ea (fun y:Bool×Nat×Option Value=>y.2.2) z
 dsimp only at z1 z2 z3
 have q:=h w os
 obtain⟨s1,hs,hf⟩:=Qt.mp q
 obtain⟨r,hr,hm⟩:=Qq.mp hs
 have m:=topRun_mono (4192 - (12+(1+(914+1170)))) _ _ _ _ (zSD w os r hr)
 rw[show 12+(1+(914+1170))+(4192 - (12+(1+(914+1170))))=4192 from by omega] at m
 unfold openEnds
 rw[e,Qe]
 unfold topFrom
 dsimp only
 rw[z1,z2,z3,m]
 show(match staticsOk _ _ r.heap&&_&&_&&_ with | true=>some r | false=>none:Option Shared).map f=_
 rw[←hf]
 exact Ea (Option.map f) hm
theorem zSy {α β γ:Type}{x:Option α}{f:α->β}{g:α->γ}{a:β}{b:γ}(h1:x.map f=some a)(h2:x.map g=some b):x.map (fun s=>(f s,g s))=some (a,b):=by
 cases x with
 | none=>cases h1
 | some s=>cases h1;cases h2;rfl
theorem zTa:LeftO PySem.Challenge.rw_curveyard_k17_neighbours.row.prog oS loose zSg hook.obs hook.val 4192:=fun w=>zSy (zYc (v:=fun _=>openGood oS loose) zVO w) (zYc zVV w)
theorem zTK:PySem.Challenge.rw_curveyard_k17_neighbours.row.wellSaid=true:=by kernel_rfl
theorem zS1:PySem.W.OpenLaw.wellSaid PySem.Challenge.rw_curveyard_k17_neighbours=true:=by
 unfold PySem.W.OpenLaw.wellSaid
 rw[zTK]
 kernel_rfl
end My
namespace L2
open PySem PySem.Spec PyProof.Rows
abbrev Key:=Sum Int Str
def zSc:Key->Value->Bool
 | .inl k,v=>Value.isInt k v
 | .inr x,v=>Value.isStrOf x v
def zPo (w:World):Key->Int
 | .inl k=>hashInt k
 | .inr x=>hashStr w x
theorem xE:∀ {k:Key} {v:Value},zSc k v=true->(∃i t,k=Sum.inl i/\v=Value.int i t)∨(∃x t,k=Sum.inr x/\v=Value.str x t)
 | .inl i,v,h=>by
   obtain⟨t,e⟩:=Value.isInt_shape (k:=i) (v:=v) h
   exact .inl ⟨i,t,rfl,e⟩
 | .inr x,v,h=>by
   obtain⟨t,e⟩:=Value.isStrOf_shape (x:=x) (v:=v) h
   exact .inr ⟨x,t,rfl,e⟩
theorem zQW (a b:Int):decide ((Sum.inl a:Key)=Sum.inl b)=(a==b):=by
 by_cases e:a=b
 · subst e;simp
 · have h:¬(Sum.inl a:Key)=Sum.inl b:=fun q=>e (Sum.inl.inj q)
   rw[Wr h]
   exact(Tl.mpr e).symm
theorem zRt (a b:Str):decide ((Sum.inr a:Key)=Sum.inr b)=decide (a=b):=by
 by_cases e:a=b
 · subst e;simp
 · have h:¬(Sum.inr a:Key)=Sum.inr b:=fun q=>e (Sum.inr.inj q)
   rw[Wr h,Wr e]
theorem zRb (a:Int)(b:Str):decide ((Sum.inl a:Key)=Sum.inr b)=false:=Wr (fun q=>nomatch q)
theorem zRG (a:Str)(b:Int):decide ((Sum.inr a:Key)=Sum.inl b)=false:=Wr (fun q=>nomatch q)
def zWV (prog:Program)(w:World):PySem.KeyKind prog w Key where
 is:=zSc
 hash:=zPo w
 inj:=fun v a b ha hb=>by
   rcases xE ha with⟨i,t,rfl,rfl⟩ | ⟨x,t,rfl,rfl⟩
   · rcases xE hb with⟨j,u,rfl,e⟩ | ⟨y,u,rfl,e⟩
     · injection e with e1 _;rw[e1]
     · exact nomatch e
   · rcases xE hb with⟨j,u,rfl,e⟩ | ⟨y,u,rfl,e⟩
     · exact nomatch e
     · injection e with e1 _;rw[e1]
 byValue:=fun k v h=>by
   rcases xE h with⟨i,t,rfl,rfl⟩ | ⟨x,t,rfl,rfl⟩<;>rfl
 pyHash:=fun hv h=>by
   rcases xE hv with⟨i,t,rfl,rfl⟩ | ⟨x,t,rfl,rfl⟩
   · exact wpAny_pyHash_int h
   · exact wpAny_pyHash_str h
 eqBool:=fun hu hv h=>by
   rcases xE hu with⟨i,t,rfl,rfl⟩ | ⟨x,t,rfl,rfl⟩
   · rcases xE hv with⟨j,u,rfl,rfl⟩ | ⟨y,u,rfl,rfl⟩
     · rw[zQW] at h;exact wpAny_eqBool_int h
     · rw[zRb] at h;exact SeqAt.EqAt.int_str i t y u _ _ _ _ h
   · rcases xE hv with⟨j,u,rfl,rfl⟩ | ⟨y,u,rfl,rfl⟩
     · rw[zRG] at h;exact SeqAt.EqAt.str_int x t j u _ _ _ _ h
     · rw[zRt] at h;exact wpAny_eqBool_str h
 «strs» := fun k x t v h=>by
   rcases xE h with⟨i,u,rfl,e⟩ | ⟨y,u,rfl,e⟩
   · exact nomatch e
   · injection e with e1 _
     subst e1
     cases v<;>rfl
inductive V where
 | non | bl (b:Bool) | int (i:Int) | str (x:Str) | byt (b:Array UInt8) | flt (b:UInt64) | ref (a:Addr) | ty (n:String)
 deriving DecidableEq
def RelV:V->Value->Prop
 | .non,u=>u=Value.none
 | .bl b,u=>u=Value.bool b
 | .int i,u=>∃t,u=Value.int i t
 | .str x,u=>∃t,u=Value.str x t
 | .byt b,u=>∃t,u=Value.bytes b t
 | .flt b,u=>∃t,u=Value.float b t
 | .ref a,u=>u=Value.ref a
 | .ty n,u=>u=Value.type n
abbrev Vals:List V->List Value->Prop:=Paired RelV
theorem Vals.length {xs:List V}{us:List Value}(r:Vals xs us):xs.length=us.length:=Paired.length r
theorem Vals.get:∀ {xs:List V} {us:List Value} {i:Nat} {x:V},Vals xs us->xs[i]?=some x->∃u,us[i]?=some u/\RelV x u
 | _,_,_,_,.nil,e=>by simp at e
 | _,_,0,_,.cons r _,e=>by simp at e;subst e;exact⟨_,rfl,r⟩
 | _,_,i+1,x,.cons _ t,e=>by
   obtain⟨u,h1,h2⟩:=Vals.get (i:=i) (x:=x) t (by simpa using e)
   exact⟨u,by simpa using h1,h2⟩
theorem Vals.set {x:V}{u:Value}(r:RelV x u):∀ {xs:List V} {us:List Value} (i:Nat),Vals xs us->Vals (xs.set i x) (us.set i u)
 | _,_,_,.nil=>.nil
 | _,_,0,.cons _ t=>.cons r t
 | _,_,i+1,.cons q t=>.cons q (Vals.set r i t)
theorem Vals.append:∀ {xs ys:List V} {us ws:List Value},Vals xs us->Vals ys ws->Vals (xs++ys) (us++ws)
 | _,_,_,_,.nil,s=>s
 | _,_,_,_,.cons r t,s=>.cons r (Vals.append t s)
theorem Vals.take:∀ {xs:List V} {us:List Value} (n:Nat),Vals xs us->Vals (xs.take n) (us.take n)
 | _,_,0,_=>.nil
 | _,_,_+1,.nil=>.nil
 | _,_,n+1,.cons r t=>.cons r (Vals.take n t)
theorem Vals.drop:∀ {xs:List V} {us:List Value} (n:Nat),Vals xs us->Vals (xs.drop n) (us.drop n)
 | _,_,0,r=>r
 | _,_,_+1,.nil=>.nil
 | _,_,n+1,.cons _ t=>Vals.drop n t
def RelO:Option V->Option Value->Prop
 | some v,some u=>RelV v u
 | none,none=>True
 | _,_=>False
def KV {κ:Type}:List (κ×V)->List (κ×Value)->Prop:=Paired fun(p:κ×V) (q:κ×Value)=>p.1=q.1/\RelV p.2 q.2
def kV:Key->V
 | .inl i=>.int i
 | .inr x=>.str x
inductive HO where
 /-- a list -/
 | lst (xs:List V)
 /-- a tuple (never changes) -/
 | tup (xs:List V)
 /-- a dict whose keys are ints and texts; one whose keys are tuples of ints and texts (the empty one is both) -/
 | dK (kvs:List (Key×V)) | dT (kvs:List (List Key×V))
 /-- a set of ints: its members, its size -/
 | set (S:Int->Bool) (n:Nat)
 /-- an instance of the class at C, its dict at dx, its attributes -/
 | ins (C dx:Addr) (fs:List (Str×V))
 /-- the dict of the instance at x -/
 | own (x:Addr)
 /-- the dict of an exception -/
 | xd (fs:List (Str×V))
 /-- a bound method, f of x -/
 | met (f x:Addr)
 /-- a range object lo, lo + 1, .. below hi -/
 | rng (lo hi:Int)
 /-- a thing that is known to the object (the script; a dict while a loop walks it): read, never written while it is so -/
 | frz (o:Obj) (u:HO)
 /-- a code object's table -/
 | tbl (ps:Array Value)
 /-- any other thing, by what is true of its one object (a def of one's own: SetO a S n := HO.ext fun h => ..) -/
 | ext (φ:Heap->Prop)
abbrev Hp:=Addr->Option HO
def upd (H:Hp)(a:Addr)(o:HO):Hp:=fun b=>if b=a then some o else H b
theorem zE {H:Hp}{a:Addr}{o:HO}:upd H a o a=some o:=by unfold upd;rw[Qc rfl]
theorem yV {H:Hp}{a b:Addr}{o:HO}(h:b≠a):upd H a o b=H b:=by unfold upd;rw[Wd h]
theorem yN {H:Hp}{a b:Addr}{o:HO}(h:H a=some o)(h':H b=none):a≠b:=by
 intro e;subst e;rw[h] at h';cases h'
section
variable (P:Program) (w:World)
def ObjOk (H:Hp)(h:Heap)(a:Addr):HO->Prop
 | .lst xs=>xs.length<=sizeLine/\∃(its:List Value) (n:Nat),Vals xs its/\h.get? a=some { cls:=.type "list",data:=.seq its.toArray n }
 | .tup xs=>xs.length<=sizeLine/\∃its:List Value,Vals xs its/\IsTup h a its.toArray
 | .dK kvs=>kvs.length<=sizeLine/\(a==sysModules)=false/\∃vs,KV kvs vs/\h.DictOf (zWV P w) a vs
 | .dT kvs=>kvs.length<=sizeLine/\(a==sysModules)=false/\∃xs:List (List Key×Addr×Value),
     Paired (fun(p:List Key×V) (q:List Key×Addr×Value)=>p.1=q.1/\H q.2.1=some (.tup (p.1.map kV))/\RelV p.2 q.2.2) kvs xs /\
     ∃o es ep,h.get? a=some o/\o.ExactDict/\o.data = .dict es ep/\es.toList=xs.map (entryOfKey (tupleKind (zWV P w)))/\(xs.map (·.1)).Nodup
 | .set S n=>h.SetOf (intKind P w) a S n
 | .ins C dx fs=>H dx=some (.own a)/\fs.length<=1000/\dx≠a/\h.get? a=some (PySem.W.instObj C dx) /\
     ∃mA,h.Ns1 dx mA/\(∀f,RelO (fs.lookup f) (mA f))/\PySem.Within mA (fs.map (·.1))
 | .own _=>∃o,h.get? a=some o
 | .xd fs=>∃mA,h.Ns1 a mA/\∀f,RelO (fs.lookup f) (mA f)
 | .rng lo hi=>∃t u v,h.get? a=some { cls:=.type "range",data:=.fields #[.int lo t,.int hi u,.int 1 v] }
 | .frz o u=>h.get? a=some o/\ObjOk H h a u
 | .tbl ps=>h.get? a=some { cls:=.none,data:=.fields ps }
 | .met f x=>h.get? a=some (PySem.W.methodObj (.ref f) (.ref x))
 | .ext φ=>φ h/\(∃o,h.get? a=some o)/\∀h1 h2:Heap,φ h1->(∀o,h1.get? a=some o->h2.get? a=some o)->φ h2
def HOk (H:Hp)(h:Heap):Prop:=∀a o,H a=some o->ObjOk P w H h a o
end
section
variable {P:Program} {w:World} {H H':Hp} {h h':Heap} {a:Addr} {o:HO}
theorem ObjOk.lt (x:ObjOk P w H h a o):a < h.objs.size:=by
 cases o with
 | lst xs=>obtain⟨_,_,_,_,e⟩:=x;exact Qs e
 | tup xs=>obtain⟨_,_,_,p⟩:=x;exact p.lt
 | dK kvs=>obtain⟨_,_,_,_,o,_,_,e,_⟩:=x;exact Qs e
 | dT kvs=>obtain⟨_,_,_,_,o,_,_,e,_⟩:=x;exact Qs e
 | set S n=>obtain⟨o,_,_,_,e,_⟩:=x;exact Qs e
 | ins C dx fs=>obtain⟨_,_,_,e,_⟩:=x;exact Qs e
 | own y=>obtain⟨_,e⟩:=x;exact Qs e
 | xd fs=>obtain⟨_,⟨_,_,_,e,_⟩,_⟩:=x;exact Qs e
 | rng lo hi=>obtain⟨_,_,_,e⟩:=x;exact Qs e
 | frz ob u=>obtain⟨e,_⟩:=x;exact Qs e
 | tbl ps=>exact Qs (show h.get? a=some _ from x)
 | met f y=>exact Qs (show h.get? a=some _ from x)
 | ext φ=>obtain⟨_,⟨_,e⟩,_⟩:=x;exact Qs e
theorem Paired.mapP {α β:Type}{F G:α->β->Prop}:∀ {l₁:List α} {l₂:List β},Paired F l₁ l₂->(∀a b,F a b->G a b)->Paired G l₁ l₂
 | _,_,.nil,_=>.nil
 | _,_,.cons r t,f=>.cons (f _ _ r) (Paired.mapP t f)
theorem ObjOk.stay (x:ObjOk P w H h a o)(k:∀b u,(b=a∨H b=some (.own a))->h.get? b=some u->h'.get? b=some u)
   (ho:∀b,H b=some (.own a)->H' b=some (.own a)) (ht:∀b xs,H b=some (.tup xs)->H' b=some (.tup xs)):ObjOk P w H' h' a o:=by
 induction o with
 | lst xs=>obtain⟨z,its,n,r,e⟩:=x;exact⟨z,its,n,r,k _ _ (.inl rfl) e⟩
 | tup xs=>obtain⟨z,its,r,ob,e,c⟩:=x;exact⟨z,its,r,ob,k _ _ (.inl rfl) e,c⟩
 | dK kvs=>obtain⟨z,y,vs,r,ob,es,ep,e,c⟩:=x;exact⟨z,y,vs,r,ob,es,ep,k _ _ (.inl rfl) e,c⟩
 | dT kvs =>
   obtain⟨z,y,xs,r,ob,es,ep,e,c⟩:=x
   exact⟨z,y,xs,Paired.mapP r fun p q z=>⟨z.1,ht _ _ z.2.1,z.2.2⟩,ob,es,ep,k _ _ (.inl rfl) e,c⟩
 | set S n=>obtain⟨ob,es,ep,t,e,c⟩:=x;exact⟨ob,es,ep,t,k _ _ (.inl rfl) e,c⟩
 | ins C dx fs =>
   obtain⟨d,z,ne,e,mA,⟨od,es,ep,e2,c⟩,r⟩:=x
   exact⟨ho _ d,z,ne,k _ _ (.inl rfl) e,mA,⟨od,es,ep,k _ _ (.inr d) e2,c⟩,r⟩
 | own y=>obtain⟨ob,e⟩:=x;exact⟨ob,k _ _ (.inl rfl) e⟩
 | xd fs=>obtain⟨mA,⟨od,es,ep,e,c⟩,r⟩:=x;exact⟨mA,⟨od,es,ep,k _ _ (.inl rfl) e,c⟩,r⟩
 | rng lo hi=>obtain⟨t,u,v,e⟩:=x;exact⟨t,u,v,k _ _ (.inl rfl) e⟩
 | frz ob u ih=>obtain⟨e,q⟩:=x;exact⟨k _ _ (.inl rfl) e,ih q⟩
 | tbl ps =>
   have e:h.get? a=some { cls:=.none,data:=.fields ps }:=x
   show h'.get? a=some { cls:=.none,data:=.fields ps }
   exact k a _ (.inl rfl) e
 | met f y =>
   have e:h.get? a=some (PySem.W.methodObj (.ref f) (.ref y)):=x
   show h'.get? a=some (PySem.W.methodObj (.ref f) (.ref y))
   exact k a _ (.inl rfl) e
 | ext φ=>obtain⟨p,⟨o,e⟩,st⟩:=x;exact⟨st _ _ p fun o q=>k _ _ (.inl rfl) q,⟨o,k _ _ (.inl rfl) e⟩,st⟩
theorem HOk.lt (x:HOk P w H h)(e:H a=some o):a < h.objs.size:=(x a o e).lt
theorem HOk.fresh (x:HOk P w H h)(e:h.objs.size<=a):H a=none:=by
 cases q:H a with
 | none=>rfl
 | some u=>exact absurd (Qm (x.lt q) e) (Wv _)
theorem HOk.kept (x:HOk P w H h)(k:∀b u,h.get? b=some u->h'.get? b=some u):HOk P w H h':=fun a o e =>
 (x a o e).stay (fun b u _ q=>k b u q) (fun _ q=>q) fun _ _ q=>q
theorem HOk.laid (x:HOk P w H h)(k:∀b u,h.get? b=some u->h'.get? b=some u)(hp:h.objs.size<=a)(new:ObjOk P w (upd H a o) h' a o):HOk P w (upd H a o) h':=fun b u e=>by
 have hn:=x.fresh hp
 by_cases hb:b=a
 · subst hb;rw[zE] at e;cases e;exact new
 · rw[yV hb] at e
   exact(x b u e).stay (fun c v _ q=>k c v q) (fun c q=>by rw[yV (yN q hn)];exact q) fun c xs q=>by rw[yV (yN q hn)];exact q
end
def Rd (H:Hp)(a:Addr)(u:HO):Prop:=H a=some u∨∃o,H a=some (.frz o u)
theorem Rd.ok {P:Program}{w:World}{H:Hp}{h:Heap}{a:Addr}{u:HO}(r:Rd H a u)(x:HOk P w H h):ObjOk P w H h a u:=by
 rcases r with r | ⟨o,r⟩
 · exact x a u r
 · obtain⟨_,q⟩:=x a _ r
   exact q
def Mut:Option HO->Prop
 | some (.lst _)=>True
 | some (.dK _)=>True
 | some (.dT _)=>True
 | some (.set _ _)=>True
 | some (.ins _ _ _)=>True
 | some (.ext _)=>True
 | _=>False
section
variable {P:Program} {w:World} {H:Hp} {h h':Heap} {x e:Addr} {o':HO}
theorem HOk.write (ok:HOk P w H h)(mu:Mut (H x))(he:e=x∨H e=some (.own x))(k:∀b u,b≠e->h.get? b=some u->h'.get? b=some u)(heo:∃u,h'.get? e=some u)
   (new:ObjOk P w (upd H x o') h' x o'):HOk P w (upd H x o') h':=fun b u q=>by
 have nown:∀c y,H c=some (.own y)->c≠x:=fun c y r z=>by subst z;rw[r] at mu;exact mu
 have ntup:∀c xs,H c=some (.tup xs)->c≠x:=fun c xs r z=>by subst z;rw[r] at mu;exact mu
 by_cases hb:b=x
 · subst hb;rw[zE] at q;cases q;exact new
 · rw[yV hb] at q
   by_cases hbe:b=e
   · have q':H b=some (.own x):=by
       rcases he with z | z
       · exact absurd (hbe.trans z) hb
       · rw[hbe];exact z
     rw[q] at q';cases q'
     obtain⟨v,hv⟩:=heo
     exact⟨v,by rw[hbe];exact hv⟩
   · refine(ok b u q).stay (fun c v hc r=>k c v ?_ r) (fun c r=>by rw[yV (nown c b r)];exact r) fun c xs r=>by rw[yV (ntup c xs r)];exact r
     rcases hc with rfl | hc
     · exact hbe
     · rintro rfl
       rcases he with z | z
       · exact nown c b hc z
       · rw[hc] at z;cases z;exact hb rfl
end
structure Un (fs ex:List Addr)(H H':Hp)(h h':Heap):Prop where
 keep:∀b o,h.get? b=some o->H b=none->b∉fs->b∉ex->h'.get? b=some o
 slot:∀b o,h.get? b=some o->H b=none->b∈fs->b∉ex->∃sl,h'.get? b=some { o with slots:=sl }
 free:∀b o,h.get? b=some o->H b=none->b∉ex->H' b=none
 there:∀b o,h.get? b=some o->b∉ex->∃o',h'.get? b=some o'
 tups:∀b xs,H b=some (.tup xs)->H' b=some (.tup xs)
 frzs:∀b o u,H b=some (.frz o u)->H' b=some (.frz o u)
 tbls:∀b ps,H b=some (.tbl ps)->∃more,H' b=some (.tbl (ps++more))
section
variable {fs ex:List Addr} {H H1 H2:Hp} {h h1 h2 h':Heap} {a x e:Addr} {o:HO}
theorem Un.any (u:Un fs ex H H1 h h1){b:Addr}{ob:Obj}(q:h.get? b=some ob)(n:H b=none)(hx:b∉ex):∃sl,h1.get? b=some { ob with slots:=sl }:=by
 by_cases hb:b∈fs
 · exact u.slot b ob q n hb hx
 · exact⟨ob.slots,u.keep b ob q n hb hx⟩
theorem Un.trans (a:Un fs ex H H1 h h1)(b:Un fs ex H1 H2 h1 h2):Un fs ex H H2 h h2 where
 keep:=fun c ob q n hc hx=>b.keep c ob (a.keep c ob q n hc hx) (a.free c ob q n hx) hc hx
 slot:=fun c ob q n hc hx=>by
   obtain⟨sl,e1⟩:=a.slot c ob q n hc hx
   obtain⟨sl',e2⟩:=b.slot c _ e1 (a.free c ob q n hx) hc hx
   exact⟨sl',e2⟩
 free:=fun c ob q n hx=>by
   obtain⟨o',e1⟩:=a.there c ob q hx
   exact b.free c o' e1 (a.free c ob q n hx) hx
 there:=fun c ob q hx=>by
   obtain⟨o',e1⟩:=a.there c ob q hx
   exact b.there c o' e1 hx
 tups:=fun c xs q=>b.tups c xs (a.tups c xs q)
 frzs:=fun c ob xs q=>b.frzs c ob xs (a.frzs c ob xs q)
 tbls:=fun c ps q=>by
   obtain⟨m1,e1⟩:=a.tbls c ps q
   obtain⟨m2,e2⟩:=b.tbls c _ e1
   exact⟨m1++m2,by rw[e2,Array.append_assoc]⟩
theorem Un.kept (k:∀b u,h.get? b=some u->h'.get? b=some u):Un fs ex H H h h' :=
 ⟨fun b ob q _ _ _=>k b ob q,fun b ob q _ _ _=>⟨ob.slots,k b ob q⟩,fun _ _ _ n _=>n,fun b ob q _=>⟨ob,k b ob q⟩,fun _ _ q=>q,fun _ _ _ q=>q,fun _ ps q=>⟨#[],by rw[q];simp⟩⟩
theorem Un.refl:Un fs ex H H h h:=Un.kept fun _ _ q=>q
theorem Un.laid (k:∀b u,h.get? b=some u->h'.get? b=some u)(hp:h.objs.size<=a)(hn:H a=none):Un fs ex H (upd H a o) h h' where
 keep:=fun b u q _ _ _=>k b u q
 slot:=fun b u q _ _ _=>⟨u.slots,k b u q⟩
 free:=fun b u q n _=>by rw[yV (Qv (Qm (Qs q) hp))];exact n
 there:=fun b u q _=>⟨u,k b u q⟩
 tups:=fun b xs q=>by rw[yV (yN q hn)];exact q
 frzs:=fun b u xs q=>by rw[yV (yN q hn)];exact q
 tbls:=fun b ps q=>⟨#[],by rw[yV (yN q hn),q];simp⟩
theorem Un.write (mu:Mut (H x))(he:e=x∨H e=some (.own x))(k:∀b u,b≠e->h.get? b=some u->h'.get? b=some u)(heo:∃u,h'.get? e=some u):Un fs ex H (upd H x o) h h':=by
 have hx:∀b,H b=none->b≠x:=fun b n z=>by subst z;rw[n] at mu;exact mu
 have hb:∀b,H b=none->b≠e:=fun b n z=>by
   subst z
   rcases he with r | r
   · exact hx b n r
   · rw[n] at r;cases r
 have hm:∀b u,H b=some u->¬Mut (some u)->b≠x:=fun b u q nm z=>by subst z;rw[q] at mu;exact nm mu
 refine⟨fun b u q n _ _=>k b u (hb b n) q,fun b u q n _ _=>⟨u.slots,k b u (hb b n) q⟩,fun b u q n _=>by rw[yV (hx b n)];exact n,fun b u q _=>?_,
   fun b xs q=>by rw[yV (hm b _ q fun z=>z)];exact q,fun b u xs q=>by rw[yV (hm b _ q fun z=>z)];exact q,fun b ps q=>⟨#[],by rw[yV (hm b _ q fun z=>z),q];simp⟩⟩
 by_cases hbe:b=e
 · subst hbe;exact heo
 · exact⟨u,k b u hbe q⟩
end
def trk (h:Heap)(H:Hp):List Addr:=(List.range h.objs.size).filter fun a=>(H a).isSome
def zZK (h:Heap)(H:Hp):Heap:=PySem.W.hideAll h (trk h H)
theorem zVi (h:Heap)(H:Hp):(zZK h H).objs.size=h.objs.size:=PySem.W.hideAll_size _ _
theorem zUZ {h:Heap}{H:Hp}{b:Addr}{o:Obj}(e:h.get? b=some o)(n:H b=none):(zZK h H).get? b=some o :=
 PySem.W.hideAll_get _ e fun hm=>by
   have q:(H b).isSome=true:=(Er.mp hm).2
   rw[n] at q;simp at q
theorem zSR {h:Heap}{H:Hp}{b:Addr}{o:Obj}(e:(zZK h H).get? b=some o):h.get? b=some o/\H b=none:=by
 have e':h.get? b=some o:=PySem.W.of_hideAll (trk h H) e
 refine⟨e',?_⟩
 cases q:H b with
 | none=>rfl
 | some x =>
   have hm:b∈trk h H:=Er.mpr ⟨Rj.mpr (Qs e'),by simp[q]⟩
   have z:(zZK h H).get? b=none:=PySem.W.hideAll_none (trk h H) hm
   rw[z] at e;cases e
def zTg (g h:Heap)(L:Addr):List (Addr×Obj):=(List.range h.objs.size).filterMap fun a=>if a=L∨(g.get? a).isSome=true then none else(h.get? a).map fun o=>(a,o)
def rest (g h:Heap)(L d:Addr):List (Addr×Obj):=(zTg g h L).filter fun p=>decide (p.1≠d)
structure Mod (K:PySem.W.Frag)(mg:Str->Option Value)(base:Heap):Prop where
 kin:K.In base
 glob:base.Ns mainGlobals mg
 blt:∃mb,base.Ns builtinsNs mb/\∀x:Str,x≠"__name__"->mb x=bootBuiltins x
 nolimit:base.NoLimit
/-- the context: a def's body (or a comprehension's block) running. base: fixed through the whole law; s₀, H₀: the entry; outer: the frames whose slots others may change (a def's callers); stack: all frames that run;
  ex: iterators that were made ahead of the entry and are walked here (a comprehension's);fn: the names whose cells were made at the entry (a def: all;a comprehension's block: its own);calm: not within an except suite;pn: pins that every state bears;xe: what is wanted of an exception that leaves the code -/
structure Cx where
 prog:Program
 w:World
 K:PySem.W.Frag
 mg:Str->Option Value
 base:Heap
 A:Around
 N:List Str
 s₀:Shared
 H₀:Hp
 env:Env
 outer:List Env
 stack:List Env
 ex:List Addr
 fn:Str->Bool
 calm:Bool
 pn:List (Addr×Obj)
 xe:Value->Shared->Prop
def frs (l:List Env):List Addr:=l.filterMap (·.frame)
abbrev Cx.fs (X:Cx):List Addr:=frs X.outer
def Vis (sc:Scope)(x:Str):Prop:=sc.names.lookup x=some .local∨sc.names.lookup x=some .cell∨sc.names.lookup x=some .free
def Loc (sc:Scope)(x:Str):Prop:=sc.names.lookup x=some .local∨sc.names.lookup x=some .cell
def zPl (env:Env)(h:Heap)(m:Str->Option Value)(x:Str)(u:Value):Prop :=
 (env.kindOf x=some .local/\m x=some u)∨((env.kindOf x=some .cell∨env.kindOf x=some .free)/\∃c,env.cells.lookup x=some c/\h.IsCell c (some u))
structure Cx.Ok (X:Cx):Prop where
 mod:Mod X.K X.mg X.base
 kind:X.env.scope.kind = .function
 glob:X.env.globals=mainGlobals
 blt:X.env.builtins=builtinsNs
 above:X.s₀.heap.objs.size<=X.env.locals
 inj:∀x y c,X.env.cells.lookup x=some c->X.env.cells.lookup y=some c->x=y
 has:∀x,(X.env.kindOf x=some .cell∨X.env.kindOf x=some .free)->∃c,X.env.cells.lookup x=some c
 cab:∀x c,X.fn x=true->X.env.cells.lookup x=some c->X.s₀.heap.objs.size<=c
 hd:X.calm=true->X.A.handled=none
 frames:X.A.frames=some X.stack
 stk:X.stack=X.outer∨(X.stack=X.env::X.outer/\X.env.frame=some X.env.locals)
 exf:∀b∈X.ex,b≠X.env.locals/\∀x c,X.env.cells.lookup x=some c->c≠b
 bs:∀b o,X.base.get? b=some o->X.s₀.heap.get? b=some o/\X.H₀ b=none
 bsz:X.base.objs.size<=X.s₀.heap.objs.size
 noex:∀b o,X.base.get? b=some o->b∉X.ex
 exfs:∀b∈X.ex,b∉X.fs
 funs:X.s₀.heap.FunFrames X.base X.outer
 frf:∀b∈X.fs,X.H₀ b=none
structure Inv (X:Cx)(pins:List (Addr×Obj))(σ:List (Option V))(H:Hp)(s:Shared):Prop where
 ok:X.Ok
 os:s.os=X.s₀.os
 bare:AllBare s.gens
 base:Un X.fs X.ex X.H₀ H X.s₀.heap s.heap
 loc:∃m,s.heap.Ns X.env.locals m/\∀(i:Nat) (x:Str) (v:V),X.N[i]?=some x->σ[i]?=some (some v)->Vis X.env.scope x->∃u,RelV v u/\zPl X.env s.heap m x u
 cell:∀x c,X.env.cells.lookup x=some c->∃v,s.heap.IsCell c v
 free:H X.env.locals=none
 freeC:∀x c,X.env.cells.lookup x=some c->H c=none
 pin:∀p∈X.pn++pins,s.heap.get? p.1=some p.2/\H p.1=none/\p.1≠X.env.locals/\p.1∉X.fs/\∀v,p.2.data ≠ .cell v
 hok:HOk X.prog X.w H s.heap
 len:σ.length=X.N.length
section
variable {X:Cx} {pins:List (Addr×Obj)} {σ:List (Option V)} {H H':Hp} {s:Shared} {h':Heap}
theorem Cx.Ok.nofr (ok:X.Ok){b:Addr}{o:Obj}(e:X.base.get? b=some o):b∉X.fs:=fun hb=>by
 have:=(ok.funs.mem hb).1
 rw[e] at this;cases this
theorem Inv.bs (I:Inv X pins σ H s):∀b o,X.base.get? b=some o->s.heap.get? b=some o/\H b=none:=fun b o e =>
 ⟨I.base.keep b o (I.ok.bs b o e).1 (I.ok.bs b o e).2 (I.ok.nofr e) (I.ok.noex b o e),I.base.free b o (I.ok.bs b o e).1 (I.ok.bs b o e).2 (I.ok.noex b o e)⟩
theorem Inv.bk (I:Inv X pins σ H s):∀b o,X.base.get? b=some o->s.heap.get? b=some o:=fun b o e=>(I.bs b o e).1
theorem Inv.mod (I:Inv X pins σ H s):Mod X.K X.mg X.base:=I.ok.mod
theorem Inv.kIn (I:Inv X pins σ H s):X.K.In s.heap:=I.ok.mod.kin.keeps I.bk
theorem Inv.lt (I:Inv X pins σ H s):X.env.locals < s.heap.objs.size:=let ⟨_,hn,_⟩:=I.loc;hn.lt
theorem Inv.sz (I:Inv X pins σ H s):X.s₀.heap.objs.size<=s.heap.objs.size:=Wh I.ok.above (Wz I.lt)
theorem Inv.nofs (I:Inv X pins σ H s){a:Addr}(h:s.heap.objs.size<=a):a∉X.fs:=fun hb=>by
 obtain⟨_,o,ho,_⟩:=I.ok.funs.mem hb
 exact absurd (Qm (Qs ho) (Wh I.sz h)) (Wv _)
theorem Inv.cne (I:Inv X pins σ H s):∀x c,X.env.cells.lookup x=some c->c≠X.env.locals:=fun x c e z=>by
 obtain⟨v,o,ho,hd⟩:=I.cell x c e
 obtain⟨m,⟨o',es,ep,ho',hd',_⟩,_⟩:=I.loc
 rw[z,ho'] at ho;cases ho;rw[hd'] at hd;cases hd
theorem Inv.funs (I:Inv X pins σ H s):s.heap.FunFrames X.base X.outer:=by
 have all:∀(l:List Env),(∀b∈frs l,b∈X.fs)->X.s₀.heap.FunFrames X.base l->s.heap.FunFrames X.base l:=by
   intro l
   induction l with
   | nil=>intro _ _;trivial
   | cons env r ih =>
     intro hs hl
     obtain⟨hk,⟨L,o,hf,hn,ho,hd⟩,hr⟩:=hl
     have hL:L∈X.fs:=hs L (by unfold frs;rw[Tz,hf];exact Qj)
     obtain⟨sl,e⟩:=I.base.slot L o ho (I.ok.frf L hL) hL fun z=>I.ok.exfs L z hL
     exact⟨hk,⟨L,_,hf,hn,e,hd⟩,ih (fun b hb=>hs b (by unfold frs;rw[Tz,hf];exact Qd _ hb)) hr⟩
 exact all X.outer (fun _ hb=>hb) I.ok.funs
theorem Inv.stack (I:Inv X pins σ H s):s.heap.FunFrames X.base X.stack:=by
 rcases I.ok.stk with e | ⟨e,hf⟩
 · rw[e];exact I.funs
 · rw[e]
   obtain⟨m,hn,_⟩:=I.loc
   refine .cons (by rw[I.ok.kind];decide) hf hn ?_ I.funs
   exact Heap.get?_none_of_le (Wh I.ok.bsz I.ok.above)
theorem Inv.stkSub (I:Inv X pins σ H s):∀b∈frs X.stack,b∈X.env.locals::X.fs:=fun b hb=>by
 rcases I.ok.stk with e | ⟨e,hf⟩
 · rw[e] at hb;exact Qd _ hb
 · rw[e] at hb
   unfold frs at hb
   rw[Tz,hf] at hb
   exact hb
theorem Inv.stkFree (I:Inv X pins σ H s):∀b∈frs X.stack,H b=none:=fun b hb=>by
 rcases Qk.mp (I.stkSub b hb) with e | hb
 · rw[e];exact I.free
 · obtain⟨_,o,ho,_⟩:=I.ok.funs.mem hb
   exact I.base.free b o ho (I.ok.frf b hb) fun z=>I.ok.exfs b z hb
theorem Inv.step {g':Array GenState}{t':Nat}{d':Drawn}{ch:List Addr}(I:Inv X pins σ H s)
   (hch:∀b∈ch,(b∈X.ex∨X.s₀.heap.objs.size<=b)/\b≠X.env.locals/\(∀x c,X.env.cells.lookup x=some c->c≠b)/\∀p∈X.pn++pins,p.1≠b)
   (keep:∀b o,b≠X.env.locals->b∉X.fs->b∉ch->s.heap.get? b=some o->H b=none->h'.get? b=some o)
   (slot:∀b o,b≠X.env.locals->b∈X.fs->b∉ch->s.heap.get? b=some o->H b=none->∃sl,h'.get? b=some { o with slots:=sl }) (free:∀b o,b∉ch->s.heap.get? b=some o->H b=none->H' b=none)
   (there:∀b o,b∉ch->s.heap.get? b=some o->∃o',h'.get? b=some o')
   (tups:∀b xs,H b=some (.tup xs)->H' b=some (.tup xs)) (frzs:∀b o u,H b=some (.frz o u)->H' b=some (.frz o u)) (tbls:∀b ps,H b=some (.tbl ps)->∃more,H' b=some (.tbl (ps++more)))
   (ns:∀m,s.heap.Ns X.env.locals m->h'.Ns X.env.locals m) (hok:HOk X.prog X.w H' h') (hg:AllBare g') :
   Inv X pins σ H' { s with heap:=h',gens:=g',drawn:=d',toks:=t' }:=by
 have neL:∀b o,X.s₀.heap.get? b=some o->b≠X.env.locals:=fun b o e=>Qv (Qm (Qs e) I.ok.above)
 have neC:∀b o,X.s₀.heap.get? b=some o->b∉X.ex->b∉ch:=fun b o e hx hb=>by
   rcases(hch b hb).1 with z | z
   · exact hx z
   · exact absurd (Qm (Qs e) z) (Wv _)
 have cellK:∀x c,X.env.cells.lookup x=some c->∀v,s.heap.IsCell c v->h'.IsCell c v:=fun x c e v ⟨o,ho,hd⟩=>by
   have nch:c∉ch:=fun z=>(hch c z).2.2.1 x c e rfl
   by_cases hc:c∈X.fs
   · obtain⟨sl,q⟩:=slot c o (I.cne x c e) hc nch ho (I.freeC x c e)
     exact⟨_,q,hd⟩
   · exact⟨o,keep c o (I.cne x c e) hc nch ho (I.freeC x c e),hd⟩
 refine⟨I.ok,I.os,hg,⟨fun b o e n hb hx=>?_,fun b o e n hb hx=>?_,fun b o e n hx=>?_,fun b o e hx=>?_,fun b xs e=>tups b xs (I.base.tups b xs e),fun b o xs e=>frzs b o xs (I.base.frzs b o xs e),fun b ps e=>?_⟩,?_,fun x c e=>?_,?_,fun x c e=>?_,fun p hp=>?_,hok,I.len⟩
 · exact keep b o (neL b o e) hb (neC b o e hx) (I.base.keep b o e n hb hx) (I.base.free b o e n hx)
 · obtain⟨sl,e1⟩:=I.base.slot b o e n hb hx
   obtain⟨sl',e2⟩:=slot b _ (neL b o e) hb (neC b o e hx) e1 (I.base.free b o e n hx)
   exact⟨sl',e2⟩
 · obtain⟨o',e1⟩:=I.base.there b o e hx
   exact free b o' (neC b o e hx) e1 (I.base.free b o e n hx)
 · obtain⟨o',e1⟩:=I.base.there b o e hx
   exact there b o' (neC b o e hx) e1
 · obtain⟨m1,e1⟩:=I.base.tbls b ps e
   obtain⟨m2,e2⟩:=tbls b _ e1
   exact⟨m1++m2,by rw[e2,Array.append_assoc]⟩
 · obtain⟨m,hn,hl⟩:=I.loc
   refine⟨m,ns m hn,fun i x v e1 e2 e3=>?_⟩
   obtain⟨u,r,l⟩:=hl i x v e1 e2 e3
   refine⟨u,r,?_⟩
   rcases l with l | ⟨k,c,e,z⟩
   · exact .inl l
   · exact .inr ⟨k,c,e,cellK x c e _ z⟩
 · obtain⟨v,z⟩:=I.cell x c e
   exact⟨v,cellK x c e v z⟩
 · obtain⟨m,⟨o,_,_,ho,_⟩,_⟩:=I.loc
   exact free _ o (fun z=>(hch _ z).2.1 rfl) ho I.free
 · obtain⟨v,o,ho,hd⟩:=I.cell x c e
   exact free c o (fun z=>(hch c z).2.2.1 x c e rfl) ho (I.freeC x c e)
 · obtain⟨e,n,ne,nf,d⟩:=I.pin p hp
   have nch:p.1∉ch:=fun z=>(hch p.1 z).2.2.2 p hp rfl
   exact⟨keep p.1 p.2 ne nf nch e n,free p.1 p.2 nch e n,ne,nf,d⟩
theorem Inv.un {t':Nat}(I:Inv X pins σ H s)(u:Un X.fs [] H H' s.heap h')(hok:HOk X.prog X.w H' h'):Inv X pins σ H' { s with heap:=h',toks:=t' }:=by
 obtain⟨m,⟨o,es,ep,ho,r⟩,_⟩:=id I.loc
 obtain⟨sl,hL⟩:=u.any ho I.free (by simp)
 exact I.step (g':=s.gens) (d':=s.drawn) (ch:=[]) (fun _ z=>nomatch z) (fun b o _ hb _ e n=>u.keep b o e n hb (by simp)) (fun b o _ hb _ e n=>u.slot b o e n hb (by simp)) (fun b o _ e n=>u.free b o e n (by simp)) (fun b o _ e=>u.there b o e (by simp)) u.tups u.frzs u.tbls (fun m' hm=>by
   obtain⟨o',es',ep',ho',r'⟩:=hm
   rw[ho] at ho';cases ho'
   exact⟨_,es',ep',hL,r'⟩) hok I.bare
theorem Inv.call {g':Array GenState}{t':Nat}{d':Drawn}{ch:List Addr}(I:Inv X pins σ H s)(u:Un (frs X.stack) ch H H' s.heap h')(hok:HOk X.prog X.w H' h')(hg:AllBare g')
   (hch:∀b∈ch,(b∈X.ex∨X.s₀.heap.objs.size<=b)/\b≠X.env.locals/\(∀x c,X.env.cells.lookup x=some c->c≠b)/\∀p∈X.pn++pins,p.1≠b) :
   Inv X pins σ H' { s with heap:=h',gens:=g',drawn:=d',toks:=t' }:=by
 obtain⟨m,⟨o,es,ep,ho,r⟩,_⟩:=id I.loc
 obtain⟨sl,hL⟩:=u.any ho I.free fun z=>(hch _ z).2.1 rfl
 exact I.step (ch:=ch) hch (fun b o hL hb hc e n=>u.keep b o e n (fun z=>(Qk.mp (I.stkSub b z)).elim hL hb) hc) (fun b o _ _ hc e n=>u.any e n hc) (fun b o hc e n=>u.free b o e n hc) (fun b o hc e=>u.there b o e hc) u.tups u.frzs u.tbls (fun m' hm=>by
   obtain⟨o',es',ep',ho',r'⟩:=hm
   rw[ho] at ho';cases ho'
   exact⟨_,es',ep',hL,r'⟩) hok hg
theorem Inv.turned {t':Nat}{it:Addr}(I:Inv X pins σ H s)(k:∀b o,b≠it->s.heap.get? b=some o->h'.get? b=some o)(hn:H it=none)(hL:it≠X.env.locals)
   (h1:it∈X.ex∨X.s₀.heap.objs.size<=it) (h2:∀x c,X.env.cells.lookup x=some c->c≠it) (h3:∀p∈X.pn++pins,p.1≠it):Inv X pins σ H { s with heap:=h',toks:=t' }:=by
 have nit:∀b u,H b=some u->b≠it:=fun b u e z=>by rw[z,hn] at e;cases e
 refine I.step (g':=s.gens) (d':=s.drawn) (ch:=[it]) (fun b hb=>?_) (fun b o _ _ hc e _=>k b o (fun z=>hc (by simp[z])) e) (fun b o _ _ hc e _=>⟨o.slots,k b o (fun z=>hc (by simp[z])) e⟩) (fun _ _ _ _ n=>n)
   (fun b o hc e=>⟨o,k b o (fun z=>hc (by simp[z])) e⟩) (fun _ _ e=>e) (fun _ _ _ e=>e) (fun b ps e=>⟨#[],by rw[e];simp⟩) (fun m hm=>?_) (fun b u e=>?_) I.bare
 · have e:b=it:=by simpa using hb
   subst e
   exact⟨h1,hL,h2,h3⟩
 · obtain⟨o,es,ep,ho,r⟩:=hm
   exact⟨o,es,ep,k _ o (Ne.symm hL) ho,r⟩
 · refine(I.hok b u e).stay (fun c v hc q=>k c v ?_ q) (fun _ q=>q) fun _ _ q=>q
   rcases hc with z | z
   · rw[z];exact nit b u e
   · exact nit c _ z
theorem Inv.tok (I:Inv X pins σ H s)(t:Nat):Inv X pins σ H { s with toks:=t }:=I.un (h':=s.heap) (t':=t) Un.refl I.hok
theorem Inv.kept {t':Nat}(I:Inv X pins σ H s)(k:∀b u,s.heap.get? b=some u->h'.get? b=some u):Inv X pins σ H { s with heap:=h',toks:=t' }:=I.un (Un.kept k) (I.hok.kept k)
theorem Inv.laid {a:Addr}{o:HO}{t':Nat}(I:Inv X pins σ H s)(k:∀b u,s.heap.get? b=some u->h'.get? b=some u)(hp:s.heap.objs.size<=a)(new:ObjOk X.prog X.w (upd H a o) h' a o) :
   Inv X pins σ (upd H a o) { s with heap:=h',toks:=t' }:=I.un (Un.laid k hp (I.hok.fresh hp)) (I.hok.laid k hp new)
theorem Inv.write {x e:Addr}{o:HO}{t':Nat}(I:Inv X pins σ H s)(mu:Mut (H x))(he:e=x∨H e=some (.own x))(k:∀b u,b≠e->s.heap.get? b=some u->h'.get? b=some u)(heo:∃u,h'.get? e=some u)
   (new:ObjOk X.prog X.w (upd H x o) h' x o):Inv X pins σ (upd H x o) { s with heap:=h',toks:=t' }:=I.un (Un.write mu he k heo) (I.hok.write mu he k heo new)
theorem Inv.pins_of {pins':List (Addr×Obj)}(I:Inv X pins σ H s)(h:∀p∈pins',s.heap.get? p.1=some p.2/\H p.1=none/\p.1≠X.env.locals/\p.1∉X.fs/\∀v,p.2.data ≠ .cell v):Inv X pins' σ H s :=
 ⟨I.ok,I.os,I.bare,I.base,I.loc,I.cell,I.free,I.freeC,fun p hp=>(Tx.mp hp).elim (fun z=>I.pin p (List.mem_append_left _ z)) (h p),I.hok,I.len⟩
theorem zY1 {N:List Str}(hN:N.Nodup){i j:Nat}{x:Str}(a:N[i]?=some x)(b:N[j]?=some x):i=j:=by
 obtain⟨h1,e1⟩:=Ql.mp a
 obtain⟨h2,e2⟩:=Ql.mp b
 exact(List.getElem_inj hN).mp (e1.trans e2.symm)
theorem bG {M:Model}{A:Around}{E:Value->Shared->Prop}{i:Nat}{x:Str}{v:V}{u:Value}{Q:Unit->Shared->Prop}(I:Inv X pins σ H s)(hN:X.N.Nodup)(hi:X.N[i]?=some x)(hx:Loc X.env.scope x)(r:RelV v u)
   (h:∀s',Inv X pins (σ.set i (some v)) H s'->(∃a,Heap.SameBut a s.heap s'.heap/\(a=X.env.locals∨X.env.cells.lookup x=some a))->Q () s') (hf:X.fn x=true∨X.env.scope.names.lookup x=some .local:=by first | exact .inl rfl | exact .inr rfl | assumption):wpAny M A (storeName X.env x u) Q E s:=by
 obtain⟨m,hn,hl⟩:=id I.loc
 have hcls:(X.env.scope.kind == .class||(X.env.scope.kind == .module&&X.env.locals != X.env.globals))=false:=by rw[I.ok.kind];rfl
 have hiσ:i < σ.length:=by rw[I.len];exact(Ql.mp hi).1
 have cne:=I.cne
 have tracked:∀ {a:Addr} {h':Heap},(∃o,s.heap.get? a=some o/\H a=none)->Heap.SameBut a s.heap h'->HOk X.prog X.w H h':=fun {a h'} ha hs b ob e=>by
   obtain⟨_,_,hfree⟩:=ha
   refine(I.hok b ob e).stay (fun c w' hc q=>(hs.2 c ?_).trans q) (fun _ q=>q) fun _ _ q=>q
   rintro rfl
   rcases hc with rfl | hc
   · rw[hfree] at e;cases e
   · rw[hfree] at hc;cases hc
 rcases hx with hk | hk
 · refine wpAny_storeName_local hk hn (fun h' hn' hs=>?_) hcls
   obtain⟨oL,_,_,hoL,_⟩:=id hn
   refine h _ ⟨I.ok,I.os,I.bare,⟨fun b o e n hb hx=>?_,fun b o e n hb hx=>?_,I.base.free,fun b o e hx=>?_,I.base.tups,I.base.frzs,I.base.tbls⟩,⟨_,hn',fun j y v' e1 e2 e3=>?_⟩,fun y c e=>?_,I.free,I.freeC,fun p hp=>?_,tracked ⟨oL,hoL,I.free⟩ hs,by simpa using I.len⟩ ⟨_,hs,.inl rfl⟩
   · exact(hs.2 b (Qv (Qm (Qs e) I.ok.above))).trans (I.base.keep b o e n hb hx)
   · obtain⟨sl,e1⟩:=I.base.slot b o e n hb hx
     exact⟨sl,(hs.2 b (Qv (Qm (Qs e) I.ok.above))).trans e1⟩
   · obtain⟨o',e1⟩:=I.base.there b o e hx
     exact⟨o',(hs.2 b (Qv (Qm (Qs e) I.ok.above))).trans e1⟩
   · by_cases hj:j=i
     · subst hj
       rw[hi] at e1;cases e1
       rw[Tp hiσ] at e2
       cases e2
       exact⟨u,r,.inl ⟨hk,by simp⟩⟩
     · rw[Wl (Ne.symm hj)] at e2
       obtain⟨u',r',q⟩:=hl j y v' e1 e2 e3
       refine⟨u',r',?_⟩
       rcases q with⟨k,e⟩ | ⟨k,c,e,z⟩
       · refine .inl ⟨k,?_⟩
         have:y≠x:=fun e=>hj (zY1 hN e1 (e ▸ hi))
         simp[this,e]
       · exact .inr ⟨k,c,e,z.sameBut hs (cne y c e)⟩
   · obtain⟨w',z⟩:=I.cell y c e
     exact⟨w',z.sameBut hs (cne y c e)⟩
   · obtain⟨e,n,ne,nf,d⟩:=I.pin p hp
     exact⟨(hs.2 p.1 ne).trans e,n,ne,nf,d⟩
 · have hfn:X.fn x=true:=by
     rcases hf with z | z
     · exact z
     · rw[z] at hk;cases hk
   obtain⟨c,hc⟩:=I.ok.has x (.inl hk)
   obtain⟨w',z⟩:=I.cell x c hc
   refine wpAny_storeName_cell I.ok.kind hk hc z (fun h' hc' hs=>?_)
   obtain⟨oc,hoc,hocd⟩:=id z
   refine h { s with heap:=h' } ⟨I.ok,I.os,I.bare,⟨fun b o e n hb hx=>?_,fun b o e n hb hx=>?_,I.base.free,fun b o e hx=>?_,I.base.tups,I.base.frzs,I.base.tbls⟩,⟨m,hn.sameBut hs (Ne.symm (cne x c hc)),fun j y v' e1 e2 e3=>?_⟩,fun y c' e=>?_,I.free,I.freeC,fun p hp=>?_,tracked ⟨oc,hoc,I.freeC x c hc⟩ hs,by simpa using I.len⟩ ⟨c,hs,.inr hc⟩
   · exact(hs.2 b (Qv (Qm (Qs e) (I.ok.cab x c hfn hc)))).trans (I.base.keep b o e n hb hx)
   · obtain⟨sl,e1⟩:=I.base.slot b o e n hb hx
     exact⟨sl,(hs.2 b (Qv (Qm (Qs e) (I.ok.cab x c hfn hc)))).trans e1⟩
   · obtain⟨o',e1⟩:=I.base.there b o e hx
     exact⟨o',(hs.2 b (Qv (Qm (Qs e) (I.ok.cab x c hfn hc)))).trans e1⟩
   · by_cases hj:j=i
     · subst hj
       rw[hi] at e1;cases e1
       rw[Tp hiσ] at e2
       cases e2
       exact⟨u,r,.inr ⟨.inl hk,c,hc,hc'⟩⟩
     · rw[Wl (Ne.symm hj)] at e2
       obtain⟨u',r',q⟩:=hl j y v' e1 e2 e3
       refine⟨u',r',?_⟩
       rcases q with q | ⟨k,c',e,z'⟩
       · exact .inl q
       · refine .inr ⟨k,c',e,z'.sameBut hs ?_⟩
         rintro rfl
         exact hj (zY1 hN e1 (I.ok.inj _ _ _ e hc ▸ hi))
   · by_cases hcc:c'=c
     · subst hcc;exact⟨_,hc'⟩
     · obtain⟨w2,z2⟩:=I.cell y c' e
       exact⟨w2,z2.sameBut hs hcc⟩
   · obtain⟨e,n,ne,nf,d⟩:=I.pin p hp
     refine⟨(hs.2 p.1 ?_).trans e,n,ne,nf,d⟩
     intro q
     rw[q,hoc] at e
     have q':oc=p.2:=Wk e
     exact d w' (by rw[←q'];exact hocd)
theorem zYO {M:Model}{A:Around}{E:Value->Shared->Prop}{i:Nat}{x:Str}{v:V}{u:Value}{Q:Unit->Shared->Prop}(I:Inv X pins σ H s)(hN:X.N.Nodup)(hi:X.N[i]?=some x)(hx:Loc X.env.scope x)(r:RelV v u)
   (h:∀s',Inv X pins (σ.set i (some v)) H s'->Q () s') (hf:X.fn x=true∨X.env.scope.names.lookup x=some .local:=by first | exact .inl rfl | exact .inr rfl | assumption):wpAny M A (storeName X.env x u) Q E s :=
 bG I hN hi hx r (fun s' I' _=>h s' I') hf
theorem Inv.call' {s':Shared}{ch:List Addr}(I:Inv X pins σ H s)(ho:s'.os=s.os)(u:Un (frs X.stack) ch H H' s.heap s'.heap)(hok:HOk X.prog X.w H' s'.heap)(hg:AllBare s'.gens)
   (hch:∀b∈ch,(b∈X.ex∨X.s₀.heap.objs.size<=b)/\b≠X.env.locals/\(∀x c,X.env.cells.lookup x=some c->c≠b)/\∀p∈X.pn++pins,p.1≠b):Inv X pins σ H' s':=by
 obtain⟨h',g',d',t',o'⟩:=s'
 have e:o'=s.os:=ho
 subst e
 exact I.call (g':=g') (t':=t') (d':=d') u hok hg hch
end
abbrev XK:=Value->Option Addr->Hp->Prop
abbrev St:=List (Option V)
abbrev VK:=V->Hp->Prop
abbrev TE:=St->Hp->VK->Prop
abbrev TT:=St->Hp->(Bool->Hp->Prop)->Prop
abbrev TA:=St->Hp->(List V->Hp->Prop)->Prop
structure Ends where
 nx:St->Hp->Prop
 rt:VK
 bk:St->Hp->Prop:=fun _ _=>False
 ct:St->Hp->Prop:=fun _ _=>False
abbrev TS:=Ends->St->Hp->Prop
def EP (X:Cx)(pins:List (Addr×Obj))(σ:St)(Q:VK)(u:Value)(s':Shared):Prop:=∃v H',Inv X pins σ H' s'/\RelV v u/\Q v H'
def TP (X:Cx)(pins:List (Addr×Obj))(σ:St)(Q:Bool->Hp->Prop)(b:Bool)(s':Shared):Prop:=∃H',Inv X pins σ H' s'/\Q b H'
def AP (X:Cx)(pins:List (Addr×Obj))(σ:St)(Q:List V->Hp->Prop)(us:List Value)(s':Shared):Prop:=∃vs H',Inv X pins σ H' s'/\Vals vs us/\Q vs H'
def SP (X:Cx)(pins:List (Addr×Obj))(D:Ends)(f:Flow)(s':Shared):Prop :=
 match f with
 | .next=>∃σ' H',Inv X pins σ' H' s'/\D.nx σ' H'
 | .brk=>∃σ' H',Inv X pins σ' H' s'/\D.bk σ' H'
 | .cont=>∃σ' H',Inv X pins σ' H' s'/\D.ct σ' H'
 | .ret u=>∃v σ' H',Inv X pins σ' H' s'/\RelV v u/\D.rt v H'
def PE (X:Cx)(e:Expr)(t:TE):Prop :=
 ∀(pins:List (Addr×Obj)) (s:Shared) (σ:St) (H:Hp) (Q:VK),Inv X pins σ H s->t σ H Q->wpAny (model X.prog X.w) X.A (eval e X.env) (EP X pins σ Q) X.xe s
def PT (X:Cx)(e:Expr)(t:TT):Prop :=
 ∀(pins:List (Addr×Obj)) (s:Shared) (σ:St) (H:Hp) (Q:Bool->Hp->Prop),Inv X pins σ H s->t σ H Q->wpAny (model X.prog X.w) X.A (isTrue e X.env (eval e X.env)) (TP X pins σ Q) X.xe s
def PW (X:Cx)(e:Expr)(t:TT):Prop :=
 ∀(whole:Sem Value) (pins:List (Addr×Obj)) (s:Shared) (σ:St) (H:Hp) (Q:Bool->Hp->Prop),Inv X pins σ H s->t σ H Q->wpAny (model X.prog X.w) X.A (isTrue e X.env whole) (TP X pins σ Q) X.xe s
theorem PW.pt {X:Cx}{e:Expr}{t:TT}(h:PW X e t):PT X e t:=h _
def PA (X:Cx)(es:List Expr)(t:TA):Prop :=
 ∀(pos:Pos) (pins:List (Addr×Obj)) (s:Shared) (σ:St) (H:Hp) (Q:List V->Hp->Prop),Inv X pins σ H s->t σ H Q->wpAny (model X.prog X.w) X.A (spliced (backTo pos (starEach es X.env))) (AP X pins σ Q) X.xe s
def PS (X:Cx)(st:Stmt)(t:TS):Prop :=
 ∀(pins:List (Addr×Obj)) (s:Shared) (σ:St) (H:Hp) (D:Ends),Inv X pins σ H s->t D σ H->wpAny (model X.prog X.w) X.A (exec st X.env) (SP X pins D) X.xe s
def PSs (X:Cx)(st:List Stmt)(t:TS):Prop :=
 ∀(pins:List (Addr×Obj)) (s:Shared) (σ:St) (H:Hp) (D:Ends),Inv X pins σ H s->t D σ H->wpAny (model X.prog X.w) X.A (execs st X.env) (SP X pins D) X.xe s
theorem thn {α:Type}{t:Sem α}{Q Q':α->Shared->Prop}{M:Model}{A:Around}{E:Value->Shared->Prop}{s:Shared}(h:wpAny M A t Q E s)(hQ:∀a s,Q a s->Q' a s):wpAny M A t Q' E s:=Us h hQ fun _ _ x=>x
section
variable {X:Cx}
def zSJ (i:Nat):TE:=fun σ H Q=>∃v,σ[i]?=some (some v)/\Q v H
def tC (v:V):TE:=fun _ H Q=>Q v H
theorem nQ {i:Nat}{x:Str}{pos:Pos}(hN:X.N[i]?=some x)(hv:Vis X.env.scope x)(hd:(x==("__debug__":Str))=false:=by decide)(hcd:(x==("__classdict__":Str))=false:=by decide):PE X (.Name x pos) (zSJ i):=by
 intro pins s σ H Q I h
 obtain⟨v,e,h⟩:=h
 obtain⟨m,hn,hl⟩:=I.loc
 obtain⟨u,r,l⟩:=hl i x v hN e hv
 have fin:EP X pins σ Q u s:=⟨v,H,I,r,h⟩
 rcases l with⟨hk,hm⟩ | ⟨hk,c,hc,hcell⟩
 · exact wpAny_Name (wpAny_loadName_local I.ok.kind hk hn hm fin) hd
 · rcases hk with hk | hk
   · exact wpAny_Name (wpAny_loadName_cell I.ok.kind hk hc hcell fin) hd
   · exact wpAny_Name (wpAny_loadName_free I.ok.kind hk hc hcell fin hcd) hd
theorem zRr {i j pos}:PE X (.Constant (.int i) j pos) (tC (.int i)):=fun _ _ _ H _ I h=>wpAny_Constant_int ⟨.int i,H,I.tok _,⟨_,rfl⟩,h⟩
theorem zQk {b j pos}:PE X (.Constant (.bool b) j pos) (tC (.bl b)):=fun _ _ _ H _ I h=>Constant_bool ⟨.bl b,H,I,rfl,h⟩
theorem zRV {j pos}:PE X (.Constant .none j pos) (tC .non):=fun _ _ _ H _ I h=>Constant_none ⟨.non,H,I,rfl,h⟩
theorem zRE {x j pos}:PE X (.Constant (.str x) j pos) (tC (.str x)):=fun _ _ _ H _ I h=>Calls.Constant_str ⟨.str x,H,I.tok _,⟨_,rfl⟩,h⟩
def Gl (X:Cx)(x:Str):Prop:=X.env.kindOf x=some .globalImplicit
theorem zWx {E:Value->Shared->Prop}{pins:List (Addr×Obj)}{s:Shared}{σ:St}{H:Hp}{x:Str}{u:Value}{pos:Pos}{Q:Value->Shared->Prop}(I:Inv X pins σ H s)(hg:Gl X x)(hm:X.mg x=some u)(h:Q u s)
   (hd:(x==("__debug__":Str))=false:=by decide):wpAny (model X.prog X.w) X.A (eval (.Name x pos) X.env) Q E s :=
 Ik I.ok.kind hg (Calls.loadGlobal_global (by rw[I.ok.glob];exact I.mod.glob.keeps I.bk) hm h) hd
theorem pX {E:Value->Shared->Prop}{pins:List (Addr×Obj)}{s:Shared}{σ:St}{H:Hp}{x:Str}{u:Value}{pos:Pos}{Q:Value->Shared->Prop}(I:Inv X pins σ H s)(hg:Gl X x)(hm:X.mg x=none)(hv:bootBuiltins x=some u)(h:Q u s)
   (hn:x≠"__name__":=by decide) (hd:(x==("__debug__":Str))=false:=by decide):wpAny (model X.prog X.w) X.A (eval (.Name x pos) X.env) Q E s:=by
 obtain⟨mb,h1,h2⟩:=I.mod.blt
 exact Ik I.ok.kind hg (Calls.loadGlobal_builtin (by rw[I.ok.glob];exact I.mod.glob.keeps I.bk) hm (by rw[I.ok.blt];exact h1.keeps I.bk) ((h2 x hn).trans hv) h) hd
theorem zSv {x:Str}{v:V}{u:Value}{pos:Pos}(hg:Gl X x)(hm:X.mg x=none)(hv:bootBuiltins x=some u)(r:RelV v u)(hn:x≠"__name__":=by decide)(hd:(x==("__debug__":Str))=false:=by decide):PE X (.Name x pos) (tC v) :=
 fun _ _ _ H _ I h=>pX I hg hm hv ⟨v,H,I,r,h⟩ hn hd
variable {a b:Expr} {ta tb:TE} {pos:Pos}
def tB (t:TE):TT:=fun σ H Q=>t σ H fun x H1=>∃c,x = .bl c/\Q c H1
theorem zQ6 {e:Expr}{t:TE}(h:PE X e t)(he:∀whole,isTrue e X.env whole=(do let v ←whole;standAt e.pos;holding [v] (truthy v)):=by intro _;rfl):PT X e (tB t):=by
 intro pins s σ H Q I hw
 refine isTrue_plain (thn (h pins s σ H _ I hw) fun v s1 ⟨x,H1,I1,r1,q1⟩=>?_) (he _)
 obtain⟨d,rfl,q⟩:=q1
 cases r1
 exact Ec ⟨H1,I1,q⟩
variable {tA tB':TT} {rest:List Expr}
def tOr (t u:TT):TT:=fun σ H Q=>t σ H fun c H1=>if c=true then Q true H1 else u σ H1 Q
def zPB (t:TT):TT:=fun σ H Q=>t σ H fun c H1=>Q (!c) H1
theorem zRF (ha:PT X a tA):PW X (.BoolOp .Or [a] pos) tA:=by
 intro wh pins s σ H Q I h
 refine isTrue_or (thn (ha pins s σ H Q I h) fun c s1 e=>?_)
 cases c with
 | false=>exact isTrue_or_nil e
 | true=>exact e
theorem zQe (ha:PT X a tA)(hb:PW X (.BoolOp .Or (b::rest) pos) tB'):PW X (.BoolOp .Or (a::b::rest) pos) (tOr tA tB'):=by
 intro wh pins s σ H Q I h
 refine isTrue_or (thn (ha pins s σ H _ I h) fun c s1 ⟨H1,I1,q1⟩=>?_)
 cases c with
 | true=>exact⟨H1,I1,q1⟩
 | false=>exact hb wh pins s1 σ H1 Q I1 q1
theorem zRI (ha:PT X a tA):PT X (.UnaryOp .Not a pos) (zPB tA):=by
 intro pins s σ H Q I h
 exact isTrue_not (ha pins s σ H (fun c H1=>Q (!c) H1) I h)
def zPD (ta tb:TE):TE:=fun σ H Q=>ta σ H fun x H1=>∃c,x = .bl c/\if c=true then tb σ H1 Q else Q (.bl false) H1
def zPC (ta:TE):TE:=fun σ H Q=>ta σ H fun x H1=>∃c,x = .bl c/\Q (.bl (!c)) H1
theorem zRa {op}{t:TE}(h:PE X a t):PE X (.BoolOp op [a] pos) t:=fun pins s σ H Q I hw=>BoolOp_one (h pins s σ H Q I hw)
theorem zRQ (ha:PE X a ta)(hb:PE X (.BoolOp .And (b::rest) pos) tb):PE X (.BoolOp .And (a::b::rest) pos) (zPD ta tb):=by
 intro pins s σ H Q I h
 refine BoolOp_and (thn (ha pins s σ H _ I h) fun v s1 ⟨x,H1,I1,r1,q1⟩=>?_)
 obtain⟨c,rfl,q1⟩:=q1
 cases r1
 refine Ec ?_
 cases c with
 | true=>exact hb pins s1 σ H1 Q I1 q1
 | false=>exact⟨.bl false,H1,I1,rfl,q1⟩
theorem zRP (ha:PE X a ta):PE X (.UnaryOp .Not a pos) (zPC ta):=by
 intro pins s σ H Q I h
 refine UnaryOp_ (thn (ha pins s σ H _ I h) fun v s1 ⟨x,H1,I1,r1,q1⟩=>?_)
 obtain⟨c,rfl,q1⟩:=q1
 cases r1
 exact not_of (Ec ⟨.bl (!c),H1,I1,rfl,q1⟩)
def tIf (t:TT)(ta tb:TE):TE:=fun σ H Q=>t σ H fun c H1=>if c=true then ta σ H1 Q else tb σ H1 Q
theorem zUe {c:Expr}(hc:PT X c tA)(ha:PE X a ta)(hb:PE X b tb):PE X (.IfExp c a b pos) (tIf tA ta tb):=by
 intro pins s σ H Q I h
 refine wpAny_IfExp (thn (hc pins s σ H _ I h) fun d s1 ⟨H1,I1,q1⟩=>?_)
 cases d with
 | true=>exact ha pins s1 σ H1 Q I1 q1
 | false=>exact hb pins s1 σ H1 Q I1 q1
end
def SqL (K:PySem.W.Frag)(H:Hp)(a:Addr)(xs:List V):Prop :=
 Rd H a (.lst xs) ∨
   ∃(o:Obj) (its:Array Value) (n:Nat),K.lookup a=some o/\o.cls = .type "list"/\o.dict=none/\o.data = .seq its n/\its.size<=sizeLine/\Vals xs its.toList
def SqT (K:PySem.W.Frag)(H:Hp)(a:Addr)(xs:List V):Prop :=
 Rd H a (.tup xs) ∨
   ∃(o:Obj) (its:Array Value) (n:Nat),K.lookup a=some o/\o.cls = .type "tuple"/\o.data = .seq its n/\its.size<=sizeLine/\Vals xs its.toList
def zP8:Value->Option V
 | .none=>some .non
 | .bool b=>some (.bl b)
 | .int i _=>some (.int i)
 | .str x _=>some (.str x)
 | .bytes b _=>some (.byt b)
 | .float b _=>some (.flt b)
 | .ref a=>some (.ref a)
 | .type n=>some (.ty n)
 | _=>none
theorem RelV.abs {x:V}{u:Value}(r:RelV x u):zP8 u=some x:=by
 cases x with
 | non=>cases r;rfl
 | bl _=>cases r;rfl
 | int _=>obtain⟨t,rfl⟩:=r;rfl
 | str _=>obtain⟨t,rfl⟩:=r;rfl
 | byt _=>obtain⟨t,rfl⟩:=r;rfl
 | flt _=>obtain⟨t,rfl⟩:=r;rfl
 | ref _=>cases r;rfl
 | ty _=>cases r;rfl
theorem RelV.inj {x y:V}{u:Value}(r:RelV x u)(q:RelV y u):x=y:=Wk (r.abs.symm.trans q.abs)
theorem Vals.inj:∀ {xs ys:List V} {us:List Value},Vals xs us->Vals ys us->xs=ys
 | _,_,_,.nil,.nil=>rfl
 | _,_,_,.cons r t,.cons r' t'=>by rw[r.inj r',Vals.inj t t']
section
variable {X:Cx} {pins:List (Addr×Obj)} {σ:St} {H:Hp} {s:Shared} {a:Addr} {xs ys:List V}
theorem SqL.of {K:PySem.W.Frag}(h:H a=some (.lst xs)):SqL K H a xs:=.inl (.inl h)
theorem SqT.of {K:PySem.W.Frag}(h:H a=some (.tup xs)):SqT K H a xs:=.inl (.inl h)
theorem Inv.list (I:Inv X pins σ H s)(h:SqL X.K H a xs):∃its:List Value,Vals xs its/\PlainL s.heap a its.toArray/\xs.length<=sizeLine:=by
 rcases h with h | ⟨o,its,n,hk,hc,hd,hs,hz,r⟩
 · obtain⟨z,its,n,r,e⟩:=h.ok I.hok
   exact⟨its,r,⟨_,n,e,rfl,rfl,rfl⟩,z⟩
 · refine⟨its.toList,r,⟨o,n,I.kIn a o hk,hc,hd,by simpa using hs⟩,?_⟩
   have e:=r.length
   simp only[Tc] at e
   omega
theorem Inv.tuple (I:Inv X pins σ H s)(h:SqT X.K H a xs):∃its:List Value,Vals xs its/\IsTup s.heap a its.toArray/\xs.length<=sizeLine:=by
 rcases h with h | ⟨o,its,n,hk,hc,hs,hz,r⟩
 · obtain⟨z,its,r,p⟩:=h.ok I.hok
   exact⟨its,r,p,z⟩
 · refine⟨its.toList,r,⟨o,I.kIn a o hk,hc,n,by simpa using hs⟩,?_⟩
   have e:=r.length
   simp only[Tc] at e
   omega
theorem Inv.list_inj (I:Inv X pins σ H s)(h:SqL X.K H a xs)(h':SqL X.K H a ys):xs=ys:=by
 obtain⟨its,r,⟨o,n,e,_,_,d⟩,_⟩:=I.list h
 obtain⟨its',r',⟨o',n',e',_,_,d'⟩,_⟩:=I.list h'
 rw[e] at e';cases e'
 rw[d] at d'
 injection d' with d1 _
 have:its=its':=by simpa using Ea Array.toList d1
 subst this
 exact r.inj r'
theorem Inv.tuple_inj (I:Inv X pins σ H s)(h:SqT X.K H a xs)(h':SqT X.K H a ys):xs=ys:=by
 obtain⟨its,r,⟨o,e,_,n,d⟩,_⟩:=I.tuple h
 obtain⟨its',r',⟨o',e',_,n',d'⟩,_⟩:=I.tuple h'
 rw[e] at e';cases e'
 rw[d] at d'
 injection d' with d1 _
 have:its=its':=by simpa using Ea Array.toList d1
 subst this
 exact r.inj r'
end
abbrev Cx.wish (X:Cx)(E:Value->Shared->Prop):Cx:={ X with xe:=E }
abbrev Cx.nox (X:Cx):Cx:=X.wish fun _ _=>False
theorem Cx.Ok.wish {X:Cx}(ok:X.Ok)(E:Value->Shared->Prop):(X.wish E).Ok :=
 ⟨ok.mod,ok.kind,ok.glob,ok.blt,ok.above,ok.inj,ok.has,ok.cab,ok.hd,ok.frames,ok.stk,ok.exf,ok.bs,ok.bsz,ok.noex,ok.exfs,ok.funs,ok.frf⟩
theorem Cx.Ok.unwish {X:Cx}{E:Value->Shared->Prop}(ok:(X.wish E).Ok):X.Ok :=
 ⟨ok.mod,ok.kind,ok.glob,ok.blt,ok.above,ok.inj,ok.has,ok.cab,ok.hd,ok.frames,ok.stk,ok.exf,ok.bs,ok.bsz,ok.noex,ok.exfs,ok.funs,ok.frf⟩
section
variable {X:Cx} {pins:List (Addr×Obj)} {σ:St} {H:Hp} {s:Shared} {E:Value->Shared->Prop}
theorem Inv.wish (I:Inv X pins σ H s)(E:Value->Shared->Prop):Inv (X.wish E) pins σ H s:=⟨I.ok.wish E,I.os,I.bare,I.base,I.loc,I.cell,I.free,I.freeC,I.pin,I.hok,I.len⟩
theorem Inv.unwish (I:Inv (X.wish E) pins σ H s):Inv X pins σ H s:=⟨I.ok.unwish,I.os,I.bare,I.base,I.loc,I.cell,I.free,I.freeC,I.pin,I.hok,I.len⟩
theorem SP.unwish {D:Ends}{f:Flow}{s':Shared}(h:SP (X.wish E) pins D f s'):SP X pins D f s':=by
 cases f with
 | next=>obtain⟨σ',H',I,q⟩:=h;exact⟨σ',H',I.unwish,q⟩
 | brk=>obtain⟨σ',H',I,q⟩:=h;exact⟨σ',H',I.unwish,q⟩
 | cont=>obtain⟨σ',H',I,q⟩:=h;exact⟨σ',H',I.unwish,q⟩
 | ret u=>obtain⟨v,σ',H',I,r,q⟩:=h;exact⟨v,σ',H',I.unwish,r,q⟩
theorem PSs.nox {st:List Stmt}{t:TS}(h:PSs X.nox st t):PSs X st t:=fun pins s σ H D I hw =>
 Us (h pins s σ H D (I.wish _) hw) (fun _ _ q=>q.unwish) fun _ _ z=>False.elim z
variable {st:Stmt} {rest:List Stmt} {t u:TS} {e:Expr} {te:TE} {pos:Pos}
def zQp:TS:=fun D σ H=>D.nx σ H
def zPu (t u:TS):TS:=fun D σ H=>t { D with nx:=u D } σ H
theorem zWq:PSs X [] zQp:=fun _ _ σ H _ I h=>Yb ⟨σ,H,I,h⟩
theorem zYb (h1:PS X st t)(h2:PSs X rest u):PSs X (st::rest) (zPu t u):=by
 intro pins s σ H D I h
 refine wpAny_execs_cons (thn (h1 pins s σ H { D with nx:=u D } I h) fun f s1 q=>?_)
 cases f with
 | next =>
   obtain⟨σ',H',I',q⟩:=q
   exact h2 pins s1 σ' H' D I' q
 | ret v=>exact q
 | brk=>exact q
 | cont=>exact q
theorem zSL (h1:PS X st t):PSs X [st] t:=by
 intro pins s σ H D I h
 refine wpAny_execs_cons (thn (h1 pins s σ H D I h) fun f s1 q=>?_)
 cases f with
 | next=>exact Yb q
 | ret v=>exact q
 | brk=>exact q
 | cont=>exact q
theorem Inv.quiet {pins:List (Addr×Obj)}{σ:St}{H:Hp}{s:Shared}(I:Inv X pins σ H s):interactive X.env=false:=by simp[interactive,I.ok.kind]
def zQr (te:TE):TS:=fun D σ H=>te σ H fun _ H1=>D.nx σ H1
theorem zWr (he:PE X e te)(hs:swapsWith e none pos.line X.env=pure false:=by rfl):PS X (.Expr e pos) (zQr te):=by
 intro pins s σ H D I h
 exact wpAny_Expr_any (thn (he pins s σ H _ I h) fun v s1 ⟨x,H1,I1,r1,q1⟩=>⟨σ,H1,I1,q1⟩) I.quiet hs
def zPA (te:TE):TS:=fun D σ H=>te σ H D.rt
theorem zX1 (he:PE X e te):PS X (.Return (some e) pos) (zPA te):=by
 intro pins s σ H D I h
 exact wpAny_Return_some (thn (he pins s σ H _ I h) fun v s1 ⟨x,H1,I1,r1,q1⟩=>⟨x,σ,H1,I1,r1,q1⟩)
def zPk (c:TT)(t u:TS):TS:=fun D σ H=>c σ H fun b H1=>if b=true then t D σ H1 else u D σ H1
theorem zPU {c:Expr}{a b:List Stmt}{tc:TT}(hc:PT X c tc)(ha:PSs X a t)(hb:PSs X b u):PS X (.If c a b pos) (zPk tc t u):=by
 intro pins s σ H D I h
 refine wpAny_If (thn (hc pins s σ H _ I h) fun d s1 ⟨H1,I1,q1⟩=>?_)
 cases d with
 | true=>exact ha pins s1 σ H1 D I1 q1
 | false=>exact hb pins s1 σ H1 D I1 q1
end
abbrev TG:=V->St->Hp->(St->Hp->Prop)->Prop
abbrev TGs:=List V->St->Hp->(St->Hp->Prop)->Prop
def PG (X:Cx)(target:Expr)(t:TG):Prop :=
 ∀(pins:List (Addr×Obj)) (s:Shared) (σ:St) (H:Hp) (v:V) (u:Value) (Q:St->Hp->Prop),Inv X pins σ H s->RelV v u->t v σ H Q ->
   wpAny (model X.prog X.w) X.A (assign target X.env u) (fun _ s'=>∃σ' H',Inv X pins σ' H' s'/\Q σ' H') X.xe s
def PGs (X:Cx)(ts:List Expr)(t:TGs):Prop :=
 ∀(pins:List (Addr×Obj)) (s:Shared) (σ:St) (H:Hp) (vs:List V) (us:List Value) (Q:St->Hp->Prop),Inv X pins σ H s->Vals vs us->t vs σ H Q ->
   wpAny (model X.prog X.w) X.A (assignInOrder ((assignEach ts X.env).map (·.2)) us) (fun _ s'=>∃σ' H',Inv X pins σ' H' s'/\Q σ' H') X.xe s
abbrev zRh:=V->V->V->Hp->(Hp->Prop)->Prop
def zPT (X:Cx)(t:zRh):Prop :=
 ∀(pins:List (Addr×Obj)) (s:Shared) (σ:St) (H:Hp) (o i v:V) (ov iv u:Value) (Q:Hp->Prop),Inv X pins σ H s->RelV o ov->RelV i iv->RelV v u->t o i v H Q ->
   wpAny (model X.prog X.w) X.A (setItem ov iv u) (fun _ s'=>∃H',Inv X pins σ H' s'/\Q H') X.xe s
section
variable {X:Cx} {pos:Pos}
def zYW (i:Nat):TG:=fun v σ H Q=>Q (σ.set i (some v)) H
theorem zTj {i:Nat}{x:Str}(hN:X.N.Nodup)(hi:X.N[i]?=some x)(hx:Loc X.env.scope x)(hf:X.fn x=true∨X.env.scope.names.lookup x=some .local:=by first | exact .inl rfl | exact .inr rfl | assumption):PG X (.Name x pos) (zYW i):=by
 intro pins s σ H v u Q I r h
 exact wpAny_assign_Name (zYO I hN hi hx r (fun s' I'=>⟨_,H,I',h⟩) hf)
def zP9:TGs:=fun vs σ H Q=>vs=[]/\Q σ H
def zQ1 (t:TG)(u:TGs):TGs:=fun vs σ H Q=>∃v r,vs=v::r/\t v σ H fun σ' H'=>u r σ' H' Q
theorem zSu:PGs X [] zP9:=by
 intro pins s σ H vs us Q I r h
 obtain⟨e,h⟩:=h
 subst e
 cases r
 exact assignInOrder_nil ⟨σ,H,I,h⟩
theorem zUd {e:Expr}{es:List Expr}{t:TG}{u:TGs}(h1:PG X e t)(h2:PGs X es u)
   (hs:(assignEach (e::es) X.env).map (·.2)=assign e X.env::(assignEach es X.env).map (·.2):=by rfl):PGs X (e::es) (zQ1 t u):=by
 intro pins s σ H vs us Q I r h
 obtain⟨v,vr,e1,h⟩:=h
 subst e1
 cases r with
 | cons r rr =>
   rw[hs]
   refine assignInOrder_cons (thn (h1 pins s σ H _ _ _ I r h) fun _ s1 ⟨σ1,H1,I1,q1⟩=>?_)
   exact h2 pins s1 σ1 H1 _ _ Q I1 rr q1
def zP3 (K:PySem.W.Frag)(n:Nat)(t:TGs):TG:=fun v σ H Q=>∃a xs,v = .ref a/\SqT K H a xs/\xs.length=n/\t xs σ H Q
theorem zRk {es:List Expr}{k:Nat}{t:TGs}{n:Nat}(hc:X.calm=true)(h:PGs X es t)
   (hn:(assignEach es X.env).length=n:=by rfl) (hst:(assignEach es X.env).findIdx? (·.1)=none:=by rfl):PG X (.Tuple es k pos) (zP3 X.K n t):=by
 intro pins s σ H v u Q I r hw
 obtain⟨a,xs,e1,hq,hl,hw⟩:=hw
 subst e1
 cases r
 obtain⟨its,rv,ht,hz⟩:=I.tuple hq
 refine assign_Tuple_tuple (I.ok.hd hc) ht (by simp[hn,←hl,rv.length]) hst fun h' hx=>?_
 have I1:Inv X pins σ H { s with heap:=h' }:=I.kept (t':=s.toks) fun b o e=>hx b o (Qv (Qs e)) e
 exact h pins _ σ H xs _ Q I1 (by simpa using rv) hw
def zP1 (to ti:TE)(t:zRh):TG:=fun v σ H Q=>to σ H fun o H1=>ti σ H1 fun i H2=>t o i v H2 fun H3=>Q σ H3
theorem zR0 {o i:Expr}{to ti:TE}{t:zRh}(ho:PE X o to)(hi:PE X i ti)(hs:zPT X t)
   (ha:∀v,assign (.Subscript o i pos) X.env v=(do
     let ov ←holding [v] (eval o X.env)
     let iv ←holding [v,ov] (eval i X.env)
     standAt pos
     holding [v,ov,iv] (setItem ov iv v)
     release [v,ov,iv] []):=by intro _;rfl):PG X (.Subscript o i pos) (zP1 to ti t):=by
 intro pins s σ H v u Q I r h
 rw[ha]
 refine Qw (El (thn (ho pins s σ H _ I h) fun ov s1 ⟨x,H1,I1,r1,q1⟩=>?_))
 refine Qw (El (thn (hi pins s1 σ H1 _ I1 q1) fun iv s2 ⟨y,H2,I2,r2,q2⟩=>?_))
 refine Qw (wpAny_standAt (Qw (El (thn (hs pins s2 σ H2 x y v ov iv u _ I2 r1 r2 r q2) fun _ s3 ⟨H3,I3,q3⟩=>?_))))
 exact wpAny_release ⟨σ,H3,I3,q3⟩
def zVB (te:TE)(g:TG):TS:=fun D σ H=>te σ H fun x H1=>g x σ H1 D.nx
theorem zT6 {tg e:Expr}{te:TE}{g:TG}(he:PE X e te)(hg:PG X tg g)(hs:swapsWithSole [tg] e pos.line X.env=pure false:=by rfl)(hw:swappedStores [tg] e X.env=pure none:=by rfl)
   (h1:(assignEach [tg] X.env).map (·.2)=[assign tg X.env]:=by rfl):PS X (.Assign [tg] e pos) (zVB te g):=by
 intro pins s σ H D I h
 refine wpAny_Assign_stores (thn (he pins s σ H _ I h) fun v s1 ⟨x,H1,I1,r1,q1⟩=>?_) hs hw
 rw[h1]
 exact thn (hg pins s1 σ H1 x v _ I1 r1 q1) fun _ s2 q=>q
theorem zXy {i:Nat}{x:Str}{e:Expr}{te:TE}{pos':Pos}(hN:X.N.Nodup)(hi:X.N[i]?=some x)(hx:Loc X.env.scope x)(he:PE X e te)(hs:swapsWith e (some (.Name x pos')) pos.line X.env=pure false:=by rfl)(hf:X.fn x=true∨X.env.scope.names.lookup x=some .local:=by first | exact .inl rfl | exact .inr rfl | assumption) :
   PS X (.Assign [.Name x pos'] e pos) (zVB te (zYW i)):=by
 intro pins s σ H D I h
 refine wpAny_Assign_Name (thn (he pins s σ H _ I h) fun v s1 ⟨y,H1,I1,r1,q1⟩=>?_) hs
 exact zYO I1 hN hi hx r1 (fun s2 I2=>⟨_,H1,I2,q1⟩) hf
def zR4 (c:TT)(tb:TS):TS:=fun D σ H=>∃W:Nat->St->Hp->Prop,(∃m,W m σ H)/\∀m σ H,W m σ H ->
 c σ H fun b H1=>if b=true then ∃N:St->Hp->Prop,(∀σ' H',N σ' H'->∃m',m' < m/\W m' σ' H')/\tb { D with nx:=N,ct:=N,bk:=D.nx } σ H1 else D.nx σ H1
theorem zTy {c:Expr}{body:List Stmt}{tc:TT}{tb:TS}(hp:PassesOwn (model X.prog X.w) X.A X.env X.xe)(hc:PT X c tc)(hb:PSs X body tb):PS X (.While c body [] pos) (zR4 tc tb):=by
 intro pins s σ H D I h
 obtain⟨W,⟨m0,w0⟩,turn⟩:=h
 refine wpAny_While (codeAny_whileLoop (fun n s'=>∃σ' H',Inv X pins σ' H' s'/\W n σ' H') ?_ m0 ⟨σ,H,I,w0⟩)
 rintro n s1 ⟨σ1,H1,I1,w1⟩
 refine Rs hp (thn (hc pins s1 σ1 H1 _ I1 (turn n σ1 H1 w1)) fun b s2 ⟨H2,I2,q2⟩=>?_)
 cases b with
 | true =>
   obtain⟨N,hN,q2⟩:=q2
   rw[Qc rfl]
   refine Rs hp (thn (hb pins s2 σ1 H2 _ I2 q2) fun f s3 q3=>?_)
   cases f with
   | next =>
     obtain⟨σ3,H3,I3,n3⟩:=q3
     obtain⟨m',hm,w3⟩:=hN σ3 H3 n3
     exact⟨m',hm,σ3,H3,I3,w3⟩
   | cont =>
     obtain⟨σ3,H3,I3,n3⟩:=q3
     obtain⟨m',hm,w3⟩:=hN σ3 H3 n3
     exact⟨m',hm,σ3,H3,I3,w3⟩
   | brk=>exact q3
   | ret v=>exact q3
 | false =>
   rw[Wd Qn]
   exact Yb ⟨σ1,H2,I2,q2⟩
end
structure It where
 go:Nat->Hp->Prop
 yld:Nat->Hp->V->Hp->Prop
 stop:Nat->Hp->Prop
def kT (X:Cx)(pins:List (Addr×Obj))(H:Hp)(b:Addr):Prop :=
 H b=none/\b≠X.env.locals/\b∉X.fs/\(b∈X.ex∨X.s₀.heap.objs.size<=b)/\(∀x c,X.env.cells.lookup x=some c->c≠b)/\∀p∈X.pn++pins,p.1≠b
theorem Inv.fpOk {X:Cx}{pins:List (Addr×Obj)}{σ:St}{H H':Hp}{s:Shared}{b:Addr}(I:Inv X pins σ H s)(hb:s.heap.objs.size<=b)(hn:H' b=none):kT X pins H' b:=by
 refine⟨hn,Rm (Qm I.lt hb),I.nofs hb,.inr (Wh I.sz hb),fun x c e z=>?_,fun p hp z=>?_⟩
 · obtain⟨v,q⟩:=I.cell x c e
   exact absurd (Qm q.lt (by rw[z];exact hb)) (Wv _)
 · exact absurd (Qm (Qs (I.pin p hp).1) (by rw[z];exact hb)) (Wv _)
structure Turn (P:Program)(w:World)(K:PySem.W.Frag)(tg:Expr)(J:It)(fp:List Addr)(it:Addr)(tn:Nat->Heap->Prop):Prop where
 mem:it∈fp
 obj:∀i h,tn i h->∀b∈fp,∃o,h.get? b=some o/\∀v,o.data ≠ .cell v
 keep:∀i h h',tn i h->(∀b∈fp,∀o,h.get? b=some o->h'.get? b=some o)->tn i h'
 item:∀(X:Cx),X.prog=P->X.w=w->X.K=K->X.calm=true->∀(i:Nat) (pins:List (Addr×Obj)) (s:Shared) (σ:St) (H:Hp) (E:Value->Shared->Prop),Inv X pins σ H s->(∀b∈fp,kT X pins H b)->tn i s.heap->J.go i H ->
   wpAny (model P w) X.A (pyNext (.ref it)) (fun r s1=>∃u,r=some u /\
     wpAny (model P w) X.A (letOwnedTupleGo tg (.ref it) u) (fun _ s2=>∃x H',Inv X pins σ H' s2/\RelV x u/\J.yld i H x H'/\tn (i+1) s2.heap/\∀b∈fp,H' b=none) E s1) E s
 done:∀(X:Cx),X.prog=P->X.w=w->X.K=K->X.calm=true->∀(i:Nat) (pins:List (Addr×Obj)) (s:Shared) (σ:St) (H:Hp) (E:Value->Shared->Prop),Inv X pins σ H s->(∀b∈fp,kT X pins H b)->tn i s.heap->J.stop i H ->
   wpAny (model P w) X.A (pyNext (.ref it)) (fun r s1=>r=none/\Inv X pins σ H s1) E s
 self:∀(A:Around) (i:Nat) (s:Shared) (Q:Value->Shared->Prop) (E:Value->Shared->Prop),tn i s.heap->Q (.ref it) s->wpAny (model P w) A (pyIter (.ref it)) Q E s
abbrev TI:=St->Hp->(It->Hp->Prop)->Prop
def PIE (X:Cx)(pins:List (Addr×Obj))(σ:St)(tg:Expr)(R:It->Hp->Prop)(itv:Value)(s2:Shared):Prop :=
 ∃(it:Addr) (fp:List Addr) (tn:Nat->Heap->Prop) (J:It) (H':Hp),itv = .ref it/\Inv X pins σ H' s2/\Turn X.prog X.w X.K tg J fp it tn/\tn 0 s2.heap/\(∀b∈fp,kT X pins H' b)/\R J H'
def PI (X:Cx)(tg iter:Expr)(wi:TI):Prop :=
 ∀(pins:List (Addr×Obj)) (s:Shared) (σ:St) (H:Hp) (R:It->Hp->Prop),Inv X pins σ H s->wi σ H R ->
   wpAny (model X.prog X.w) X.A (eval iter X.env) (fun v s1=>wpAny (model X.prog X.w) X.A (pyIter v) (PIE X pins σ tg R) X.xe s1) X.xe s
theorem zW7 {M:Model}{A:Around}{E:Value->Shared->Prop}{s:Shared}{tg:Expr}{it:Addr}{u:Value}{o:Obj}{n:String}{vs:Array Value}{Q:Unit->Shared->Prop}(ho:s.heap.get? it=some o)(hc:o.cls = .type n)(hd:o.data = .fields vs)
   (hn:["enumerate","zip","dict_itemiterator","dict_reverseitemiterator","odict_iterator","itertools.zip_longest","itertools.pairwise"].contains n=false) (hQ:Q () s):wpAny M A (letOwnedTupleGo tg (.ref it) u) Q E s:=by
 unfold letOwnedTupleGo
 cases tg<;>first
   | exact Qy hQ
   | (cases u<;>first
       | exact Qy hQ
       | (refine Qw (wpAny_load ho ?_)
          rw[hc,hd]
          show wpAny M A (if (["enumerate","zip","dict_itemiterator","dict_reverseitemiterator","odict_iterator","itertools.zip_longest","itertools.pairwise"].contains n&&vs[0]?==some (rawInt _))=true then _ else _) Q E s
          rw[Wd (by intro h;rw[hn,Ic] at h;cases h)]
          exact Qy hQ))
def Itl (K:PySem.W.Frag)(a:Addr):It :=
 ⟨fun i H=>∃xs x,SqL K H a xs/\xs[i]?=some x,fun i H x H'=>H'=H/\∀xs,SqL K H a xs->xs[i]?=some x,fun i H=>∃xs,SqL K H a xs/\xs.length<=i⟩
def Itt (K:PySem.W.Frag)(a:Addr):It :=
 ⟨fun i H=>∃xs x,SqT K H a xs/\xs[i]?=some x,fun i H x H'=>H'=H/\∀xs,SqT K H a xs->xs[i]?=some x,fun i H=>∃xs,SqT K H a xs/\xs.length<=i⟩
def Itr (lo:Int)(n:Nat):It:=⟨fun i _=>i < n,fun i H x H'=>H'=H/\x = .int (lo+i),fun i _=>n<=i⟩
theorem zVN {P:Program}{w:World}{K:PySem.W.Frag}{tg:Expr}(a it:Addr):Turn P w K tg (Itl K a) [it] it (fun i h=>h.IsListIter it a i) where
 mem:=by simp
 obj:=fun i h st b hb=>by
   have e:b=it:=by simpa using hb
   subst e
   obtain⟨o,e,c,d⟩:=st
   exact⟨o,e,fun v z=>by rw[d] at z;cases z⟩
 keep:=fun i h h' st k=>st.at fun o e=>k it (by simp) o e
 item:=by
   intro X hP hw hK hc i pins s σ H E I hf st hg
   subst hP hw hK
   obtain⟨xs,x,hq,hx⟩:=hg
   obtain⟨its,rv,p,hz⟩:=I.list hq
   obtain⟨u,hu,ru⟩:=rv.get hx
   obtain⟨f0,f1,f2,f3,f4,f5⟩:=hf it (by simp)
   refine wpAny_pyNext_list_item st p.isList (x:=u) (by simpa using hu) fun h' st' sb=>?_
   have I1:Inv X pins σ H { s with heap:=h' }:=I.turned (t':=s.toks) (fun b o hb e=>(sb.2 b hb).trans e) f0 f1 f3 f4 f5
   obtain⟨o,e,c,d⟩:=id st'
   exact⟨u,rfl,zW7 (s:={ s with heap:=h' }) e c d (by decide) ⟨x,H,I1,ru,⟨rfl,fun ys hy=>by rw[I.list_inj hy hq];exact hx⟩,st',fun b hb=>(hf b hb).1⟩⟩
 done:=by
   intro X hP hw hK hc i pins s σ H E I hf st hg
   subst hP hw hK
   obtain⟨xs,hq,hx⟩:=hg
   obtain⟨its,rv,p,hz⟩:=I.list hq
   obtain⟨f0,f1,f2,f3,f4,f5⟩:=hf it (by simp)
   have hl:=rv.length
   exact wpAny_pyNext_list_end (I.ok.hd hc) st p.isList (by simp;omega) fun h' eb=>⟨rfl,I.turned (t':=s.toks) (fun b o hb e=>eb b o hb e) f0 f1 f3 f4 f5⟩
 self:=fun _ _ _ _ _ st h=>wpAny_pyIter_listiter st h
theorem zXP {P:Program}{w:World}{K:PySem.W.Frag}{tg:Expr}(a it:Addr):Turn P w K tg (Itt K a) [it] it (fun i h=>h.IsTupleIter it a i) where
 mem:=by simp
 obj:=fun i h st b hb=>by
   have e:b=it:=by simpa using hb
   subst e
   obtain⟨o,e,c,d⟩:=st
   exact⟨o,e,fun v z=>by rw[d] at z;cases z⟩
 keep:=fun i h h' st k=>st.at fun o e=>k it (by simp) o e
 item:=by
   intro X hP hw hK hc i pins s σ H E I hf st hg
   subst hP hw hK
   obtain⟨xs,x,hq,hx⟩:=hg
   obtain⟨its,rv,p,hz⟩:=I.tuple hq
   obtain⟨u,hu,ru⟩:=rv.get hx
   obtain⟨f0,f1,f2,f3,f4,f5⟩:=hf it (by simp)
   refine wpAny_pyNext_tuple_item st (show s.heap.IsTuple a its.toArray from p) (x:=u) (by simpa using hu) fun h' st' sb=>?_
   have I1:Inv X pins σ H { s with heap:=h' }:=I.turned (t':=s.toks) (fun b o hb e=>(sb.2 b hb).trans e) f0 f1 f3 f4 f5
   obtain⟨o,e,c,d⟩:=id st'
   exact⟨u,rfl,zW7 (s:={ s with heap:=h' }) e c d (by decide) ⟨x,H,I1,ru,⟨rfl,fun ys hy=>by rw[I.tuple_inj hy hq];exact hx⟩,st',fun b hb=>(hf b hb).1⟩⟩
 done:=by
   intro X hP hw hK hc i pins s σ H E I hf st hg
   subst hP hw hK
   obtain⟨xs,hq,hx⟩:=hg
   obtain⟨its,rv,p,hz⟩:=I.tuple hq
   obtain⟨f0,f1,f2,f3,f4,f5⟩:=hf it (by simp)
   have hl:=rv.length
   exact wpAny_pyNext_tuple_end (I.ok.hd hc) st (show s.heap.IsTuple a its.toArray from p) (by simp;omega) fun h' eb=>⟨rfl,I.turned (t':=s.toks) (fun b o hb e=>eb b o hb e) f0 f1 f3 f4 f5⟩
 self:=fun _ _ _ _ _ st h=>wpAny_pyIter_tupleiter st h
theorem zX0 {P:Program}{w:World}{K:PySem.W.Frag}{tg:Expr}(it:Addr)(lo:Int)(n:Nat):Turn P w K tg (Itr lo n) [it] it (fun i h=>IsRangeIter h it (lo+(i:Nat)*1) ((n:Int) - (i:Nat)) 1) where
 mem:=by simp
 obj:=fun i h st b hb=>by
   have e:b=it:=by simpa using hb
   subst e
   exact⟨_,st,fun v z=>by
     have z':Data.fields _=Data.cell v:=z
     cases z'⟩
 keep:=fun i h h' st k=>k it (by simp) _ st
 item:=by
   intro X hP hw hK hc i pins s σ H E I hf st hg
   subst hP hw hK
   obtain⟨f0,f1,f2,f3,f4,f5⟩:=hf it (by simp)
   have W:=Walks.range (prog:=X.prog) (w:=X.w) (I.ok.hd hc) it lo 1 n
   refine W.item i s _ _ hg st fun v h' tk hv st' kk=>?_
   obtain⟨t,rfl⟩:=hv
   have I1:Inv X pins σ H { s with heap:=h',toks:=tk }:=I.turned (fun b o hb e=>kk b o (by simpa using hb) e) f0 f1 f3 f4 f5
   refine⟨_,rfl,zW7 (s:={ s with heap:=h',toks:=tk }) (n:="range_iterator") st' rfl rfl (by decide) ⟨.int (lo+i),H,I1,⟨t,?_⟩,⟨rfl,rfl⟩,st',fun b hb=>(hf b hb).1⟩⟩
   rw[Int.mul_one]
 done:=by
   intro X hP hw hK hc i pins s σ H E I hf st hg
   subst hP hw hK
   obtain⟨f0,f1,f2,f3,f4,f5⟩:=hf it (by simp)
   exact wpAny_pyNext_range_end (I.ok.hd hc) st (by have:n<=i:=hg;omega) fun h' eb=>⟨rfl,I.turned (t':=s.toks) (fun b o hb e=>eb b o hb e) f0 f1 f3 f4 f5⟩
 self:=fun _ _ _ _ _ st h=>wpAny_pyIter_rangeiter st h
section
variable {X:Cx} {tg:Expr}
def zPM (K:PySem.W.Frag)(tl:TE):TI:=fun σ H R=>tl σ H fun x H1=>∃a,x = .ref a/\(∃xs,SqL K H1 a xs)/\R (Itl K a) H1
def zPn (K:PySem.W.Frag)(tl:TE):TI:=fun σ H R=>tl σ H fun x H1=>∃a,x = .ref a/\(∃xs,SqT K H1 a xs)/\R (Itt K a) H1
theorem zWz {l:Expr}{tl:TE}(hl:PE X l tl):PI X tg l (zPM X.K tl):=by
 intro pins s σ H R I h
 refine thn (hl pins s σ H _ I h) fun v s1 ⟨x,H1,I1,r1,q1⟩=>?_
 obtain⟨a,e,⟨xs,hq⟩,q⟩:=q1
 subst e
 cases r1
 obtain⟨its,rv,p,hz⟩:=I1.list hq
 refine Yd p.isList ?_
 refine⟨s1.heap.objs.size,[s1.heap.objs.size],_,_,H1,rfl,I1.kept (t':=s1.toks) fun b o e=>Qr _ e,zVN a _,⟨_,Qp _ rfl,rfl,rfl⟩,fun b hb=>?_,q⟩
 have e:b=s1.heap.objs.size:=by simpa using hb
 subst e
 exact I1.fpOk (Qf _) (I1.hok.fresh (Qf _))
theorem zRn {l:Expr}{tl:TE}(hl:PE X l tl):PI X tg l (zPn X.K tl):=by
 intro pins s σ H R I h
 refine thn (hl pins s σ H _ I h) fun v s1 ⟨x,H1,I1,r1,q1⟩=>?_
 obtain⟨a,e,⟨xs,hq⟩,q⟩:=q1
 subst e
 cases r1
 obtain⟨its,rv,p,hz⟩:=I1.tuple hq
 refine Yr (show s1.heap.IsTuple a its.toArray from p) ?_
 refine⟨s1.heap.objs.size,[s1.heap.objs.size],_,_,H1,rfl,I1.kept (t':=s1.toks) fun b o e=>Qr _ e,zXP a _,⟨_,Qp _ rfl,rfl,rfl⟩,fun b hb=>?_,q⟩
 have e:b=s1.heap.objs.size:=by simpa using hb
 subst e
 exact I1.fpOk (Qf _) (I1.hok.fresh (Qf _))
theorem zTH {pins:List (Addr×Obj)}{σ:St}{H:Hp}{s:Shared}{R:It->Hp->Prop}{E:Value->Shared->Prop}{lo hi:Int}{t u v:Tok}{tk:Nat}(I:Inv X pins σ H s)(h1 : -(2^62)<=lo)(h2:lo < 2^62)(h3 : -(2^62)<=hi)(h4:hi < 2^62)
   (q:R (Itr lo (hi - lo).toNat) H):wpAny (model X.prog X.w) X.A (pyIter (.ref s.heap.objs.size)) (PIE X pins σ tg R) E { s with heap:=s.heap.push { cls:=.type "range",data:=.fields #[.int lo t,.int hi u,.int 1 v] },toks:=tk }:=by
 refine wpAny_pyIter_range (IsRange.new ..) (small_one h1 h2 h3 h4) ?_
 have I1:Inv X pins σ H { s with heap:=s.heap.push { cls:=.type "range",data:=.fields #[.int lo t,.int hi u,.int 1 v] },toks:=tk }:=I.kept fun b o e=>Qr _ e
 refine⟨(s.heap.push { cls:=.type "range",data:=.fields #[.int lo t,.int hi u,.int 1 v] }).objs.size,[(s.heap.push { cls:=.type "range",data:=.fields #[.int lo t,.int hi u,.int 1 v] }).objs.size],_,_,H,rfl,
   I1.kept (t':=tk) fun b o e=>Qr _ e,zX0 _ lo (hi - lo).toNat,?_,fun b hb=>?_,q⟩
 · have e1:lo+((0:Nat):Int)*1=lo:=by simp
   have e2:(((hi - lo).toNat:Nat):Int) - ((0:Nat):Int)=Builtin.Range.rangeSize lo hi 1:=by rw[rangeSize_one];split<;>omega
   show IsRangeIter _ _ (lo+((0:Nat):Int)*1) ((((hi - lo).toNat:Nat):Int) - ((0:Nat):Int)) 1
   rw[e1,e2]
   exact Qp _ rfl
 · have e:b=(s.heap.push { cls:=.type "range",data:=.fields #[.int lo t,.int hi u,.int 1 v] }).objs.size:=by simpa using hb
   subst e
   exact I1.fpOk (Qf _) (I1.hok.fresh (Qf _))
def zQd (ta:TA):TI:=fun σ H R=>ta σ H fun vs H1=>∃j:Int,vs=[.int j] /\ -(2^62)<=j/\j < 2^62/\R (Itr 0 j.toNat) H1
theorem zVI {a:Expr}{ta:TA}{p pos:Pos}(hg:Gl X "range")(hm:X.mg "range"=none)(ha:PA X [a] ta)(hs:starEach [a] X.env=[(false,eval a X.env)]:=by rfl):PI X tg (.Call (.Name "range" p) [a] [] pos) (zQd ta):=by
 intro pins s σ H R I h
 refine Call_ (pX I hg hm boot_range (Wx (thn (ha pos pins s σ H _ I h) fun us s1 ⟨vs,H1,I1,r1,q1⟩=>?_) hs rfl))
 obtain⟨j,e,q1,q2,q⟩:=q1
 subst e
 cases r1 with
 | cons r rr =>
   cases rr
   obtain⟨t,rfl⟩:=r
   exact call_range_1 (zTH I1 (by omega) (by omega) q1 q2 (by simpa using q))
def zPi (wi:TI)(g:TG)(tb:TS):TS:=fun D σ H=>wi σ H fun J H1=>∃W:Nat->Nat->St->Hp->Prop,(∃m,W 0 m σ H1)/\∀i m σ H,W i m σ H ->
 (J.stop i H/\D.nx σ H)∨(J.go i H/\∃N:St->Hp->Prop,(∀σ' H',N σ' H'->∃m',m' < m/\W (i+1) m' σ' H')/\∀x H',J.yld i H x H'->g x σ H' fun σ2 H2=>tb { D with nx:=N,ct:=N,bk:=D.nx } σ2 H2)
def fW (fp:List Addr)(h:Heap):List (Addr×Obj):=fp.filterMap fun b=>(h.get? b).map fun o=>(b,o)
theorem oZ {fp:List Addr}{h:Heap}{b:Addr}{o:Obj}(hb:b∈fp)(e:h.get? b=some o):(b,o)∈fW fp h:=List.mem_filterMap.mpr ⟨b,hb,by rw[e];rfl⟩
theorem zVM {fp:List Addr}{h:Heap}{p:Addr×Obj}(hp:p∈fW fp h):p.1∈fp/\h.get? p.1=some p.2:=by
 obtain⟨b,hb,e⟩:=List.mem_filterMap.mp hp
 cases q:h.get? b with
 | none=>rw[q] at e;cases e
 | some o =>
   rw[q] at e
   have e':(b,o)=p:=Wk e
   subst e'
   exact⟨hb,q⟩
theorem Inv.pinned {pins:List (Addr×Obj)}{σ:St}{H:Hp}{s:Shared}{fp:List Addr}(I:Inv X pins σ H s)(hf:∀b∈fp,kT X pins H b)(ho:∀b∈fp,∃o,s.heap.get? b=some o/\∀v,o.data ≠ .cell v):Inv X (pins++fW fp s.heap) σ H s :=
 I.pins_of fun p hp=>(Tx.mp hp).elim (fun z=>I.pin p (Wj _ z)) fun z=>by
   obtain⟨hb,e⟩:=zVM z
   obtain⟨f0,f1,f2,_⟩:=hf p.1 hb
   obtain⟨o,e',d⟩:=ho p.1 hb
   rw[e] at e';cases e'
   exact⟨e,f0,f1,f2,d⟩
theorem Inv.unpinned {pins pl:List (Addr×Obj)}{σ:St}{H:Hp}{s:Shared}(I:Inv X (pins++pl) σ H s):Inv X pins σ H s:=I.pins_of fun p hp=>I.pin p (Wj _ (List.mem_append_left _ hp))
theorem zRv {iter:Expr}{body:List Stmt}{wi:TI}{g:TG}{tb:TS}{pos:Pos}(hp:PassesOwn (model X.prog X.w) X.A X.env X.xe)(hc:X.calm=true)(hi:PI X tg iter wi)(hg:PG X tg g)(hb:PSs X body tb)
   (hs:∀x,foldedSetIterable iter X.env x=pure x:=by intro _;rfl):PS X (.For tg iter body [] pos) (zPi wi g tb):=by
 intro pins s σ H D I h
 refine wpAny_For (thn (hi pins s σ H _ I h) fun v s1 h1=>thn h1 fun itv s2 h2=>?_) hs
 obtain⟨it,fp,tn,J,H2,e,I2,T,st2,f2,W,⟨m0,w0⟩,turn⟩:=h2
 subst e
 -- what stays true of the iterator's objects through the loop
 have stat:∀ {H':Hp},(∀b∈fp,H' b=none)->∀b∈fp,kT X pins H' b:=fun hn b hb=>⟨hn b hb,(f2 b hb).2⟩
 refine codeAny_forLoop_any (fun n s'=>∃i σ' H',Inv X pins σ' H' s'/\tn i s'.heap/\(∀b∈fp,H' b=none)/\W i n σ' H') ?_ m0 ⟨0,σ,H2,I2,st2,fun b hb=>(f2 b hb).1,w0⟩
 rintro n s3 ⟨i,σ3,H3,I3,st3,fr3,w3⟩
 rcases turn i n σ3 H3 w3 with⟨stop,qn⟩ | ⟨go,N,hN,step⟩
 · refine Rs hp (thn (T.done X rfl rfl rfl hc i pins s3 σ3 H3 X.xe I3 (stat fr3) st3 stop) fun r s4 ⟨hr,I4⟩=>?_)
   subst hr
   exact Yb ⟨σ3,H3,I4,qn⟩
 · refine Rs hp (thn (T.item X rfl rfl rfl hc i pins s3 σ3 H3 X.xe I3 (stat fr3) st3 go) fun r s4 ⟨u,hr,h4⟩=>?_)
   subst hr
   refine Rs hp (thn h4 fun _ s5 ⟨x,H5,I5,r5,y5,st5,fr5⟩=>?_)
   have I5':=I5.pinned (stat fr5) (T.obj _ _ st5)
   refine Rs hp (thn (hg _ s5 σ3 H5 x u _ I5' r5 (step x H5 y5)) fun _ s6 ⟨σ6,H6,I6,q6⟩=>?_)
   refine Rs hp (thn (hb _ s6 σ6 H6 _ I6 q6) fun f s7 q7=>?_)
   have again:∀ {σ7:St} {H7:Hp},Inv X (pins++fW fp s5.heap) σ7 H7 s7->N σ7 H7->∃m,m < n/\∃i σ' H',Inv X pins σ' H' s7/\tn i s7.heap/\(∀b∈fp,H' b=none)/\W i m σ' H':=fun {σ7 H7} I7 n7=>by
     obtain⟨m',hm,w7⟩:=hN σ7 H7 n7
     refine⟨m',hm,i+1,σ7,H7,I7.unpinned,T.keep _ _ _ st5 fun b hb o e=>(I7.pin (b,o) (Wj _ (Wj _ (oZ hb e)))).1,fun b hb=>?_,w7⟩
     obtain⟨o,e,d⟩:=T.obj _ _ st5 b hb
     exact(I7.pin (b,o) (Wj _ (Wj _ (oZ hb e)))).2.1
   cases f with
   | next=>obtain⟨σ7,H7,I7,n7⟩:=q7;exact again I7 n7
   | cont=>obtain⟨σ7,H7,I7,n7⟩:=q7;exact again I7 n7
   | brk=>obtain⟨σ7,H7,I7,q7⟩:=q7;exact⟨σ7,H7,I7.unpinned,q7⟩
   | ret v=>obtain⟨x7,σ7,H7,I7,r7,q7⟩:=q7;exact⟨x7,σ7,H7,I7.unpinned,r7,q7⟩
end
abbrev R2:=V->V->Hp->VK->Prop
def OpR (X:Cx)(f:Value->Value->Sem Value)(r:R2):Prop :=
 ∀(pins:List (Addr×Obj)) (s:Shared) (σ:St) (H:Hp) (x y:V) (v u:Value) (Q:VK),Inv X pins σ H s->RelV x v->RelV y u->r x y H Q ->
   wpAny (model X.prog X.w) X.A (f v u) (EP X pins σ Q) X.xe s
def UnR (X:Cx)(f:Value->Sem Value)(r:V->Hp->VK->Prop):Prop :=
 ∀(pins:List (Addr×Obj)) (s:Shared) (σ:St) (H:Hp) (x:V) (v:Value) (Q:VK),Inv X pins σ H s->RelV x v->r x H Q ->
   wpAny (model X.prog X.w) X.A (f v) (EP X pins σ Q) X.xe s
def CallR (X:Cx)(f:Value)(r:List V->Hp->VK->Prop):Prop :=
 ∀(pins:List (Addr×Obj)) (s:Shared) (σ:St) (H:Hp) (xs:List V) (us:List Value) (Q:VK),Inv X pins σ H s->Vals xs us->r xs H Q ->
   wpAny (model X.prog X.w) X.A (call f us) (EP X pins σ Q) X.xe s
def tOp (r:R2)(ta tb:TE):TE:=fun σ H Q=>ta σ H fun x H1=>tb σ H1 fun y H2=>r x y H2 Q
def tUn (r:V->Hp->VK->Prop)(ta:TE):TE:=fun σ H Q=>ta σ H fun x H1=>r x H1 Q
def rI (C:Int->Int->Prop)(g:Int->Int->V):R2:=fun x y H Q=>∃i j,x = .int i/\y = .int j/\C i j/\Q (g i j) H
def rI0 (g:Int->Int->V):R2:=fun x y H Q=>∃i j,x = .int i/\y = .int j/\Q (g i j) H
def rU (g:Int->V):V->Hp->VK->Prop:=fun x H Q=>∃i,x = .int i/\Q (g i) H
section
variable {X:Cx} {a b:Expr} {ta tb:TE} {pos:Pos}
theorem zRW (ha:PE X a ta)(hb:PE X b tb){pins:List (Addr×Obj)}{s:Shared}{σ:St}{H:Hp}{R:V->V->Hp->Prop}(I:Inv X pins σ H s)
   (h:ta σ H fun x H1=>tb σ H1 fun y H2=>R x y H2) {Q:Value->Shared->Prop} {f:Value->Value->Sem Value}
   (hf:∀v u s2 x y H2,Inv X pins σ H2 s2->RelV x v->RelV y u->R x y H2->wpAny (model X.prog X.w) X.A (f v u) Q X.xe s2) :
   wpAny (model X.prog X.w) X.A (eval a X.env) (fun v s₁=>wpAny (model X.prog X.w) X.A (eval b X.env) (fun u s₂=>wpAny (model X.prog X.w) X.A (f v u) Q X.xe s₂) X.xe s₁) X.xe s:=by
 refine thn (ha pins s σ H _ I h) fun v s1 ⟨x,H1,I1,r1,q1⟩=>?_
 refine thn (hb pins s1 σ H1 _ I1 q1) fun u s2 ⟨y,H2,I2,r2,q2⟩=>?_
 exact hf v u s2 x y H2 I2 r1 r2 q2
theorem dI {op:Operator}{r:R2}(ho:OpR X (binaryOp op) r)(ha:PE X a ta)(hb:PE X b tb):PE X (.BinOp a op b pos) (tOp r ta tb):=by
 intro pins s σ H Q I h
 exact wpAny_BinOp (zRW ha hb I h fun v u s2 x y H2 I2 rx ry q=>ho pins s2 σ H2 x y v u Q I2 rx ry q)
theorem zPV {op:UnaryOp}{r:V->Hp->VK->Prop}(ho:UnR X (unaryOp op) r)(ha:PE X a ta):PE X (.UnaryOp op a pos) (tUn r ta):=by
 intro pins s σ H Q I h
 exact UnaryOp_ (thn (ha pins s σ H _ I h) fun v s1 ⟨x,H1,I1,r1,q1⟩=>ho pins s1 σ H1 x v Q I1 r1 q1)
theorem opI {f:Value->Value->Sem Value}{C:Int->Int->Prop}{g:Int->Int->Int}
   (rule:∀(i j:Int) (t u:Tok) (s:Shared) (Q:Value->Shared->Prop) (E:Value->Shared->Prop),C i j->Q (.int (g i j) s.toks) { s with toks:=s.toks+1 }->wpAny (model X.prog X.w) X.A (f (.int i t) (.int j u)) Q E s) :
   OpR X f (rI C fun i j=>.int (g i j)):=by
 intro pins s σ H x y v u Q I rx ry h
 obtain⟨i,j,rfl,rfl,hc,q⟩:=h
 obtain⟨t,rfl⟩:=rx
 obtain⟨t',rfl⟩:=ry
 exact rule i j t t' s _ _ hc ⟨.int (g i j),H,I.tok _,⟨_,rfl⟩,q⟩
theorem zR5 {f:Value->Value->Sem Value}{g:Int->Int->Int}
   (rule:∀(i j:Int) (t u:Tok) (s:Shared) (Q:Value->Shared->Prop) (E:Value->Shared->Prop),Q (.int (g i j) s.toks) { s with toks:=s.toks+1 }->wpAny (model X.prog X.w) X.A (f (.int i t) (.int j u)) Q E s) :
   OpR X f (rI0 fun i j=>.int (g i j)):=by
 intro pins s σ H x y v u Q I rx ry h
 obtain⟨i,j,rfl,rfl,q⟩:=h
 obtain⟨t,rfl⟩:=rx
 obtain⟨t',rfl⟩:=ry
 exact rule i j t t' s _ _ ⟨.int (g i j),H,I.tok _,⟨_,rfl⟩,q⟩
theorem zQJ {f:Value->Value->Sem Value}{g:Int->Int->Bool}
   (rule:∀(i j:Int) (t u:Tok) (s:Shared) (Q:Value->Shared->Prop) (E:Value->Shared->Prop),Q (.bool (g i j)) s->wpAny (model X.prog X.w) X.A (f (.int i t) (.int j u)) Q E s) :
   OpR X f (rI0 fun i j=>.bl (g i j)):=by
 intro pins s σ H x y v u Q I rx ry h
 obtain⟨i,j,rfl,rfl,q⟩:=h
 obtain⟨t,rfl⟩:=rx
 obtain⟨t',rfl⟩:=ry
 exact rule i j t t' s _ _ ⟨.bl (g i j),H,I,rfl,q⟩
def zPw (i j:Int):Prop:=0 < j/\j < 1073741824
def zPZ (i j:Int):Prop:=0<=j/\j<=1000000/\i.natAbs < 2^64
def CMul (i j:Int):Prop:=(-(2^64) < i/\i < 2^64)∨(-(2^64) < j/\j < 2^64)
theorem CMul.ok {i j:Int}(h:CMul i j):IntMulOk i j:=by
 rcases h with⟨h1,h2⟩ | ⟨h1,h2⟩
 · exact .of_left (intBits_le_64 h1 h2)
 · exact .of_right (intBits_le_64 h1 h2)
theorem zR9:OpR X (binaryOp .Add) (rI0 fun i j=>.int (i+j)):=zR5 fun _ _ _ _ _ _ _ q=>add_int q
theorem zRC:OpR X (binaryOp .Sub) (rI0 fun i j=>.int (i - j)):=zR5 fun _ _ _ _ _ _ _ q=>sub_int q
theorem zR2:OpR X (binaryOp .Mult) (rI CMul fun i j=>.int (i*j)):=opI fun _ _ _ _ _ _ _ hc q=>mul_int q hc.ok
theorem zSA:OpR X (binaryOp .FloorDiv) (rI zPw fun i j=>.int (i / j)):=opI fun i j _ _ _ _ _ hc q=>by
 have h1:(0:Int) < j:=hc.1
 have h2:j < 1073741824:=hc.2
 exact floordiv_int (by omega) (by rw[Il i (by omega)];exact q) (.inl (PyProof.noPylong_small (by omega)))
theorem zRf:OpR X (binaryOp .Mod) (rI (fun _ j=>0 < j) fun i j=>.int (i % j)):=opI fun i j _ _ _ _ _ hc q=>by
 have h1:(0:Int) < j:=hc
 exact mod_int' (by omega) (by rw[Int.fmod_eq_emod_of_nonneg i (by omega)];exact q)
theorem zQ5:OpR X (binaryOp .Pow) (rI zPZ fun i j=>.int (i^j.toNat)):=opI fun _ _ _ _ _ _ _ hc q=>pow_int_small hc.1 hc.2.1 hc.2.2 q
theorem zRJ:OpR X (binaryOp .BitXor) (rI0 fun i j=>.int (Builtin.bitXor i j)):=zR5 fun _ _ _ _ _ _ _ q=>xor_int q
theorem unI {f:Value->Sem Value}{g:Int->Int}
   (rule:∀(i:Int) (t:Tok) (s:Shared) (Q:Value->Shared->Prop) (E:Value->Shared->Prop),Q (.int (g i) s.toks) { s with toks:=s.toks+1 }->wpAny (model X.prog X.w) X.A (f (.int i t)) Q E s) :
   UnR X f (rU fun i=>.int (g i)):=by
 intro pins s σ H x v Q I rx h
 obtain⟨i,rfl,q⟩:=h
 obtain⟨t,rfl⟩:=rx
 exact rule i t s _ _ ⟨.int (g i),H,I.tok _,⟨_,rfl⟩,q⟩
theorem zRu:UnR X (unaryOp .USub) (rU fun i=>.int (-i)):=unI fun _ _ _ _ _ q=>neg_int q
def zRw:V->V->Bool
 | .non,.non=>true | .non,.int _=>true | .int _,.non=>true | .non,.bl _=>true | .bl _,.non=>true | .non,.str _=>true | .str _,.non=>true
 | .int _,.int _=>true | .bl _,.bl _=>true | .str _,.str _=>true | .byt _,.byt _=>true
 | .int _,.str _=>true | .str _,.int _=>true | .bl _,.str _=>true | .str _,.bl _=>true
 | _,_=>false
def rEq:R2:=fun x y H Q=>zRw x y=true/\Q (.bl (decide (x=y))) H
def rNe:R2:=fun x y H Q=>zRw x y=true/\Q (.bl (!decide (x=y))) H
theorem zWD {i j:Int}:decide (V.int i=V.int j)=(i==j):=by
 rw[Tv]
 simp
theorem zZ3 {i j:Bool}:decide (V.bl i=V.bl j)=(i==j):=by
 rw[Tv]
 simp
theorem zWp {i j:Str}:decide (V.str i=V.str j)=(i==j):=by
 rw[Tv]
 simp
theorem zWF {i j:Array UInt8}:decide (V.byt i=V.byt j)=(i.toList==j.toList):=by
 rw[Tv]
 cases i
 cases j
 simp
variable {c:Expr} {tc:TE}
theorem yT {pins:List (Addr×Obj)}{σ:St}{H:Hp}{s:Shared}{Q:VK}{k k':Bool}(I:Inv X pins σ H s)(q:Q (.bl k) H)(e:k=k'):EP X pins σ Q (.bool k') s:=by
 subst e
 exact⟨.bl k,H,I,rfl,q⟩
theorem zQi:OpR X (compareOp .Eq) rEq:=by
 intro pins s σ H x y v u Q I rx ry h
 obtain⟨hs,q⟩:=h
 cases x with
 | non =>
   cases rx
   cases y with
   | non=>cases ry;exact PySem.EqNone.eq_none_none (yT I q (by simp))
   | bl j=>cases ry;exact PySem.EqNone.eq_none_bool (yT I q (by simp))
   | int j=>obtain⟨t',rfl⟩:=ry;exact PySem.EqNone.eq_none_int (yT I q (by simp))
   | str j=>obtain⟨t',rfl⟩:=ry;exact PySem.EqNone.eq_none_str (yT I q (by simp))
   | _=>exact absurd (show false=true from hs) Qn
 | bl i =>
   cases rx
   cases y with
   | non=>cases ry;exact PySem.EqNone.eq_bool_none (yT I q (by simp))
   | bl j=>cases ry;exact eq_bool (yT I q zZ3)
   | str j=>obtain⟨t',rfl⟩:=ry;exact PySem.EqMixed.eq_bool_str (yT I q (by simp))
   | _=>exact absurd (show false=true from hs) Qn
 | int i =>
   obtain⟨t,rfl⟩:=rx
   cases y with
   | non=>cases ry;exact PySem.EqNone.eq_int_none (yT I q (by simp))
   | int j=>obtain⟨t',rfl⟩:=ry;exact eq_int (yT I q zWD)
   | str j=>obtain⟨t',rfl⟩:=ry;exact PySem.EqMixed.eq_int_str (yT I q (by simp))
   | _=>exact absurd (show false=true from hs) Qn
 | str i =>
   obtain⟨t,rfl⟩:=rx
   cases y with
   | non=>cases ry;exact PySem.EqNone.eq_str_none (yT I q (by simp))
   | bl j=>cases ry;exact PySem.EqMixed.eq_str_bool (yT I q (by simp))
   | int j=>obtain⟨t',rfl⟩:=ry;exact PySem.EqMixed.eq_str_int (yT I q (by simp))
   | str j=>obtain⟨t',rfl⟩:=ry;exact eq_str (yT I q zWp)
   | _=>exact absurd (show false=true from hs) Qn
 | byt i =>
   obtain⟨t,rfl⟩:=rx
   cases y with
   | byt j=>obtain⟨t',rfl⟩:=ry;exact PySem.W.eq_bytes (yT I q zWF)
   | _=>exact absurd (show false=true from hs) Qn
 | _=>cases y<;>exact absurd (show false=true from hs) Qn
theorem zPR:OpR X (compareOp .NotEq) rNe:=by
 intro pins s σ H x y v u Q I rx ry h
 obtain⟨hs,q⟩:=h
 cases x with
 | non =>
   cases rx
   cases y with
   | non=>cases ry;exact PySem.EqNone.ne_none_none (yT I q (by simp))
   | bl j=>cases ry;exact PySem.EqNone.ne_none_bool (yT I q (by simp))
   | int j=>obtain⟨t',rfl⟩:=ry;exact PySem.EqNone.ne_none_int (yT I q (by simp))
   | str j=>obtain⟨t',rfl⟩:=ry;exact PySem.EqNone.ne_none_str (yT I q (by simp))
   | _=>exact absurd (show false=true from hs) Qn
 | bl i =>
   cases rx
   cases y with
   | non=>cases ry;exact PySem.EqNone.ne_bool_none (yT I q (by simp))
   | bl j=>cases ry;exact ne_bool (yT I q (Ea not zZ3))
   | str j=>obtain⟨t',rfl⟩:=ry;exact PySem.EqMixed.ne_bool_str (yT I q (by simp))
   | _=>exact absurd (show false=true from hs) Qn
 | int i =>
   obtain⟨t,rfl⟩:=rx
   cases y with
   | non=>cases ry;exact PySem.EqNone.ne_int_none (yT I q (by simp))
   | int j=>obtain⟨t',rfl⟩:=ry;exact ne_int (yT I q (Ea not zWD))
   | str j=>obtain⟨t',rfl⟩:=ry;exact PySem.EqMixed.ne_int_str (yT I q (by simp))
   | _=>exact absurd (show false=true from hs) Qn
 | str i =>
   obtain⟨t,rfl⟩:=rx
   cases y with
   | non=>cases ry;exact PySem.EqNone.ne_str_none (yT I q (by simp))
   | bl j=>cases ry;exact PySem.EqMixed.ne_str_bool (yT I q (by simp))
   | int j=>obtain⟨t',rfl⟩:=ry;exact PySem.EqMixed.ne_str_int (yT I q (by simp))
   | str j=>obtain⟨t',rfl⟩:=ry;exact ne_str (yT I q (Ea not zWp))
   | _=>exact absurd (show false=true from hs) Qn
 | byt i =>
   obtain⟨t,rfl⟩:=rx
   cases y with
   | byt j=>obtain⟨t',rfl⟩:=ry;exact PySem.W.ne_bytes (yT I q (Ea not zWF))
   | _=>exact absurd (show false=true from hs) Qn
 | _=>cases y<;>exact absurd (show false=true from hs) Qn
theorem zPI:OpR X (compareOp .Lt) (rI0 fun i j=>.bl (decide (i < j))):=zQJ fun _ _ _ _ _ _ _ q=>lt_int q
theorem zQy:OpR X (compareOp .LtE) (rI0 fun i j=>.bl (decide (i<=j))):=zQJ fun _ _ _ _ _ _ _ q=>le_int q
theorem zPW:OpR X (compareOp .Gt) (rI0 fun i j=>.bl (decide (j < i))):=zQJ fun _ _ _ _ _ _ _ q=>gt_int q
theorem zQ7:OpR X (compareOp .Is) (fun x y H Q=>y = .non/\Q (.bl (decide (x = .non))) H):=by
 intro pins s σ H x y v u Q I rx ry h
 obtain⟨rfl,q⟩:=h
 cases ry
 refine is_none_gen (yT I q ?_)
 cases x<;>first
   | (cases rx;rfl)
   | (obtain⟨t,rfl⟩:=rx;rfl)
theorem OpR.or {f:Value->Value->Sem Value}{r r':R2}(h:OpR X f r)(h':OpR X f r'):OpR X f (fun x y H Q=>r x y H Q∨r' x y H Q):=by
 intro pins s σ H x y v u Q I rx ry q
 rcases q with q | q
 · exact h pins s σ H x y v u Q I rx ry q
 · exact h' pins s σ H x y v u Q I rx ry q
theorem zX2 (b:Expr){op:CmpOp}(h:op ≠ .In:=by decide)(h2:op ≠ .NotIn:=by decide):behindInMarks op b=false:=by
 have e1:(op==CmpOp.In)=false:=by cases op<;>first | rfl | exact absurd rfl h
 have e2:(op==CmpOp.NotIn)=false:=by cases op<;>first | rfl | exact absurd rfl h2
 cases b<;>simp[behindInMarks,e1,e2]
theorem zSZ {op:CmpOp}{r:R2}(ho:OpR X (compareOp op) r)(ha:PE X a ta)(hb:PE X b tb)(hm:behindInMarks op b=false):PE X (.Compare a [op] [b] pos) (tOp r ta tb):=by
 intro pins s σ H Q I h
 exact wpAny_Compare1 (zRW ha hb I h fun v u s2 x y H2 I2 rx ry q=>ho pins s2 σ H2 x y v u Q I2 rx ry q) hm
def zSl (t:TE):TT:=fun σ H Q=>t σ H fun x H'=>∃k,x = .bl k/\Q k H'
theorem zWg {op:CmpOp}{r:R2}(ho:OpR X (compareOp op) r)(ha:PE X a ta)(hb:PE X b tb)(hm:behindInMarks op b=false):PT X (.Compare a [op] [b] pos) (zSl (tOp r ta tb)):=by
 intro pins s σ H Q I h
 refine wpAny_isTrue_Compare1 (thn (ha pins s σ H _ I h) fun v s1 ⟨x,H1,I1,r1,q1⟩=>thn (hb pins s1 σ H1 _ I1 q1) fun u s2 ⟨y,H2,I2,r2,q2⟩ =>
   thn (ho pins s2 σ H2 x y v u _ I2 r1 r2 q2) fun c s3 ⟨z,H3,I3,r3,k,e,q3⟩=>?_) hm
 subst e
 cases r3
 exact Ec ⟨H3,I3,q3⟩
def zUu (r r':R2)(ta tb tc:TE):TE:=fun σ H Q=>ta σ H fun x H1=>tb σ H1 fun y H2=>r x y H2 fun z H3=>∃k,z = .bl k /\
 (if k=true then tc σ H3 fun w' H4=>r' y w' H4 Q else Q (.bl false) H3)
theorem zTQ {op op':CmpOp}{r r':R2}(ho:OpR X (compareOp op) r)(ho':OpR X (compareOp op') r')(ha:PE X a ta)(hb:PE X b tb)(hc:PE X c tc)
   (hm:lastMarks [op,op'] [b,c]=false:=by with_unfolding_all rfl):PE X (.Compare a [op,op'] [b,c] pos) (zUu r r' ta tb tc):=by
 intro pins s σ H Q I h
 refine Compare_chain (thn (ha pins s σ H _ I h) fun v s1 ⟨x,H1,I1,r1,q1⟩=>chain_link (thn (hb pins s1 σ H1 _ I1 q1) fun u s2 ⟨y,H2,I2,r2,q2⟩ =>
   thn (ho pins s2 σ H2 x y v u _ I2 r1 r2 q2) fun d s3 ⟨z,H3,I3,r3,k,e,q3⟩=>?_)) hm
 subst e
 cases r3
 refine Ec ?_
 cases k with
 | false=>exact ite_ff ⟨.bl false,H3,I3,rfl,q3⟩
 | true=>exact ite_tt (chain_last (thn (hc pins s3 σ H3 _ I3 q3) fun w' s4 ⟨z',H4,I4,r4,q4⟩=>ho' pins s4 σ H4 y z' u w' Q I4 r2 r4 q4))
theorem zUO {op op':CmpOp}{r r':R2}(ho:OpR X (compareOp op) r)(ho':OpR X (compareOp op') r')(ha:PE X a ta)(hb:PE X b tb)(hc:PE X c tc)
   (hm:lastMarks [op,op'] [b,c]=false:=by with_unfolding_all rfl):PT X (.Compare a [op,op'] [b,c] pos) (zSl (zUu r r' ta tb tc)):=by
 intro pins s σ H Q I h
 refine isTrue_chain (thn (ha pins s σ H _ I h) fun v s1 ⟨x,H1,I1,r1,q1⟩=>test_link (thn (hb pins s1 σ H1 _ I1 q1) fun u s2 ⟨y,H2,I2,r2,q2⟩ =>
   thn (ho pins s2 σ H2 x y v u _ I2 r1 r2 q2) fun d s3 ⟨z,H3,I3,r3,k,e,q3⟩=>?_)) hm
 subst e
 cases r3
 refine Ec ?_
 cases k with
 | false =>
   obtain⟨k',e',q'⟩:=q3
   cases e'
   exact ite_ff ⟨H3,I3,q'⟩
 | true =>
   refine ite_tt (test_last (thn (hc pins s3 σ H3 _ I3 q3) fun w' s4 ⟨z',H4,I4,r4,q4⟩=>thn (ho' pins s4 σ H4 y z' u w' _ I4 r2 r4 q4) fun d' s5 ⟨z2,H5,I5,r5,k2,e2,q5⟩=>?_))
   subst e2
   cases r5
   exact Ec ⟨H5,I5,q5⟩
theorem iJ:(sizeLine:Nat) < 2^63:=by rw[sizeLine_eq];decide
theorem rF {x:V}{us:List Value}(r:Vals [x] us):∃u,us=[u]/\RelV x u:=by
 cases r with
 | cons r1 r2=>cases r2;exact⟨_,rfl,r1⟩
theorem zSa {x y:V}{us:List Value}(r:Vals [x,y] us):∃u w',us=[u,w']/\RelV x u/\RelV y w':=by
 cases r with
 | cons r1 r2 =>
   cases r2 with
   | cons r3 r4=>cases r4;exact⟨_,_,rfl,r1,r3⟩
theorem zVZ:CallR X (.type "int") (fun xs H Q=>(∃i,xs=[.int i]/\Q (.int i) H)∨∃k,xs=[.bl k]/\Q (.int (if k then 1 else 0)) H):=by
 intro pins s σ H xs us Q I r h
 rcases h with⟨i,rfl,q⟩ | ⟨k,rfl,q⟩
 · obtain⟨u,rfl,t,rfl⟩:=rF r
   exact call_int_int ⟨.int i,H,I,⟨_,rfl⟩,q⟩
 · obtain⟨u,rfl,r1⟩:=rF r
   cases r1
   exact call_int_bool ⟨.int (if k then 1 else 0),H,I.tok _,⟨_,rfl⟩,q⟩
end
structure ObjM (h:Heap)(x dx C:Addr)(mA:Str->Option Value):Prop where
 obj:h.get? x=some (PySem.W.instObj C dx)
 ns:h.Ns1 dx mA
 ne:dx≠x
theorem zVj {h:Heap}{dx:Addr}{mA:Str->Option Value}(n:h.Ns1 dx mA):∃od,h.get? dx=some od/\∀name,PySem.W.lookIn name od=some (mA name):=by
 obtain⟨o,es,ep,ho,hd,hk,_,hm⟩:=n
 refine⟨o,ho,fun name=>?_⟩
 have e:=hm name
 unfold nsFind findBy at e
 rw[←Array.find?_toList] at e
 unfold PySem.W.lookIn
 rw[hd]
 dsimp only
 split
 · rename_i y q
   rw[q] at e
   exact Ea some e
 · rename_i q
   rw[q] at e
   have a:es.toList.any (·.refKey)=false:=by
     rw[List.any_eq_false]
     intro y hy
     obtain⟨z,t,hkey⟩:=hk y (Array.mem_toList_iff.mp hy)
     simp[DictEntry.refKey,hkey]
   have a':¬es.toList.any (·.refKey)=true:=by rw[a];exact Qn
   rw[Wd a']
   exact Ea some e
theorem ObjM.look {h:Heap}{x dx C:Addr}{mA:Str->Option Value}(I:ObjM h x dx C mA):∃od,PySem.W.InstAt h x (PySem.W.instObj C dx) C (some od)/\∀name,PySem.W.lookIn name od=some (mA name) :=
 let ⟨od,ho,hl⟩:=zVj I.ns
 ⟨od,⟨I.obj,rfl,rfl,ho⟩,hl⟩
section
variable {prog:Program} {w:World} {A:Around} {E:Value->Shared->Prop} {s:Shared} {K:PySem.W.Frag} {x dx C f:Addr} {mA:Str->Option Value} {name:Str} {v:Value}
theorem zTf {expr:Bool}{Q:Value->Shared->Prop}(X:K.In s.heap)(I:ObjM s.heap x dx C mA)(hg:PySem.W.plainGet K C name=true)(hh:PySem.W.hasDictIn K C=true)
   (ha:PySem.W.findIn K (.ref C) name=some none) (hv:mA name=some v) (hv':PySem.W.handedIn v=true) (h:Q v { s with toks:=s.toks+1 }) :
   wpAny (model prog w) A (getAttr (.ref x) name expr) Q E s:=by
 obtain⟨od,J,hl⟩:=I.look
 exact PySem.W.get_value X J (PySem.W.plainGet_of hg).1 (PySem.W.findObj_own hh ha rfl (by rw[hl,hv])) hv' h
theorem zSp {ns:List Str}{Q:Unit->Shared->Prop}(X:K.In s.heap)(I:ObjM s.heap x dx C mA)
   (hs:PySem.W.findIn K (.ref C) "__setattr__"=some (some (.builtin "object.__setattr__"))) (hp:PySem.W.plainOver K C=true) (ht:PySem.W.takerIn K C name=some none) (hh:PySem.W.hasDictIn K C=true)
   (hw:PySem.Within mA ns) (hsz:ns.length<=sizeLine)
   (h:∀h',ObjM h' x dx C (fun y=>if y=name then some v else mA y)->Heap.SameBut dx s.heap h'->Q () { s with heap:=h',toks:=s.toks+2 }) :
   wpAny (model prog w) A (setAttr (.ref x) name v) Q E s:=by
 obtain⟨od,J,hl⟩:=I.look
 refine PySem.W.set_plain X J hs (PySem.W.osa_open (s:={ s with toks:=s.toks+1 }) (r:=none) X J hp ht fun b=>?_)
 obtain⟨cd,hc,hd'⟩:=PySem.W.any_some hh
 have hx:s.heap.get? x=some ⟨.ref C,some dx,.plain,#[]⟩:=I.obj
 refine Qw (Qy (Qw (Qw (wpAny_loadPart hx (Qw (PySem.W.Looks.here (s:={ s with toks:=s.toks+1 }) (PySem.W.looks_clsIn X hc) ?_))))))
 rw[hd']
 refine Qy (a:=some dx) (Qw (Qy (Qw ?_)))
 refine wpAny_nsSet1 (s:={ s with toks:=s.toks+1 }) I.ns fun h' hn2 hs2=>?_
 obtain⟨oD,esD,epD,hoD,hdD,hcD⟩:=hn2.count (PySem.Within.cons name v hw)
 refine Qw (wpAny_lookBehind hoD (by rw[hdD];exact pastItsLine_dict (Wh hcD (by rw[Qa];omega))) ?_)
 exact Qy (h _ ⟨(hs2.2 _ (Ne.symm I.ne)).trans I.obj,hn2,I.ne⟩ hs2)
theorem zUx {R:Result->Shared->Prop}{vs:List Value}{kw:List (Str×Value)}(X:K.In s.heap)(hm:PySem.W.makesIn K C=true)
   (hi:PySem.W.findIn K (.ref C) "__init__"=some (some (.ref f))) (hf:PySem.W.typeIn K (.ref f)=some (.type "function"))
   (h:codeAny (model prog w) (A.under (.builtin "type.__call__" ⟨.ref C::vs,kw⟩)) (.call (.ref f) ⟨.ref (s.heap.objs.size+1)::vs,kw⟩) (PySem.W.InitBack (s.heap.objs.size+1) R)
     { s with heap:=(s.heap.push PySem.W.emptyDict).push (PySem.W.instObj C s.heap.objs.size) }) :
   codeAny (model prog w) A (.call (.ref C) ⟨vs,kw⟩) R s:=by
 obtain⟨hh,g,d,t,os⟩:=s
 exact PySem.W.make_core (PySem.W.makes_of X hm) (PySem.W.looks_findIn X hi) (fun self=>PySem.W.bind_fn X self hf) (.inl rfl) h
end
def oC (f:Str)(v:V):List (Str×V)->List (Str×V)
 | []=>[(f,v)]
 | (g,x)::r=>if g=f then(g,v)::r else(g,x)::oC f v r
theorem hJ (f g:Str)(v:V):∀fs:List (Str×V),(oC f v fs).lookup g=if g=f then some v else fs.lookup g
 | []=>by
   show List.lookup g [(f,v)]=_
   by_cases h:g=f
   · have hb:(g==f)=true:=Yf.mpr h
     simp only[List.lookup,hb,Qc h]
   · have hb:(g==f)=false:=Tl.mpr h
     simp only[List.lookup,hb,Wd h]
 | (k,x)::r=>by
   have ih:=hJ f g v r
   rw[show oC f v ((k,x)::r)=(if k=f then(k,v)::r else(k,x)::oC f v r) from rfl]
   by_cases hk:k=f
   · rw[Qc hk]
     by_cases h:g=k
     · have hb:(g==k)=true:=Yf.mpr h
       simp only[List.lookup,hb,Qc (h.trans hk)]
     · have hb:(g==k)=false:=Tl.mpr h
       simp only[List.lookup,hb,Wd (fun e:g=f=>h (e.trans hk.symm))]
   · rw[Wd hk]
     by_cases h:g=k
     · have hb:(g==k)=true:=Yf.mpr h
       simp only[List.lookup,hb,Wd (fun e:g=f=>hk (h.symm.trans e))]
     · have hb:(g==k)=false:=Tl.mpr h
       simp only[List.lookup,hb]
       exact ih
theorem iS (f:Str)(v:V):∀fs:List (Str×V),f∈(oC f v fs).map (·.1)/\∀g,g∈fs.map (·.1)->g∈(oC f v fs).map (·.1)
 | []=>⟨by simp[oC],fun g h=>by simp at h⟩
 | (k,x)::r=>by
   obtain⟨i1,i2⟩:=iS f v r
   rw[show oC f v ((k,x)::r)=(if k=f then(k,v)::r else(k,x)::oC f v r) from rfl]
   by_cases hk:k=f
   · rw[Qc hk]
     subst hk
     exact⟨by simp,fun g h=>by simpa using h⟩
   · rw[Wd hk]
     refine⟨?_,fun g h=>?_⟩
     · rw[Qb]
       exact Qd _ i1
     · rw[Qb] at h ⊢
       rcases Qk.mp h with e | e
       · exact Qk.mpr (.inl e)
       · exact Qd _ (i2 g e)
theorem iD (f:Str)(v:V):∀fs:List (Str×V),(oC f v fs).length<=fs.length+1
 | []=>by simp[oC]
 | (k,x)::r=>by
   have ih:=iD f v r
   rw[show oC f v ((k,x)::r)=(if k=f then(k,v)::r else(k,x)::oC f v r) from rfl]
   by_cases hk:k=f
   · rw[Qc hk,Qa,Qa];omega
   · rw[Wd hk,Qa,Qa];omega
theorem RelO.some_of {v:V}{o:Option Value}(r:RelO (some v) o):∃u,o=some u/\RelV v u:=by
 cases o with
 | none=>exact(show False from r).elim
 | some u=>exact⟨u,rfl,r⟩
theorem zVG {v:V}{u:Value}(r:RelV v u):PySem.W.handedIn u=true:=by
 cases v with
 | non=>cases (show u=Value.none from r);rfl
 | bl b=>cases (show u=Value.bool b from r);rfl
 | int i=>obtain⟨t,e⟩:=(show ∃t,u=Value.int i t from r);cases e;rfl
 | str x=>obtain⟨t,e⟩:=(show ∃t,u=Value.str x t from r);cases e;rfl
 | byt b=>obtain⟨t,e⟩:=(show ∃t,u=Value.bytes b t from r);cases e;rfl
 | flt b=>obtain⟨t,e⟩:=(show ∃t,u=Value.float b t from r);cases e;rfl
 | ref a=>cases (show u=Value.ref a from r);rfl
 | ty n=>cases (show u=Value.type n from r);rfl
section
variable {P:Program} {w:World} {H:Hp} {h:Heap} {a C dx:Addr} {fs:List (Str×V)}
theorem zW8 (hok:HOk P w H h)(e:H a=some (.ins C dx fs)):∃mA,ObjM h a dx C mA/\(∀f,RelO (fs.lookup f) (mA f))/\PySem.Within mA (fs.map (·.1))/\fs.length<=1000/\H dx=some (.own a):=by
 obtain⟨d,z,ne,ob,mA,n,r,q⟩:=(show ObjOk P w H h a (.ins C dx fs) from hok a _ e)
 exact⟨mA,⟨ob,n,ne⟩,r,q,z,d⟩
end
structure Cls (K:PySem.W.Frag)(C:Addr):Prop where
 pg:PySem.W.plainGet K C Str.empty=true
 hd:PySem.W.hasDictIn K C=true
 po:PySem.W.plainOver K C=true
 sa:PySem.W.findIn K (.ref C) "__setattr__"=some (some (.builtin "object.__setattr__"))
theorem Cls.get {K:PySem.W.Frag}{C:Addr}(c:Cls K C)(f:Str):PySem.W.plainGet K C f=true:=c.pg
def NoAttr (K:PySem.W.Frag)(C:Addr)(f:Str):Prop:=PySem.W.findIn K (.ref C) f=some none
theorem NoAttr.taker {K:PySem.W.Frag}{C:Addr}{f:Str}(n:NoAttr K C f):PySem.W.takerIn K C f=some none:=by
 unfold PySem.W.takerIn
 rw[show PySem.W.findIn K (.ref C) f=some none from n]
 rfl
structure Con (K:PySem.W.Frag)(C:Addr)(f:Str)(v:V)(u:Value):Prop where
 at_:PySem.W.findIn K (.ref C) f=some (some u)
 rel:RelV v u
 get:PySem.W.specialIn K u "__get__"=some none
 cp:PySem.W.copiedNames.contains f=false
structure Meth (K:PySem.W.Frag)(C:Addr)(m:Str)(f:Addr):Prop where
 at_:PySem.W.findIn K (.ref C) m=some (some (.ref f))
 fn:PySem.W.isFn K (.ref f)=true
 kp:PySem.W.keepIn K (.ref f)=true
section
variable {X:Cx} {pins:List (Addr×Obj)} {σ:St} {H:Hp} {s:Shared} {a C dx:Addr} {fs:List (Str×V)} {f:Str} {v:V} {A:Around} {E:Value->Shared->Prop}
theorem zX6 {b:Bool}{Q:Value->Shared->Prop}(I:Inv X pins σ H s)(e:H a=some (.ins C dx fs))(c:Cls X.K C)(n:NoAttr X.K C f)(l:fs.lookup f=some v)
   (h:∀u s',Inv X pins σ H s'->RelV v u->Q u s'):wpAny (model X.prog X.w) A (getAttr (.ref a) f b) Q E s:=by
 obtain⟨mA,O,r,_,_,_⟩:=zW8 I.hok e
 obtain⟨u,hu,ru⟩:=RelO.some_of (v:=v) (o:=mA f) (by rw[←l];exact r f)
 exact zTf I.kIn O (c.get f) c.hd n hu (zVG ru) (h u _ (I.tok _) ru)
theorem zX3 {y:V}{u:Value}{Q:Unit->Shared->Prop}(I:Inv X pins σ H s)(e:H a=some (.ins C dx fs))(c:Cls X.K C)(n:NoAttr X.K C f)(hl:fs.length < 1000)(ry:RelV y u)
   (h:∀s',Inv X pins σ (upd H a (.ins C dx (oC f y fs))) s'->Q () s'):wpAny (model X.prog X.w) A (setAttr (.ref a) f u) Q E s:=by
 obtain⟨mA,O,r,wi,_,ho⟩:=zW8 I.hok e
 have hz:(fs.map (·.1)).length<=sizeLine:=by rw[Qo,sizeLine_eq];omega
 refine zSp I.kIn O c.sa c.po n.taker c.hd wi hz fun h' O' sb=>h _ ?_
 have hd:∃o,h'.get? dx=some o:=let ⟨o,_,_,e',_⟩:=O'.ns;⟨o,e'⟩
 refine I.write (x:=a) (e:=dx) (by rw[e];exact True.intro) (.inr ho) (fun b q hb z=>(sb.2 b hb).trans z) hd ?_
 refine⟨by rw[yV O.ne];exact ho,?_,O.ne,O'.obj,_,O'.ns,fun g=>?_,fun g hg=>?_⟩
 · have:=iD f y fs;omega
 · show RelO ((oC f y fs).lookup g) (if g=f then some u else mA g)
   rw[hJ]
   by_cases q:g=f
   · rw[Qc q,Qc q];exact ry
   · rw[Wd q,Wd q];exact r g
 · by_cases q:g=f
   · rw[q];exact(iS f y fs).1
   · refine(iS f y fs).2 g (wi g fun z=>hg ?_)
     show(if g=f then some u else mA g)=none
     rw[Wd q];exact z
theorem Inv.made (I:Inv X pins σ H s):Inv X pins σ (upd (upd H s.heap.objs.size (.own (s.heap.objs.size+1))) (s.heap.objs.size+1) (.ins C s.heap.objs.size []))
   { s with heap:=(s.heap.push PySem.W.emptyDict).push (PySem.W.instObj C s.heap.objs.size) }:=by
 have e1:(s.heap.push PySem.W.emptyDict).get? s.heap.objs.size=some PySem.W.emptyDict:=Qp s.heap rfl
 have e2:((s.heap.push PySem.W.emptyDict).push (PySem.W.instObj C s.heap.objs.size)).get? (s.heap.objs.size+1)=some (PySem.W.instObj C s.heap.objs.size):=by
   have:=Qp (s.heap.push PySem.W.emptyDict) (o:=PySem.W.instObj C s.heap.objs.size) rfl
   rwa[Wg] at this
 have e3:(s.heap.push PySem.W.emptyDict).Ns s.heap.objs.size (fun _=>none):=⟨PySem.W.emptyDict,#[],_,e1,rfl,(fun e he=>absurd he (by simp)),fun _=>rfl⟩
 have I1:=I.laid (a:=s.heap.objs.size) (o:=.own (s.heap.objs.size+1)) (h':=s.heap.push PySem.W.emptyDict) (t':=s.toks) (fun b u q=>Qr _ q) (Qf _) ⟨_,e1⟩
 refine I1.laid (a:=s.heap.objs.size+1) (o:=.ins C s.heap.objs.size []) (t':=s.toks) (fun b u q=>Qr _ q) (Nat.le_of_eq (Wg _ _)) ?_
 have ne:s.heap.objs.size≠s.heap.objs.size+1:=Qv (Rx _)
 refine⟨by rw[yV ne,zE],Ri _,ne,e2,fun _=>none,(Heap.Ns1.of_empty e3).at fun o q=>Qr _ q,fun _=>True.intro,fun y hy=>absurd rfl hy⟩
theorem zSz {prog:Program}{w:World}{env:Env}{e:Expr}{f:Str}{pos:Pos}{s:Shared}{Q:Value->Shared->Prop}(hb:attributeBase e f env (eval e env)=eval e env)
   (h:wpAny (model prog w) A (eval e env) (fun o s₁=>wpAny (model prog w) A (getAttr o f true) Q E s₁) E s):wpAny (model prog w) A (eval (.Attribute e f pos) env) Q E s :=
 Attribute_any_ h (by rw[arm_eval_Attribute,hb])
end
def zPs (K:PySem.W.Frag)(ta:TE)(f:Str):TE:=fun σ H Q=>ta σ H fun x H1=>∃a C dx fs v,x = .ref a/\H1 a=some (.ins C dx fs)/\Cls K C/\NoAttr K C f/\fs.lookup f=some v/\Q v H1
def zP2 (K:PySem.W.Frag)(ta tv:TE)(f:Str):TS:=fun D σ H=>tv σ H fun y H1=>ta σ H1 fun x H2=>∃a C dx fs,x = .ref a/\H2 a=some (.ins C dx fs)/\Cls K C/\NoAttr K C f/\fs.length < 1000 /\
 D.nx σ (upd H2 a (.ins C dx (oC f y fs)))
section
variable {X:Cx} {o e value:Expr} {f:Str} {pos pos':Pos} {ta tv:TE}
theorem zRT (he:PE X e ta)(hb:attributeBase e f X.env (eval e X.env)=eval e X.env):PE X (.Attribute e f pos) (zPs X.K ta f):=by
 intro pins s σ H Q I h
 refine zSz hb (thn (he pins s σ H _ I h) fun u s1 ⟨x,H1,I1,rx,a,C,dx,fs,v,ex,ea,c,n,l,q⟩=>?_)
 subst ex
 obtain rfl:u=Value.ref a:=rx
 exact zX6 I1 ea c n l fun u' s2 I2 ru=>⟨v,H1,I2,ru,q⟩
theorem zRj (ha:PE X o ta)(hv:PE X value tv)(hs:swapsWith value (some (.Attribute o f pos')) pos.line X.env=pure false):PS X (.Assign [.Attribute o f pos'] value pos) (zP2 X.K ta tv f):=by
 intro pins s σ H D I h
 refine plainObj_wpAny_Assign_Attribute (thn (hv pins s σ H _ I h) fun u s1 ⟨y,H1,I1,ry,q⟩=>thn (ha pins s1 σ H1 _ I1 q) fun ov s2 ⟨x,H2,I2,rx,a,C,dx,fs,ex,ea,c,n,l,q2⟩=>?_) hs
 subst ex
 obtain rfl:ov=Value.ref a:=rx
 exact zX3 I2 ea c n l ry fun s3 I3=>⟨σ,_,I3,q2⟩
variable {H:Hp}
inductive TyOf (K:PySem.W.Frag)(H:Hp):V->Value->Prop where
 | non:TyOf K H .non (.type "NoneType")
 | bl (x:Bool):TyOf K H (.bl x) (.type "bool")
 | int (i:Int):TyOf K H (.int i) (.type "int")
 | str (x:Str):TyOf K H (.str x) (.type "str")
 | flt (x:UInt64):TyOf K H (.flt x) (.type "float")
 | lst {a:Addr} {xs:List V} (e:H a=some (.lst xs)):TyOf K H (.ref a) (.type "list")
 | frz {a:Addr} {o:Obj} {xs:List V} (e:H a=some (.frz o (.lst xs))):TyOf K H (.ref a) (.type "list")
 | tup {a:Addr} {xs:List V} (e:H a=some (.tup xs)):TyOf K H (.ref a) (.type "tuple")
 | dK {a:Addr} {kvs:List (Key×V)} (e:H a=some (.dK kvs)):TyOf K H (.ref a) (.type "dict")
 | dT {a:Addr} {kvs:List (List Key×V)} (e:H a=some (.dT kvs)):TyOf K H (.ref a) (.type "dict")
 | ins {a C dx:Addr} {fs:List (Str×V)} (e:H a=some (.ins C dx fs)) (cl:Cls K C) (ha:PySem.W.findIn K (.ref C) "__class__"=some (some (.builtin "object.__class__")))
     (hn:PySem.W.specialIn K (.builtin "object.__class__") "__get__"=some (some (.builtin "getset_descriptor.__get__"))) (htk:PySem.W.takesIn K (.builtin "object.__class__")=some true)
     (hm:PySem.W.mroIn K C (.type "object")=some true):TyOf K H (.ref a) (.ref C)
end
structure Room (k:Nat)(A:Around):Prop where
 hd:A.handled=none
 dp:A.depth+3*k+5 < recursionLimit
 un:A.units+16*k+200 < cLine
theorem Room.mono {j k:Nat}{A:Around}(r:Room k A)(h:j<=k):Room j A:=⟨r.hd,by have:=r.dp;omega,by have:=r.un;omega⟩
theorem Room.deeper {k:Nat}{A:Around}(r:Room (k+1) A)(env:Env):Room k (A.deeper env) :=
 ⟨r.hd,by have:=r.dp;show A.depth+1+3*k+5 < _;omega,by have:=r.un;show A.units+3+16*k+200 < _;omega⟩
theorem zXk {A:Around}{C:Addr}{us:List Value}{kw:List (Str×Value)}:(A.under (.builtin "type.__call__" ⟨.ref C::us,kw⟩)).depth=A.depth+1:=by
 first | rfl | simp[Around.under,Code.weight,Code.isCreation,Code.isGuard,Code.isCaller,Code.frames,Code.isFrame,guardIds]
theorem zXs {A:Around}{C:Addr}{us:List Value}{kw:List (Str×Value)}:(A.under (.builtin "type.__call__" ⟨.ref C::us,kw⟩)).units=A.units+1:=by
 first | rfl | simp[Around.under,Code.cUnits,Code.frames,Code.isFrame]
theorem Room.make {k:Nat}{A:Around}(r:Room (k+1) A)(C:Addr)(us:List Value)(kw:List (Str×Value)):Room k (A.under (.builtin "type.__call__" ⟨.ref C::us,kw⟩)) :=
 ⟨r.hd,by have:=r.dp;rw[zXk];omega,by have:=r.un;rw[zXs];omega⟩
theorem Room.depth {k:Nat}{A:Around}(r:Room k A):A.depth < recursionLimit:=by have:=r.dp;omega
theorem Room.units {k:Nat}{A:Around}(r:Room k A):A.units+64 < cLine:=by have:=r.un;omega
theorem Room.units0 {k:Nat}{A:Around}(r:Room k A):A.units < cLine:=by have:=r.un;omega
def zSr:TA:=fun _ H Q=>Q [] H
def zW2 (ta:TE)(tr:TA):TA:=fun σ H Q=>ta σ H fun x H1=>tr σ H1 fun xs H2=>Q (x::xs) H2
section
variable {X:Cx} {e:Expr} {es:List Expr} {te:TE} {t:TA} {pos:Pos}
theorem xT:PA X [] zSr:=fun _ _ _ _ H Q I h=>Ud ⟨[],H,I,.nil,h⟩
theorem yM (ha:PE X e te)(hr:PA X es t)(hs:starEach (e::es) X.env=(false,eval e X.env)::starEach es X.env:=by rfl):PA X (e::es) (zW2 te t):=by
 intro pos pins s σ H Q I h
 rw[hs]
 show wpAny _ _ (spliced ((false,eval e X.env)::backTo pos (starEach es X.env))) _ _ s
 refine Ui (thn (ha pins s σ H _ I h) fun u s1 ⟨x,H1,I1,r1,q1⟩=>?_)
 exact thn (hr pos pins s1 σ H1 _ I1 q1) fun us s2 ⟨xs,H2,I2,r2,q2⟩=>⟨x::xs,H2,I2,.cons r1 r2,q2⟩
def zPz (t:TA):TE:=fun σ H Q=>t σ H fun xs H1=>xs.length<=sizeLine/\∀p,H1 p=none->Q (.ref p) (upd H1 p (.tup xs))
def zP5 (t:TA):TE:=fun σ H Q=>t σ H fun xs H1=>xs.length<=sizeLine/\∀p,H1 p=none->Q (.ref p) (upd H1 p (.lst xs))
theorem zQQ {x1}(h:PA X es t):PE X (.Tuple es x1 pos) (zPz t):=by
 intro pins s σ H Q I hq
 refine wpAny_Tuple_spliced (thn (h pos pins s σ H _ I hq) fun us s1 ⟨xs,H1,I1,r,z,q⟩=>⟨by rw[←r.length];exact z,?_⟩)
 have hf:H1 s1.heap.objs.size=none:=I1.hok.fresh (Qf _)
 refine⟨.ref s1.heap.objs.size,upd H1 s1.heap.objs.size (.tup xs),I1.laid (t':=s1.toks) (fun b u e=>Qr _ e) (Qf _) ?_,rfl,q _ hf⟩
 exact⟨z,us,r,⟨_,Qp _ rfl,rfl,_,rfl⟩⟩
theorem zT2 (h:PA X es t):PE X (.List es pos) (zP5 t):=by
 intro pins s σ H Q I hq
 refine wpAny_List_spliced (thn (h pos pins s σ H _ I hq) fun us s1 ⟨xs,H1,I1,r,z,q⟩=>⟨by rw[←r.length];exact z,?_⟩)
 have hf:H1 s1.heap.objs.size=none:=I1.hok.fresh (Qf _)
 refine⟨.ref s1.heap.objs.size,upd H1 s1.heap.objs.size (.lst xs),I1.laid (t':=s1.toks) (fun b u e=>Qr _ e) (Qf _) ?_,rfl,q _ hf⟩
 exact⟨z,us,0,r,Qp _ rfl⟩
end
abbrev Sp:=List V->Hp->VK->XK->Prop
abbrev CXT:=List Env->Hp->Shared->XK->Value->Shared->Prop
structure Env0 (P:Program)(w:World)(K:PySem.W.Frag)(mg:Str->Option Value)(base:Heap)(A:Around)(outer:List Env)(s:Shared)(H:Hp):Prop where
 frames:A.frames=some outer
 mod:Mod K mg base
 bs:∀b o,base.get? b=some o->s.heap.get? b=some o/\H b=none
 bsz:base.objs.size<=s.heap.objs.size
 funs:s.heap.FunFrames base outer
 frf:∀b∈frs outer,H b=none
 hok:HOk P w H s.heap
 bare:AllBare s.gens
def CE (outer:List Env)(P:Program)(w:World)(H:Hp)(s:Shared)(Q:VK)(u:Value)(s':Shared):Prop :=
 ∃v H',s'.os=s.os/\AllBare s'.gens/\Un (frs outer) [] H H' s.heap s'.heap/\HOk P w H' s'.heap/\RelV v u/\Q v H'
def CR (CX:CXT)(outer:List Env)(P:Program)(w:World)(H:Hp)(s:Shared)(Q:VK)(E:XK)(r:Result)(s':Shared):Prop :=
 match r with
 | .ok (.ret u)=>CE outer P w H s Q u s'
 | .ok _=>False
 | .error e=>CX outer H s E e s'
structure FnOk (P:Program)(w:World)(K:PySem.W.Frag)(mg:Str->Option Value)(base:Heap)(CX:CXT)(k:Nat)(f:Addr)(fd:FuncData)(ps:List Str)(sp:Sp):Prop where
 len:∀vs H Q E,sp vs H Q E->vs.length=ps.length
 run:∀(A:Around) (outer:List Env) (s:Shared) (H:Hp) (args:Args) (us:List Value) (vs:List V) (Q:VK) (E:XK),Room k A->Env0 P w K mg base A outer s H->BindsTo s fd args (ps.zip us)->Vals vs us->sp vs H Q E ->
   codeAny (model P w) A (.call (.ref f) args) (CR CX outer P w H s Q E) s
theorem Env0.make {P:Program}{w:World}{K:PySem.W.Frag}{mg:Str->Option Value}{base:Heap}{A:Around}{outer:List Env}{s:Shared}{H:Hp}(e:Env0 P w K mg base A outer s H)(C:Addr)(us:List Value)(kw:List (Str×Value)) :
   Env0 P w K mg base (A.under (.builtin "type.__call__" ⟨.ref C::us,kw⟩)) outer s H:=⟨by first | exact e.frames | (simpa [Around.under,Code.envs,Code.isFrame,pushEnvs] using e.frames),e.mod,e.bs,e.bsz,e.funs,e.frf,e.hok,e.bare⟩
section
variable {X:Cx} {pins:List (Addr×Obj)} {σ:St} {H:Hp} {s s':Shared}
theorem Inv.env0 (I:Inv X pins σ H s):Env0 X.prog X.w X.K X.mg X.base X.A X.stack s H :=
 ⟨I.ok.frames,I.ok.mod,I.bs,Wh I.ok.bsz I.sz,I.stack,I.stkFree,I.hok,I.bare⟩
theorem Inv.after {Q:VK}{u:Value}(I:Inv X pins σ H s)(h:CE X.stack X.prog X.w H s Q u s'):EP X pins σ Q u s':=by
 obtain⟨v,H',os,bare,un,hok,r,q⟩:=h
 obtain⟨hh,g,d,t,os'⟩:=s'
 obtain rfl:os'=s.os:=os
 exact⟨v,H',I.call (h':=hh) (g':=g) (d':=d) (t':=t) (ch:=[]) un hok bare (fun b z=>absurd z (by simp)),r,q⟩
end
def zPN (sp:Sp)(dvs:List V)(E:XK)(t:TA):TE:=fun σ H Q=>t σ H fun vs H1=>sp (vs++dvs) H1 Q E
def zQu (C:Addr)(sp:Sp)(dvs:List V)(E:XK)(t:TA):TE:=fun σ H Q=>t σ H fun vs H1=>∀x dx,H1 x=none->H1 dx=none->dx≠x ->
 sp (.ref x::(vs++dvs)) (upd (upd H1 dx (.own x)) x (.ins C dx [])) (fun v H2=>v = .non/\Q (.ref x) H2) E
def Binds (K:PySem.W.Frag)(fd:FuncData)(ps:List Str)(ds:List Value):Prop :=
 ∀(s:Shared) (us:List Value),K.In s.heap->(us++ds).length=ps.length->BindsTo s fd ⟨us,[]⟩ (ps.zip (us++ds))
theorem Binds.all {K:PySem.W.Frag}{fd:FuncData}{ps:List Str}(h:∀us:List Value,us.length=ps.length->bindArgs fd ⟨us,[]⟩=pure (ps.zip us)):Binds K fd ps []:=fun s us _ hl=>by
 rw[Et] at hl ⊢
 exact .of_eq (h us hl)
def fO (CX:CXT)(X:Cx)(E:XK):Prop:=∀(pins:List (Addr×Obj)) (σ:St) (H:Hp) (s:Shared) (e:Value) (s':Shared),Inv X pins σ H s->CX X.stack H s E e s'->X.xe e s'
section
variable {X:Cx} {CX:CXT} {k:Nat} {f C:Addr} {fd:FuncData} {ps:List Str} {sp:Sp} {dvs:List V} {ds:List Value} {E:XK} {x:Str} {p pos:Pos} {e:Expr} {es:List Expr} {t:TA}
theorem zQE {pins:List (Addr×Obj)}{σ:St}{H:Hp}{s:Shared}{Q:VK}{us:List Value}{vs:List V}(F:FnOk X.prog X.w X.K X.mg X.base CX k f fd ps sp)(hr:Room k X.A)(hb:Binds X.K fd ps ds)(hd:Vals dvs ds)(hx:fO CX X E)
   (I:Inv X pins σ H s) (r:Vals vs us) (h:sp (vs++dvs) H Q E):wpAny (model X.prog X.w) X.A (call (.ref f) us) (EP X pins σ Q) X.xe s:=by
 have r2:Vals (vs++dvs) (us++ds):=r.append hd
 have hl:(us++ds).length=ps.length:=by rw[←r2.length];exact F.len _ _ _ _ h
 refine wpAny_call (Yt (F.run X.A X.stack s H ⟨us,[]⟩ (us++ds) (vs++dvs) Q E hr I.env0 (hb s us I.kIn hl) r2 h) fun r s' hq=>?_)
 cases r with
 | error e=>exact hx pins σ H s e s' I hq
 | ok fl =>
   cases fl with
   | ret u=>exact I.after hq
   | next=>exact False.elim hq
   | brk=>exact False.elim hq
   | cont=>exact False.elim hq
theorem zWP (F:FnOk X.prog X.w X.K X.mg X.base CX k f fd ps sp)(hr:Room k X.A)(hg:Gl X x)(hm:X.mg x=some (.ref f))(hk:PySem.W.keepIn X.K (.ref f)=true)(hb:Binds X.K fd ps ds)(hd:Vals dvs ds)(hx:fO CX X E)
   (ha:PA X (e::es) t) (hdb:(x==("__debug__":Str))=false:=by decide) (he:starEach (e::es) X.env=(false,eval e X.env)::starEach es X.env:=by rfl) (hpl:(backTo pos (starEach es X.env)).any (·.1)=false:=by rfl) :
   PE X (.Call (.Name x p) (e::es) [] pos) (zPN sp dvs E t):=by
 intro pins s σ H Q I h
 refine Yy (zWx I hg hm ?_ hdb)
 refine PySem.W.callWith_K (h₀:=X.base) I.ok.mod.kin hk (thn (ha pos pins s σ H _ I h) fun us s1 ⟨vs,H1,I1,r,q⟩=>⟨I1.kIn,?_⟩) he hpl
 exact zQE F hr hb hd hx I1 r q
structure Mk (K:PySem.W.Frag)(C f:Addr):Prop where
 makes:PySem.W.makesIn K C=true
 init:PySem.W.findIn K (.ref C) "__init__"=some (some (.ref f))
 fn:PySem.W.isFn K (.ref f)=true
 kp:PySem.W.keepIn K (.ref C)=true
theorem zTC {pins:List (Addr×Obj)}{σ:St}{H:Hp}{s:Shared}{Q:VK}{us:List Value}{vs:List V}(M:Mk X.K C f)(F:FnOk X.prog X.w X.K X.mg X.base CX k f fd ps sp)(hr:Room (k+1) X.A)(hb:Binds X.K fd ps ds)(hd:Vals dvs ds)
   (hx:fO CX X E) (I:Inv X pins σ H s) (r:Vals vs us)
   (h:∀x dx,H x=none->H dx=none->dx≠x->sp (.ref x::(vs++dvs)) (upd (upd H dx (.own x)) x (.ins C dx [])) (fun v H2=>v = .non/\Q (.ref x) H2) E) :
   wpAny (model X.prog X.w) X.A (call (.ref C) us) (EP X pins σ Q) X.xe s:=by
 have hq:=h (s.heap.objs.size+1) s.heap.objs.size (I.hok.fresh (Ta _)) (I.hok.fresh (Qf _)) (Qv (Rx _))
 have I2:=Inv.made (C:=C) I
 have r2:Vals (V.ref (s.heap.objs.size+1)::(vs++dvs)) (Value.ref (s.heap.objs.size+1)::(us++ds)):=.cons rfl (r.append hd)
 have hl:(Value.ref (s.heap.objs.size+1)::us++ds).length=ps.length:=by
   have e:=r2.length
   rw[F.len _ _ _ _ hq] at e
   exact e.symm
 refine wpAny_call (zUx (f:=f) I.kIn M.makes M.init (Yf.mp M.fn) (Yt (F.run _ X.stack _ _ ⟨Value.ref (s.heap.objs.size+1)::us,[]⟩ (Value.ref (s.heap.objs.size+1)::(us++ds)) _ _ E (hr.make C us [])
   (I2.env0.make C us []) (hb _ (Value.ref (s.heap.objs.size+1)::us) I2.kIn hl) r2 hq) fun r s' hq'=>?_))
 cases r with
 | error e=>exact hx pins σ _ _ e s' I2 hq'
 | ok fl =>
   cases fl with
   | ret u =>
     obtain⟨v,H',I3,rv,ev,q3⟩:=I2.after hq'
     subst ev
     exact⟨rv,⟨V.ref (s.heap.objs.size+1),H',I3,rfl,q3⟩⟩
   | next=>exact False.elim hq'
   | brk=>exact False.elim hq'
   | cont=>exact False.elim hq'
theorem zSH (M:Mk X.K C f)(F:FnOk X.prog X.w X.K X.mg X.base CX k f fd ps sp)(hr:Room (k+1) X.A)(hg:Gl X x)(hm:X.mg x=some (.ref C))(hb:Binds X.K fd ps ds)(hd:Vals dvs ds)(hx:fO CX X E)
   (ha:PA X (e::es) t) (hdb:(x==("__debug__":Str))=false:=by decide) (he:starEach (e::es) X.env=(false,eval e X.env)::starEach es X.env:=by rfl) (hpl:(backTo pos (starEach es X.env)).any (·.1)=false:=by rfl) :
   PE X (.Call (.Name x p) (e::es) [] pos) (zQu C sp dvs E t):=by
 intro pins s σ H Q I h
 refine Yy (zWx I hg hm ?_ hdb)
 refine PySem.W.callWith_K (h₀:=X.base) I.ok.mod.kin M.kp (thn (ha pos pins s σ H _ I h) fun us s1 ⟨vs,H1,I1,r,q⟩=>⟨I1.kIn,?_⟩) he hpl
 exact zTC M F hr hb hd hx I1 r q
variable {ks:List Str}
structure KBinds (K:PySem.W.Frag)(fd:FuncData)(ps ks:List Str)(g:List Value->List Value->List Value)(gV:List V->List V->List V):Prop where
 to:∀(s:Shared) (us ws:List Value),K.In s.heap->(g us ws).length=ps.length->BindsTo s fd ⟨us,ks.zip ws⟩ (ps.zip (g us ws))
 rel:∀ {vs:List V} {us:List Value} {zs:List V} {ws:List Value},Vals vs us->Vals zs ws->Vals (gV vs zs) (g us ws)
variable {g:List Value->List Value->List Value} {gV:List V->List V->List V}
end
structure FnScope (N P:List Str)(sc:Scope):Prop where
 kind:sc.kind = .function
 co:sc.isCoroutine=false
 gen:sc.isGenerator=false
 nd:N.Nodup
 pre:N.take P.length=P
 par:∀x∈P,sc.names.lookup x=some .local∨sc.names.lookup x=some .cell
 nofree:∀y∈sc.names,y.2 ≠ .free
theorem bS {kindOf:Str->Option NameKind}{x:Str}:∀ {binds:List (Str×Value)} {m:Str->Option Value},(∀v,(x,v)∉binds)->bindL kindOf binds m x=m x
 | [],_,_=>rfl
 | (n,v)::r,m,h=>by
   unfold bindL
   rw[bS fun w hw=>h w (Qd _ hw)]
   split
   · have:x≠n:=by rintro rfl;exact h v Qj
     simp[this]
   · rfl
theorem bD {kindOf:Str->Option NameKind}{x:Str}:∀ {binds:List (Str×Value)} {m:Str->Option Value},(∀v,(x,v)∉binds)->bindC kindOf binds m x=m x
 | [],_,_=>rfl
 | (n,v)::r,m,h=>by
   unfold bindC
   rw[bD fun w hw=>h w (Qd _ hw)]
   split
   · rfl
   · have:x≠n:=by rintro rfl;exact h v Qj
     simp[this]
theorem bM {kindOf:Str->Option NameKind}{x:Str}{v:Value}:∀ {P:List Str} {vs:List Value} {i:Nat} {m:Str->Option Value},P.Nodup->P[i]?=some x->vs[i]?=some v->kindOf x=some .local ->
   bindL kindOf (P.zip vs) m x=some v
 | [],_,_,_,_,h,_,_=>by simp at h
 | _::_,[],_,_,_,_,h,_=>by simp at h
 | p::P,w::vs,0,m,nd,h1,h2,hk=>by
   simp at h1 h2;subst h1;subst h2
   show bindL kindOf ((p,w)::P.zip vs) m p=_
   unfold bindL
   rw[bS fun v hv=>(Re.mp nd).1 (Iy hv).1,Qc hk]
   simp
 | p::P,w::vs,i+1,m,nd,h1,h2,hk=>by
   show bindL kindOf ((p,w)::P.zip vs) m x=_
   unfold bindL
   exact bM (i:=i) (Re.mp nd).2 (by simpa using h1) (by simpa using h2) hk
theorem bV {kindOf:Str->Option NameKind}{x:Str}{v:Value}:∀ {P:List Str} {vs:List Value} {i:Nat} {m:Str->Option Value},P.Nodup->P[i]?=some x->vs[i]?=some v->kindOf x≠some .local ->
   bindC kindOf (P.zip vs) m x=some v
 | [],_,_,_,_,h,_,_=>by simp at h
 | _::_,[],_,_,_,_,h,_=>by simp at h
 | p::P,w::vs,0,m,nd,h1,h2,hk=>by
   simp at h1 h2;subst h1;subst h2
   show bindC kindOf ((p,w)::P.zip vs) m p=_
   unfold bindC
   rw[bD fun v hv=>(Re.mp nd).1 (Iy hv).1,Wd hk]
   simp
 | p::P,w::vs,i+1,m,nd,h1,h2,hk=>by
   show bindC kindOf ((p,w)::P.zip vs) m x=_
   unfold bindC
   exact bV (i:=i) (Re.mp nd).2 (by simpa using h1) (by simpa using h2) hk
def oK (N:List Str)(vs:List V):St:=vs.map some++List.replicate (N.length - vs.length) none
def zZH (CX:CXT)(P:Program)(w:World)(K:PySem.W.Frag)(mg:Str->Option Value)(base:Heap)(N:List Str)(qual:Str)(scope:Scope)(f:Addr)(cd:Value)(A:Around)(outer:List Env)(s:Shared)(H:Hp)(E:XK):Cx where
 prog:=P
 w:=w
 K:=K
 mg:=mg
 base:=base
 A:=A.deeper (envOfC qual scope s.heap.objs.size f cd)
 N:=N
 s₀:=s
 H₀:=H
 env:=envOfC qual scope s.heap.objs.size f cd
 outer:=outer
 stack:=envOfC qual scope s.heap.objs.size f cd::outer
 ex:=[]
 calm:=true
 fn:=fun _=>true
 pn:=[]
 xe:=fun e s'=>wpAny (model P w) (A.deeper (envOfC qual scope s.heap.objs.size f cd)) (leaving (envOfC qual scope s.heap.objs.size f cd) e) (fun _ s''=>CX outer H s E e s'') (fun e' s''=>CX outer H s E e' s'') s'
theorem zY4 {sc:Scope}{n:Nat}{x:Str}(h:sc.names.lookup x=some .cell):∃c,(cellsFrom n sc.names []).lookup x=some c:=by
 have q:=PySem.W.cellsFrom_some sc.names n [] (.inl h)
 exact Rr.mp q
theorem zV6 {CX:CXT}{P:Program}{w:World}{K:PySem.W.Frag}{mg:Str->Option Value}{base:Heap}{N ps:List Str}{qual:Str}{scope:Scope}{f:Addr}{cd:Value}{A:Around}{outer:List Env}{s s1:Shared}{H:Hp}{E:XK}{us:List Value}{vs:List V}
   (S:FnScope N ps scope) (hd:A.handled=none) (e0:Env0 P w K mg base A outer s H) (hl:vs.length=ps.length) (r:Vals vs us)
   (x:InCallC s s.heap.objs.size (bindL (envOfC qual scope s.heap.objs.size f cd).kindOf (ps.zip us) fun _=>none) (cellsFrom (s.heap.objs.size+1) scope.names []) (bindC (envOfC qual scope s.heap.objs.size f cd).kindOf (ps.zip us) fun _=>none) s1) :
   Inv (zZH CX P w K mg base N qual scope f cd A outer s H E) [] (oK N vs) H s1:=by
 have hpl:ps.length<=N.length:=by have:=Ea List.length S.pre;rw[Ub] at this;omega
 obtain⟨h1,tk,rfl,hk⟩:=x.done
 have noA:∀b:Addr,b∉(zZH CX P w K mg base N qual scope f cd A outer s H E).ex:=fun b z=>absurd (show b∈([]:List Addr) from z) (by simp)
 refine⟨⟨e0.mod,S.kind,rfl,rfl,Qf _,fun y z c h1 h2=>?_,fun y hy=>?_,fun y c _ h=>?_,fun _=>hd,Around.frames_deeper e0.frames,.inr ⟨rfl,rfl⟩,fun b z=>absurd z (noA b),e0.bs,e0.bsz,fun b _ _=>noA b,fun b z=>absurd z (noA b),e0.funs,e0.frf⟩,
   rfl,e0.bare,Un.kept hk,⟨_,x.toInCall.ns,fun i y v h1 h2 h3=>?_⟩,fun y c h=>⟨_,x.cell y c h⟩,e0.hok.fresh (Qf _),fun y c h=>?_,fun p hp=>absurd (show p∈([]:List (Addr×Obj)) from hp) (by simp),e0.hok.kept hk,?_⟩
 · exact name_of_addr x.apart (Eo h1) (Eo h2)
 · have hy:scope.names.lookup y=some .cell∨scope.names.lookup y=some .free:=hy
   rcases hy with hy | hy
   · exact zY4 hy
   · exact absurd rfl (S.nofree _ (Eo hy))
 · exact Wz (x.above y c (Eo h))
 · have hi:i < vs.length:=by
     unfold oK at h2
     by_cases hi:i < vs.length
     · exact hi
     · rw[Wm (by simpa using hi)] at h2
       rw[Ez] at h2
       split at h2<;>cases h2
   have ha:vs[i]?=some v:=by
     unfold oK at h2
     rw[Es (by simpa using hi),Wt] at h2
     cases e:vs[i]? with
     | none=>rw[e] at h2;cases h2
     | some a=>rw[e] at h2;cases h2;rfl
   obtain⟨u,hu,rv⟩:=r.get ha
   have hp:ps[i]?=some y:=by
     rw[←S.pre,List.getElem?_take_of_lt (by omega)];exact h1
   have ndP:ps.Nodup:=by rw[←S.pre];exact S.nd.sublist (List.take_sublist _ _)
   refine⟨u,rv,?_⟩
   rcases S.par y (Ej hp) with k | k
   · exact .inl ⟨k,bM ndP hp hu k⟩
   · obtain⟨c,e⟩:=zY4 (n:=s.heap.objs.size+1) k
     refine .inr ⟨.inl k,c,e,?_⟩
     have q:=x.cell y c e
     rw[bV ndP hp hu (by show scope.names.lookup y≠_;rw[k];decide)] at q
     exact q
 · exact e0.hok.fresh (Wz (x.above y c (Eo h)))
 · unfold oK
   show _=N.length
   rw[Wp,Qo,Yn]
   omega
theorem zQl {CX:CXT}{P:Program}{w:World}{K:PySem.W.Frag}{mg:Str->Option Value}{base:Heap}{k:Nat}{f:Addr}{name qual:Str}{params:Arguments}{body:List Stmt}{scope:Scope}{dV kV doc pm cdv ct oc:Value}{an od:Option Addr}
   {osl:Array (Option Value)} {N ps:List Str} {sp:Sp} (lk:K.lookup f=some ⟨oc,od,.func (PySem.W.fnOf name qual params body scope dV kV doc pm an cdv ct),osl⟩) (hcd:PySem.W.codeIn K cdv qual=true) (S:FnScope N ps scope)
   (len:∀vs H Q E,sp vs H Q E->vs.length=ps.length)
   (hbody:∀(A:Around) (outer:List Env) (s:Shared) (H:Hp) (vs:List V) (Q:VK) (E:XK),Room k (A.deeper (envOfC qual scope s.heap.objs.size f cdv))->sp vs H Q E ->
     ∃t,PSs (zZH CX P w K mg base N qual scope f cdv A outer s H E) body t/\t { nx:=fun _ H'=>Q .non H',rt:=Q } (oK N vs) H) :
   FnOk P w K mg base CX (k+1) f (PySem.W.fnOf name qual params body scope dV kV doc pm an cdv ct) ps sp:=by
 refine⟨len,fun A outer s H args us vs Q E hr e0 hb r hsp=>?_⟩
 have hl:=len _ _ _ _ hsp
 have KX:K.In s.heap:=e0.mod.kin.keeps fun b o e=>(e0.bs b o e).1
 have lim:s.heap.NoLimit:=e0.mod.nolimit.keeps fun b o e=>(e0.bs b o e).1
 have hkind:∀y∈ps.zip us,scope.names.lookup y.1=some .local∨(scope.names.lookup y.1=some .cell/\((cellsFrom (s.heap.objs.size+1) scope.names []).lookup y.1).isSome=true):=fun⟨n,v⟩ hy=>by
   rcases S.par n (Iy hy).1 with q | q
   · exact .inl q
   · exact .inr ⟨q,PySem.W.cellsFrom_some _ _ _ (.inl q)⟩
 refine codeAny_call_function hr.depth (KX _ _ lk) rfl S.co S.gen rfl (PySem.W.codeRec_of KX hcd) (hb _ _ _ _ ?_)
 refine wpAny_newFunctionEnv_cells S.kind hkind fun env he s1 x=>?_
 subst he
 refine⟨lim.keeps x.toInCall.keep,codeAny_func ?_⟩
 obtain⟨t,ht,hq⟩:=hbody A outer s H vs Q E (hr.deeper _) hsp
 have I:Inv (zZH CX P w K mg base N qual scope f cdv A outer s H E) [] (oK N vs) H s1:=zV6 S hr.hd e0 hl r x
 refine Us (ht [] s1 (oK N vs) H _ I hq) (fun fl s' hs=>?_) fun e s' hs=>hs
 have fin:∀ {σ':St} {H':Hp} {v:V} {u:Value},Inv (zZH CX P w K mg base N qual scope f cdv A outer s H E) [] σ' H' s'->RelV v u->Q v H'->CE outer P w H s Q u s' :=
   fun {σ' H' v u} J rv q=>⟨v,H',J.os,J.bare,J.base,J.hok,rv,q⟩
 cases fl with
 | ret u =>
   obtain⟨v,σ',H',J,rv,q⟩:=hs
   exact fin J rv q
 | next =>
   obtain⟨σ',H',J,q⟩:=hs
   exact fin (v:=V.non) (u:=Value.none) J rfl q
 | brk =>
   obtain⟨_,_,_,q⟩:=hs
   exact False.elim q
 | cont =>
   obtain⟨_,_,_,q⟩:=hs
   exact False.elim q
section
variable {X:Cx} {x:Str} {p pos:Pos} {e:Expr} {es:List Expr} {t:TA} {id T:String} {r:List V->Hp->VK->Prop}
def tCB (r:List V->Hp->VK->Prop)(t:TA):TE:=fun σ H Q=>t σ H fun vs H1=>r vs H1 Q
theorem rX (hc:CallR X (.builtin id) r)(hg:Gl X x)(hm:X.mg x=none)(hv:bootBuiltins x=some (.builtin id))(ha:PA X (e::es) t)(hn:x≠"__name__":=by decide)(hdb:(x==("__debug__":Str))=false:=by decide)
   (he:starEach (e::es) X.env=(false,eval e X.env)::starEach es X.env:=by rfl) (hpl:(backTo pos (starEach es X.env)).any (·.1)=false:=by rfl):PE X (.Call (.Name x p) (e::es) [] pos) (tCB r t):=by
 intro pins s σ H Q I h
 refine Yy (pX I hg hm hv ?_ hn hdb)
 exact Ul (thn (ha pos pins s σ H _ I h) fun us s1 ⟨vs,H1,I1,r1,q1⟩=>hc pins s1 σ H1 vs us Q I1 r1 q1) he hpl
theorem iX (hc:CallR X (.type T) r)(hg:Gl X x)(hm:X.mg x=none)(hv:bootBuiltins x=some (.type T))(ha:PA X (e::es) t)(hn:x≠"__name__":=by decide)(hdb:(x==("__debug__":Str))=false:=by decide)
   (he:starEach (e::es) X.env=(false,eval e X.env)::starEach es X.env:=by rfl) (hpl:(backTo pos (starEach es X.env)).any (·.1)=false:=by rfl):PE X (.Call (.Name x p) (e::es) [] pos) (tCB r t):=by
 intro pins s σ H Q I h
 refine Yy (pX I hg hm hv ?_ hn hdb)
 exact Wx (thn (ha pos pins s σ H _ I h) fun us s1 ⟨vs,H1,I1,r1,q1⟩=>hc pins s1 σ H1 vs us Q I1 r1 q1) he hpl
end
end L2
namespace HT
open PySem PyProof.Rows
section
variable {prog:Program} {w:World} {A:Around} {E:Value->Shared->Prop} {s:Shared}
theorem cat_tup {t b:Addr}{vs ws:List Value}{Q:Value->Shared->Prop}(ht:IsTup s.heap t vs.toArray)(hb:IsTup s.heap b ws.toArray)(hv:vs≠[])
   (h1:ws=[]->Q (.ref t) s) (h2:ws≠[]->Q (.ref s.heap.objs.size) { s with heap:=s.heap.push { cls:=.type "tuple",data:=.seq (vs++ws).toArray } })
   (hsz:vs.length+ws.length<=sizeLine):wpAny (model prog w) A (binaryOp .Add (.ref t) (.ref b)) Q E s:=by
 obtain⟨⟨cls,dd,data,sl⟩,ho,hc,n,hd⟩:=id ht
 obtain⟨⟨cls2,dd2,data2,sl2⟩,ho2,hc2,n2,hd2⟩:=id hb
 simp only at hc hd hc2 hd2
 subst hc hd hc2 hd2
 have e:vs.toArray++ws.toArray=(vs++ws).toArray:=by simp
 by_cases hw:ws=[]
 · exact Uz ⟨_,ho,rfl⟩ ⟨_,ho2,rfl⟩ Um seq_tuple_add Yv Yk (Yg _ _)
     (tuple_addW1 t b vs.toArray ws.toArray n n2 dd dd2 sl sl2 (by simpa using hv) (by simp[hw])) ⟨ho,ho2,h1 hw⟩
 · refine Uz ⟨_,ho,rfl⟩ ⟨_,ho2,rfl⟩ Um seq_tuple_add Yv Yk (Yg _ _)
     (tuple_addW2 t b vs.toArray ws.toArray n n2 dd dd2 sl sl2 (by simpa using hv) (by simpa using hw) (by rw[Qi,Qi];exact hsz)) ⟨ho,ho2,?_⟩
   rw[e]
   exact h2 hw
def sIx (n d:Nat):Option Int->Nat
 | none=>d
 | some v=>if v < 0 then(v+(n:Int)).toNat else min v.toNat n
theorem sIx_none (n d:Nat):sIx n d none=d:=rfl
theorem sIx_nat (n d k:Nat):sIx n d (some (k:Int))=min k n:=by
 show(if (k:Int) < 0 then((k:Int)+(n:Int)).toNat else min (k:Int).toNat n)=min k n
 rw[Wd (by omega),Wb]
theorem zQZ (n d:Nat)(hd:d<=n)(o:Option Int):sIx n d o<=n:=by
 cases o with
 | none=>exact hd
 | some v =>
   show(if v < 0 then(v+(n:Int)).toNat else min v.toNat n)<=n
   by_cases hv:v < 0
   · rw[Qc hv];omega
   · rw[Wd hv];exact Nat.min_le_right _ _
theorem zWR (v:Int)(n d:Nat):(if v < 0 then max (v+(n:Int)) 0 else min v (n:Int))=((sIx n d (some v):Nat):Int):=by
 show(if v < 0 then max (v+(n:Int)) 0 else min v (n:Int))=(((if v < 0 then(v+(n:Int)).toNat else min v.toNat n):Nat):Int)
 by_cases hv:v < 0
 · simp only[Qc hv];omega
 · simp only[Wd hv];omega
theorem zXa (lo hi:Option Int)(n:Nat):Builtin.Slice.sliceAdjust lo hi 1 (n:Int)=(((sIx n 0 lo:Nat):Int),((sIx n n hi:Nat):Int)):=by
 have h1:¬((1:Int) < 0):=by omega
 unfold Builtin.Slice.sliceAdjust
 simp only[h1,Yu]
 refine Prod.ext ?_ ?_
 · cases lo with
   | none=>rfl
   | some v=>exact zWR v n 0
 · cases hi with
   | none=>rfl
   | some v=>exact zWR v n n
theorem zXh (i j:Nat):Builtin.Slice.slicePlaces (i:Int) (j:Int) 1=j - i:=by
 unfold Builtin.Slice.slicePlaces
 have h1:(1:Int) > 0:=by omega
 simp only[h1,Rt,Int.ediv_one]
 split<;>omega
theorem eT {v:Value}{o:Option Int}{Q:Option Int->Shared->Prop}(p:IsPart v o)(h:Q o s):wpAny (model prog w) A (Builtin.Slice.slicePartIndex v) Q E s:=by
 cases p with
 | none=>exact slicePart_none h
 | int i t=>exact slicePart_int h
theorem pL {sl:Addr}{vl vu:Value}{lo hi:Option Int}{n:Nat}{Q:Int×Int×Nat->Shared->Prop}(hs:s.heap.IsSliceOf sl vl vu .none)(pl:IsPart vl lo)(pu:IsPart vu hi)
   (h:Q (((sIx n 0 lo:Nat):Int),1,sIx n n hi - sIx n 0 lo) s):wpAny (model prog w) A (Builtin.Slice.sliceApplied (.ref sl) (pure (n:Int))) Q E s:=by
 obtain⟨os,hos,hcs,hds⟩:=id hs
 unfold Builtin.Slice.sliceApplied Builtin.Slice.sliceFields
 refine Qw (Qw (Ep hos hds (x:=vl) rfl (Qw (Ep hos hds (x:=vu) rfl (Qw (Ep hos hds (x:=.none) rfl (Qy ?_)))))))
 refine Qw (slicePart_none ?_)
 show wpAny _ _ (if ((1:Int)==0)=true then _ else _) _ _ s
 rw[Wd (by decide)]
 refine Qw (eT pl (Qw (eT pu (Qw (Qy ?_)))))
 show wpAny _ _ (match Builtin.Slice.sliceAdjust lo hi 1 (n:Int) with | (lo,hi)=>pure (lo,(1:Int),Builtin.Slice.slicePlaces lo hi 1)) _ _ s
 rw[zXa lo hi n]
 show wpAny _ _ (pure (((sIx n 0 lo:Nat):Int),(1:Int),Builtin.Slice.slicePlaces ((sIx n 0 lo:Nat):Int) ((sIx n n hi:Nat):Int) 1)) _ _ s
 rw[zXh]
 exact Qy h
theorem zTz (xs:Array Value)(i k:Nat):((List.range k).filterMap fun(m:Nat)=>xs[((i:Int)+(m:Int)*1).toNat]?).toArray=((xs.toList.drop i).take k).toArray:=by
 have e:(fun(m:Nat)=>xs[((i:Int)+(m:Int)*1).toNat]?)=fun m=>xs[i+m]?:=by
   funext m
   have:((i:Int)+(m:Int)*1).toNat=i+m:=by omega
   rw[this]
 rw[e]
 have:=pick_run xs i k
 rw[List.filterMap_map] at this
 have e2:((fun x=>xs[x]?) ∘ fun x=>i+x)=fun m=>xs[i+m]?:=rfl
 rw[e2] at this
 rw[this]
theorem getItem_tuple_cut {t sl:Addr}{items:Array Value}{vl vu:Value}{lo hi:Option Int}{Q:Value->Shared->Prop}(ht:IsTup s.heap t items)(hs:s.heap.IsSliceOf sl vl vu .none)(pl:IsPart vl lo)(pu:IsPart vu hi)
   (hw:¬(sIx items.size 0 lo=0/\sIx items.size items.size hi=items.size))
   (h:Q (.ref s.heap.objs.size) { s with heap:=s.heap.push { cls:=.type "tuple",data:=.seq ((items.toList.drop (sIx items.size 0 lo)).take (sIx items.size items.size hi - sIx items.size 0 lo)).toArray } })
   (hsz:items.size<=sizeLine):wpAny (model prog w) A (getItem (.ref t) (.ref sl)) Q E s:=by
 have htake:sizeOk (.seq ((items.toList.drop (sIx items.size 0 lo)).take (sIx items.size items.size hi - sIx items.size 0 lo)).toArray):=by
   show((items.toList.drop (sIx items.size 0 lo)).take (sIx items.size items.size hi - sIx items.size 0 lo)).toArray.size<=sizeLine
   rw[Qi,Ub,List.length_drop,Tc]
   omega
 have hj:sIx items.size items.size hi<=items.size:=zQZ _ _ (Qf _) hi
 obtain⟨os,hos,hcs,hds⟩:=id hs
 have hTs:s.TypeIs (.ref sl) "slice":=⟨os,hos,hcs⟩
 unfold getItem
 try with_reducible refine El ?_
 first | refine Qw (Qy ?_) | skip
 refine Qw (wpAny_sequenceKey ht.typeIs (by decide) ?_)
 refine Qw (Ey (name:=Str.ofString "__getitem__") ht.typeIs Ry
   (Ei Ry ht.typeIs entry_tuple_getitem ?_ (args_tuple_getitem _ _)))
 show wpAny _ _ (Builtin.Tuple.tupleItemsOf (.ref t) >>= _) _ _ s
 refine Qw (tupleItemsOf_ ht ?_)
 refine Qw (Yi hTs ?_)
 rw[Qc (by decide)]
 refine Qw (pL hs pl pu ?_)
 have hno:¬((((sIx items.size 0 lo:Nat):Int)==0&&(1:Int)==1&&(sIx items.size items.size hi - sIx items.size 0 lo)==items.size)=true):=by
   intro q
   rw[Qh,Qh] at q
   have q1:((sIx items.size 0 lo:Nat):Int)=0:=eq_of_beq q.1.1
   have q2:sIx items.size items.size hi - sIx items.size 0 lo=items.size:=eq_of_beq q.2
   exact hw ⟨by omega,by omega⟩
 show wpAny _ _ (if (((sIx items.size 0 lo:Nat):Int)==0&&(1:Int)==1&&(sIx items.size items.size hi - sIx items.size 0 lo)==items.size)=true then _ else _) _ _ s
 rw[Wd hno,zTz]
 first
   | exact Qw (m:=Builtin.Tuple.tupleExact _) (Wf (Qy ⟨_,rfl,Qy h⟩) htake)
   | exact Qw (m:=Builtin.Tuple.tupleExact _) (Wf (Qw (Qy (Qy ⟨_,rfl,Qy h⟩))) htake)
   | exact Qw (Qw (m:=Builtin.Tuple.tupleExact _) (Wf (Qy (Qy ⟨_,rfl,Qy h⟩)) htake))
   | exact Qw (Qw (m:=Builtin.Tuple.tupleExact _) (Wf (Qy ⟨_,rfl,Qy h⟩) htake))
end
end HT
namespace L2
open PySem PySem.Spec PyProof.Rows
abbrev TO:=St->Hp->(Option Int->Hp->Prop)->Prop
def PO (X:Cx)(e:Option Expr)(t:TO):Prop :=
 ∀(pins:List (Addr×Obj)) (s:Shared) (σ:St) (H:Hp) (Q:Option Int->Hp->Prop),Inv X pins σ H s->t σ H Q ->
   wpAny (model X.prog X.w) X.A (evalPart e X.env) (fun u s'=>∃o H',Inv X pins σ H' s'/\IsPart u o/\Q o H') X.xe s
def zSo:TO:=fun _ H Q=>Q none H
def zPH (t:TE):TO:=fun σ H Q=>t σ H fun x H1=>∃i,x = .int i/\Q (some i) H1
theorem dA {ns:List Int}:∀ {us:List Value},Vals (ns.map V.int) us->IntsAre us ns:=by
 induction ns with
 | nil=>intro us r;rw[Ym] at r;cases r;exact .nil
 | cons n ns ih =>
   intro us r
   rw[Qb] at r
   cases r with
   | cons r1 r2 =>
     obtain⟨t,e⟩:=r1
     subst e
     exact .cons n t (ih r2)
section
variable {X:Cx} {e:Expr} {te:TE} {lo hi:Option Expr} {tl th:TO} {pos p2:Pos}
theorem zTb:PO X none zSo:=by
 intro pins s σ H Q I h
 rw[evalPart_none]
 exact Qy ⟨none,H,I,.none,h⟩
theorem zSV (h:PE X e te):PO X (some e) (zPH te):=by
 intro pins s σ H Q I hw
 rw[evalPart_some]
 refine thn (h pins s σ H _ I hw) fun u s1 ⟨x,H1,I1,r1,q1⟩=>?_
 obtain⟨i,rfl,q⟩:=q1
 obtain⟨t,rfl⟩:=r1
 exact⟨some i,H1,I1,.int i t,q⟩
def SlR (X:Cx)(r:V->Option Int->Option Int->Hp->VK->Prop):Prop :=
 ∀(pins:List (Addr×Obj)) (s:Shared) (σ:St) (H:Hp) (x:V) (v vl vu:Value) (lo hi:Option Int) (sl:Addr) (Q:VK),Inv X pins σ H s->RelV x v->s.heap.IsSliceOf sl vl vu .none->IsPart vl lo->IsPart vu hi->r x lo hi H Q ->
   ∃T id,typeLookup (.type T) "__getitem__"=pure (some (.builtin id))/\s.TypeIs v T/\wpAny (model X.prog X.w) X.A (getItem v (.ref sl)) (EP X pins σ Q) X.xe s
theorem SlR.or {r r':V->Option Int->Option Int->Hp->VK->Prop}(h:SlR X r)(h':SlR X r'):SlR X (fun x lo hi H Q=>r x lo hi H Q∨r' x lo hi H Q):=by
 intro pins s σ H x v vl vu lo hi sl Q I rx hs pl pu q
 rcases q with q | q
 · exact h pins s σ H x v vl vu lo hi sl Q I rx hs pl pu q
 · exact h' pins s σ H x v vl vu lo hi sl Q I rx hs pl pu q
def tSl (r:V->Option Int->Option Int->Hp->VK->Prop)(te:TE)(tl th:TO):TE:=fun σ H Q=>te σ H fun x H1=>tl σ H1 fun l H2=>th σ H2 fun u H3=>r x l u H3 Q
theorem zYN {r:V->Option Int->Option Int->Hp->VK->Prop}(hr:SlR X r)(he:PE X e te)(hl:PO X lo tl)(hu:PO X hi th):PE X (.Subscript e (.Slice lo hi none p2) pos) (tSl r te tl th):=by
 intro pins s σ H Q I h
 refine Subscript_ (thn (he pins s σ H _ I h) fun v s1 ⟨x,H1,I1,r1,q1⟩=>?_)
 refine wpAny_Slice (thn (hl pins s1 σ H1 _ I1 q1) fun vl s2 ⟨l,H2,I2,pl,q2⟩=>thn (hu pins s2 σ H2 _ I2 q2) fun vu s3 ⟨u,H3,I3,pu,q3⟩=>?_)
 rw[evalPart_none]
 refine Qy ?_
 have I4:Inv X pins σ H3 { s3 with heap:=s3.heap.push { cls:=.type "slice",data:=.fields #[vl,vu,.none] } }:=I3.kept (t':=s3.toks) fun b ob q=>Qr _ q
 obtain⟨T,id,hT,ht,hg⟩:=hr pins { s3 with heap:=s3.heap.push { cls:=.type "slice",data:=.fields #[vl,vu,.none] } } σ H3 x v vl vu l u s3.heap.objs.size Q I4 r1 (Heap.IsSliceOf.new ..) pl pu q3
 show wpAny (model X.prog X.w) X.A (subscriptTail e (.Slice lo hi none p2) v (.ref s3.heap.objs.size)) (EP X pins σ Q) X.xe { s3 with heap:=s3.heap.push { cls:=.type "slice",data:=.fields #[vl,vu,.none] } }
 exact tail_any (ops:=[.ref s3.heap.objs.size,v]) ht hT hg (by with_unfolding_all rfl)
def dQ (xs:List V)(lo hi:Option Int):List V:=(xs.drop (HT.sIx xs.length 0 lo)).take (HT.sIx xs.length xs.length hi - HT.sIx xs.length 0 lo)
theorem gZ (xs:List V)(lo hi:Option Int):(dQ xs lo hi).length<=xs.length:=by
 unfold dQ
 rw[Ub,List.length_drop]
 omega
def zPx (K:PySem.W.Frag):V->Option Int->Option Int->Hp->VK->Prop:=fun x lo hi H Q=>∃a xs,x = .ref a/\SqT K H a xs /\
 ¬(HT.sIx xs.length 0 lo=0/\HT.sIx xs.length xs.length hi=xs.length)/\∀p,H p=none->Q (.ref p) (upd H p (.tup (dQ xs lo hi)))
theorem zRK:SlR X (zPx X.K):=by
 intro pins s σ H x v vl vu lo hi sl Q I rx hs pl pu h
 obtain⟨a,xs,rfl,hx,hw,q⟩:=h
 cases rx
 obtain⟨its,r,ht,hz⟩:=I.tuple hx
 have hlen:its.toArray.size=xs.length:=by rw[Qi];exact r.length.symm
 refine⟨"tuple",_,Ry.lookup,ht.typeIs,?_⟩
 refine HT.getItem_tuple_cut ht hs pl pu (by rw[hlen];exact hw) ?_ (by rw[hlen];exact hz)
 rw[hlen]
 refine⟨.ref s.heap.objs.size,_,I.laid (t':=s.toks) (o:=.tup (dQ xs lo hi)) (fun b ob q=>Qr _ q) (Qf _) ?_,rfl,q _ (I.hok.fresh (Qf _))⟩
 exact⟨Wh (gZ xs lo hi) hz,_,(r.drop (HT.sIx xs.length 0 lo)).take (HT.sIx xs.length xs.length hi - HT.sIx xs.length 0 lo),IsTup.new _ _⟩
def zPK (K:PySem.W.Frag):R2:=fun x y H Q=>∃a b xs ys,x = .ref a/\y = .ref b/\SqT K H a xs/\SqT K H b ys/\xs≠[]/\xs.length+ys.length<=sizeLine /\
 (ys=[]->Q (.ref a) H)/\(ys≠[]->∀p,H p=none->Q (.ref p) (upd H p (.tup (xs++ys))))
theorem Vals.nil_iff {xs:List V}{us:List Value}(r:Vals xs us):us=[]↔xs=[]:=by
 cases r with
 | nil=>simp
 | cons _ _=>simp
theorem zSX:OpR X (binaryOp .Add) (zPK X.K):=by
 intro pins s σ H x y v u Q I rx ry h
 obtain⟨a,b,xs,ys,rfl,rfl,ha,hb,hx,hz,q1,q2⟩:=h
 cases rx
 cases ry
 obtain⟨its,r1,p1,_⟩:=I.tuple ha
 obtain⟨its2,r2,p2,_⟩:=I.tuple hb
 refine HT.cat_tup p1 p2 (fun z=>hx (r1.nil_iff.mp z)) (fun z=>⟨.ref a,H,I,rfl,q1 (r2.nil_iff.mp z)⟩) (fun z=>?_) (by rw[←r1.length,←r2.length];exact hz)
 refine⟨.ref s.heap.objs.size,_,I.laid (t':=s.toks) (o:=.tup (xs++ys)) (fun b ob q=>Qr _ q) (Qf _) ?_,rfl,q2 (fun w=>z (r2.nil_iff.mpr w)) _ (I.hok.fresh (Qf _))⟩
 exact⟨by rw[Wp];exact hz,_,r1.append r2,IsTup.new _ _⟩
end
def ixN (n:Nat)(i:Int):Option Nat:=if 0<=i then(if i < n then some i.toNat else none) else if -(n:Int)<=i then some (i+n).toNat else none
def atI {α:Type}(xs:List α)(i:Int):Option α:=(ixN xs.length i).bind fun j=>xs[j]?
theorem aJ {n:Nat}{i:Int}{j:Nat}(h:ixN n i=some j):seqIndex? i n=some j/\j < n /\ -(n:Int)<=i/\i < n:=by
 unfold ixN at h
 by_cases h0:0<=i
 · rw[Qc h0] at h
   by_cases h1:i < n
   · rw[Qc h1] at h
     have e:i.toNat=j:=Wk h
     exact⟨by rw[seqIndex_of h0 h1,e],by omega,by omega,h1⟩
   · rw[Wd h1] at h;cases h
 · rw[Wd h0] at h
   by_cases h1 : -(n:Int)<=i
   · rw[Qc h1] at h
     have e:(i+n).toNat=j:=Wk h
     exact⟨by rw[seqIndex_neg (by omega) h1,e],by omega,h1,by omega⟩
   · rw[Wd h1] at h;cases h
theorem zZt {α:Type}{xs:List α}{i:Int}{v:α}(h:atI xs i=some v):∃j,seqIndex? i xs.length=some j/\xs[j]?=some v/\j < xs.length /\ -(xs.length:Int)<=i/\i < xs.length:=by
 unfold atI at h
 cases e:ixN xs.length i with
 | none=>rw[e] at h;cases h
 | some j =>
   rw[e] at h
   obtain⟨h1,h2,h3,h4⟩:=aJ e
   exact⟨j,h1,h,h2,h3,h4⟩
theorem zWv {α:Type}{xs:List α}{j:Nat}{v:α}(h:xs[j]?=some v):atI xs (j:Int)=some v:=by
 have hj:j < xs.length:=(Ql.mp h).1
 have e:ixN xs.length (j:Int)=some j:=by
   unfold ixN
   rw[Qc (by omega),Qc (by omega)];simp
 unfold atI;rw[e];exact h
def zZL (b:Expr):Prop:=∀o i,subscripted b false o i=operate [o,i] (getItem o i)
def IxR (X:Cx)(r:R2):Prop :=
 ∀(value slice:Expr) (pins:List (Addr×Obj)) (s:Shared) (σ:St) (H:Hp) (x y:V) (v u:Value) (Q:VK),Inv X pins σ H s->RelV x v->RelV y u->r x y H Q ->
   subscripted slice false v u=operate [v,u] (getItem v u)->wpAny (model X.prog X.w) X.A (subscriptTail value slice v u) (EP X pins σ Q) X.xe s
def MtR (X:Cx)(id:String)(r:V->List V->Hp->VK->Prop):Prop :=
 ∀(pins:List (Addr×Obj)) (s:Shared) (σ:St) (H:Hp) (x:V) (xs:List V) (v:Value) (us:List Value) (Q:VK),Inv X pins σ H s->RelV x v->Vals xs us->r x xs H Q ->
   wpAny (model X.prog X.w) X.A (call (.builtin id) (v::us)) (EP X pins σ Q) X.xe s
section
variable {X:Cx} {a b:Expr} {ta tb:TE} {pos:Pos}
theorem IxR.or {r r':R2}(h:IxR X r)(h':IxR X r'):IxR X (fun x y H Q=>r x y H Q∨r' x y H Q):=by
 intro value slice pins s σ H x y v u Q I rx ry q hs
 rcases q with q | q
 · exact h value slice pins s σ H x y v u Q I rx ry q hs
 · exact h' value slice pins s σ H x y v u Q I rx ry q hs
theorem zRZ {r:R2}(hr:IxR X r)(ha:PE X a ta)(hb:PE X b tb)(hs:zZL b):PE X (.Subscript a b pos) (tOp r ta tb):=by
 intro pins s σ H Q I h
 exact Subscript_ (zRW ha hb I h fun v u s2 x y H2 I2 rx ry q=>hr a b pins s2 σ H2 x y v u Q I2 rx ry q (hs _ _))
def zQ3 (K:PySem.W.Frag):R2:=fun x y H Q=>∃p xs i v,x = .ref p/\y = .int i/\SqL K H p xs/\atI xs i=some v/\Q v H
def zPE (K:PySem.W.Frag):R2:=fun x y H Q=>∃p xs i v,x = .ref p/\y = .int i/\SqT K H p xs/\atI xs i=some v/\Q v H
def zPQ:R2:=fun x y H Q=>∃z i c,x = .str z/\y = .int i/\z.length<=sizeLine/\atI z.cps.toList i=some c/\Q (.str ⟨#[c]⟩) H
theorem zWM:IxR X (zQ3 X.K):=by
 intro value slice pins s σ H x y v u Q I rx ry h hs
 obtain⟨p,xs,i,z,rfl,rfl,hq,he,q⟩:=h
 cases rx
 obtain⟨t,rfl⟩:=ry
 obtain⟨its,r,pl,hz⟩:=I.list hq
 obtain⟨j,h1,h2,h3,h4,h5⟩:=zZt he
 obtain⟨w,ew,rw'⟩:=r.get h2
 have hl:=r.length
 have hn:=iJ
 have fin:EP X pins σ Q w s:=⟨z,H,I,rw',q⟩
 by_cases h0:0<=i
 · have hj:i.toNat=j:=by
     rw[seqIndex_of h0 h5] at h1
     exact Wk h1
   exact item_listR pl.isList h0 (by omega) (by rw[hj];simpa using ew) fin hs
 · have hj:(i+(its.toArray.size:Int)).toNat=j:=by
     rw[seqIndex_neg (by omega) h4] at h1
     rw[Qi,←hl]
     exact Wk h1
   exact subscriptTail_builtinR (x:=w) pl.isList.typeIs slot_list_getitem.lookup
     (wpAny_getItem_list_neg (Q:=fun r s'=>r=w/\EP X pins σ Q r s') pl.isList (by omega) (by rw[Qi]<;>omega) (by omega) (by rw[hj];simpa using ew) ⟨rfl,fin⟩) hs
theorem zRg:IxR X (zPE X.K):=by
 intro value slice pins s σ H x y v u Q I rx ry h hs
 obtain⟨p,xs,i,z,rfl,rfl,hq,he,q⟩:=h
 cases rx
 obtain⟨t,rfl⟩:=ry
 obtain⟨its,r,pl,hz⟩:=I.tuple hq
 obtain⟨j,h1,h2,h3,h4,h5⟩:=zZt he
 obtain⟨w,ew,rw'⟩:=r.get h2
 have hl:=r.length
 have hn:=iJ
 have fin:EP X pins σ Q w s:=⟨z,H,I,rw',q⟩
 exact subscriptTail_builtinR (x:=w) pl.typeIs slot_tuple_getitem.lookup
   (getItem_tuple (j:=j) (Q:=fun r s'=>r=w/\EP X pins σ Q r s') pl (by omega) (by omega) (by rw[Qi,←hl];exact h1) (by simpa using ew) ⟨rfl,fin⟩) hs
theorem zR3:IxR X zPQ:=by
 intro value slice pins s σ H x y v u Q I rx ry h hs
 obtain⟨z,i,c,rfl,rfl,hz,he,q⟩:=h
 obtain⟨t,rfl⟩:=rx
 obtain⟨t',rfl⟩:=ry
 obtain⟨j,h1,h2,h3,h4,h5⟩:=zZt he
 have hl:z.cps.toList.length=z.length:=by simp[Str.length]
 rw[hl] at h1 h4 h5
 have hn:=iJ
 exact tail_any (typeIs_str s z t) slot_str_getitem.lookup (getItem_str (c:=c) (by
   have e1:decide (i < -(2^63:Int))=false:=Wr (by omega)
   have e2:decide (i≥2^63)=false:=Wr (by omega)
   rw[e1,e2,Bool.or_false]) (by rw[h1];simpa using h2) ⟨.str ⟨#[c]⟩,H,I.tok _,⟨_,rfl⟩,q⟩) hs
def rIx (K:PySem.W.Frag):R2:=fun x y H Q=>zQ3 K x y H Q∨zPE K x y H Q∨zPQ x y H Q
theorem zQI:IxR X (rIx X.K):=zWM.or (zRg.or zR3)
theorem zXb (its:List Value)(n j:Nat)(u:Value):Obj.mapSeq (·.setIfInBounds j u) { cls:=.type "list",data:=.seq its.toArray n }={ cls:=.type "list",data:=.seq (its.set j u).toArray n }:=by
 simp[Obj.mapSeq]
theorem Inv.lst {pins:List (Addr×Obj)}{σ:St}{H:Hp}{s:Shared}{p:Addr}{xs:List V}(I:Inv X pins σ H s)(h:H p=some (.lst xs)) :
   ∃(its:List Value) (n:Nat),Vals xs its/\s.heap.get? p=some { cls:=.type "list",data:=.seq its.toArray n }/\xs.length<=sizeLine:=by
 obtain⟨z,its,n,r,e⟩:=I.hok p _ h
 exact⟨its,n,r,e,z⟩
theorem Inv.lstUpd {pins:List (Addr×Obj)}{σ:St}{H:Hp}{s:Shared}{p:Addr}{xs ys:List V}{its its':List Value}{n n':Nat}{f:Obj->Obj}(I:Inv X pins σ H s)(h:H p=some (.lst xs))
   (ho:s.heap.get? p=some { cls:=.type "list",data:=.seq its.toArray n }) (hf:f { cls:=.type "list",data:=.seq its.toArray n }={ cls:=.type "list",data:=.seq its'.toArray n' }) (r:Vals ys its') (hz:ys.length<=sizeLine) (t:Nat) :
   Inv X pins σ (upd H p (.lst ys)) { s with heap:=s.heap.update p f,toks:=t }:=by
 have e:(s.heap.update p f).get? p=some { cls:=.type "list",data:=.seq its'.toArray n' }:=by
   rw[En f ho (by rw[hf]<;>rfl),hf]
 refine I.write (x:=p) (e:=p) (by rw[h];trivial) (.inl rfl) (fun b u hb q=>(Rp _ _ (Ne.symm hb)).trans q) ⟨_,e⟩ ?_
 exact⟨hz,its',n',r,e⟩
def zQf:V->V->V->Hp->(Hp->Prop)->Prop:=fun o i v H Q=>∃p xs k j,o = .ref p/\i = .int k/\H p=some (.lst xs)/\ixN xs.length k=some j/\Q (upd H p (.lst (xs.set j v)))
theorem zUy:zPT X zQf:=by
 intro pins s σ H o i v ov iv u Q I ro ri rv h
 obtain⟨p,xs,k,j,rfl,rfl,hp,hj,q⟩:=h
 cases ro
 obtain⟨t,rfl⟩:=ri
 obtain⟨its,n,r,ho,hz⟩:=I.lst hp
 obtain⟨h1,h2,h3,h4⟩:=aJ hj
 have hl:=r.length
 have hn:=iJ
 have I':Inv X pins σ (upd H p (.lst (xs.set j v))) { s with heap:=s.heap.update p (Obj.mapSeq (·.setIfInBounds j u)) } :=
   I.lstUpd hp ho (zXb its n j u) (r.set rv j) (by rw[Iu];exact hz) s.toks
 by_cases h0:0<=k
 · have hk:k.toNat=j:=by
     rw[seqIndex_of h0 h4] at h1
     exact Wk h1
   exact PySem.W.ki_setAt ho h0 (by omega) (by rw[Qi,←hl];exact h4) (by rw[hk];exact⟨_,I',q⟩)
 · have hk:(k+(its.toArray.size:Int)).toNat=j:=by
     rw[seqIndex_neg (by omega) h3] at h1
     rw[Qi,←hl]
     exact Wk h1
   exact PySem.W.ki_setBack ho (by omega) (by rw[Qi,←hl];exact h3) (by omega) (by rw[hk];exact⟨_,I',q⟩)
theorem zZD (lo hi:Option Int)(n:Nat):(sliceBounds lo hi none n).1=((HT.sIx n 0 lo:Nat):Int)/\(sliceBounds lo hi none n).2.1=((HT.sIx n n hi:Nat):Int)/\(sliceBounds lo hi none n).2.2=1:=by
 refine⟨?_,?_,rfl⟩
 · cases lo with
   | none=>simp[sliceBounds,HT.sIx]
   | some i =>
     simp only[sliceBounds,HT.sIx,Iq,show(1:Int) > 0 by decide,Rt]
     by_cases h:i < 0
     · simp only[h,Rt]<;>omega
     · simp only[h,Yu]<;>omega
 · cases hi with
   | none=>simp[sliceBounds,HT.sIx]
   | some i =>
     simp only[sliceBounds,HT.sIx,Iq,show(1:Int) > 0 by decide,Rt]
     by_cases h:i < 0
     · simp only[h,Rt]<;>omega
     · simp only[h,Yu]<;>omega
theorem bY (its:List Value)(lo hi:Option Int):slicePick its.toArray lo hi none=((its.drop (HT.sIx its.length 0 lo)).take (HT.sIx its.length its.length hi - HT.sIx its.length 0 lo)).toArray:=by
 obtain⟨h1,h2,h3⟩:=zZD lo hi its.toArray.size
 unfold slicePick
 rw[h1,h2,h3]
 simp only[sliceRange_one,pick_run,Qi]<;>rfl
def zP7 (K:PySem.W.Frag):V->Option Int->Option Int->Hp->VK->Prop:=fun x lo hi H Q=>∃a xs,x = .ref a/\SqL K H a xs/\∀p,H p=none->Q (.ref p) (upd H p (.lst (dQ xs lo hi)))
theorem zS9:SlR X (zP7 X.K):=by
 intro pins s σ H x v vl vu lo hi sl Q I rx hs pl pu h
 obtain⟨a,xs,rfl,hx,q⟩:=h
 cases rx
 obtain⟨its,r,ht,hz⟩:=I.list hx
 have hlen:=r.length
 refine⟨"list",_,slot_list_getitem.lookup,ht.isList.typeIs,?_⟩
 refine wpAny_getItem_list_slice ht.isList hs pl pu .none (by simp) ?_ (by rw[Qi]<;>omega)
 rw[bY,←hlen]
 refine⟨.ref s.heap.objs.size,_,I.laid (t':=s.toks) (o:=.lst (dQ xs lo hi)) (fun b ob q=>Qr _ q) (Qf _) ?_,rfl,q _ (I.hok.fresh (Qf _))⟩
 exact⟨Wh (gZ xs lo hi) hz,_,0,(r.drop (HT.sIx xs.length 0 lo)).take (HT.sIx xs.length xs.length hi - HT.sIx xs.length 0 lo),Qp _ rfl⟩
theorem jQ:CallR X (.builtin "len") (fun xs H Q=>∃p ys,xs=[.ref p]/\(SqL X.K H p ys∨SqT X.K H p ys)/\Q (.int ys.length) H):=by
 intro pins s σ H xs us Q I r h
 obtain⟨p,ys,rfl,hq,q⟩:=h
 obtain⟨u,rfl,rx⟩:=rF r
 cases rx
 have hn:=iJ
 rcases hq with hq | hq
 · obtain⟨its,r',pl,hz⟩:=I.list hq
   have hlen:=r'.length
   exact Calls.call_len_list pl.isList (by simp only[Qi]<;>omega) ⟨.int ys.length,H,I.tok _,⟨s.toks+1,by rw[Qi,hlen]⟩,q⟩
 · obtain⟨its,r',pl,hz⟩:=I.tuple hq
   have hlen:=r'.length
   exact len_tuple pl (by simp only[Qi]<;>omega) ⟨.int ys.length,H,I.tok _,⟨s.toks+1,by rw[Qi,hlen]⟩,q⟩
theorem aL:CallR X (.builtin "len") (fun xs H Q=>∃z,xs=[.str z]/\z.length<=sizeLine/\Q (.int z.length) H):=by
 intro pins s σ H xs us Q I r h
 obtain⟨z,rfl,hz,q⟩:=h
 obtain⟨u,rfl,t,rfl⟩:=rF r
 have hn:=iJ
 exact len_str (by omega) ⟨.int z.length,H,I.tok _,⟨_,rfl⟩,q⟩
theorem CallR.or {f:Value}{r r':List V->Hp->VK->Prop}(h:CallR X f r)(h':CallR X f r'):CallR X f (fun xs H Q=>r xs H Q∨r' xs H Q):=by
 intro pins s σ H xs us Q I rs q
 rcases q with q | q
 · exact h pins s σ H xs us Q I rs q
 · exact h' pins s σ H xs us Q I rs q
theorem aB:CallR X (.type "list") (fun xs H Q=>∃p ys,xs=[.ref p]/\(SqL X.K H p ys∨SqT X.K H p ys)/\∀l,H l=none->Q (.ref l) (upd H l (.lst ys))):=by
 intro pins s σ H xs us Q I r h
 obtain⟨p,ys,rfl,hq,q⟩:=h
 obtain⟨u,rfl,rx⟩:=rF r
 cases rx
 have fin:∀(its:List Value),Vals ys its->ys.length<=sizeLine->∀(h':Heap) (c':Nat),(∀b o',s.heap.get? b=some o'->h'.get? b=some o') ->
     h'.get? s.heap.objs.size=some { cls:=.type "list",dict:=none,data:=.seq its.toArray c',slots:=#[] }->EP X pins σ Q (.ref s.heap.objs.size) { s with heap:=h' }:=fun its r' hz h' c' kp e =>
   ⟨.ref s.heap.objs.size,_,I.laid (t':=s.toks) kp (Qf _) (show ObjOk X.prog X.w _ h' _ (.lst ys) from⟨hz,its,c',r',e⟩),rfl,q _ (I.hok.fresh (Qf _))⟩
 rcases hq with hq | hq
 · obtain⟨its,r',pl,hz⟩:=I.list hq
   have hlen:=r'.length
   obtain⟨o,ho,hc,n,hd⟩:=pl.isList
   exact call_list_seq p (.inl rfl) ho hc hd (fun h' c' kp e=>fin its r' hz h' c' kp e) (by simp only[Qi]<;>omega)
 · obtain⟨its,r',pl,hz⟩:=I.tuple hq
   have hlen:=r'.length
   obtain⟨o,ho,hc,n,hd⟩:=pl
   exact call_list_seq p (.inr rfl) ho hc hd (fun h' c' kp e=>fin its r' hz h' c' kp e) (by simp only[Qi]<;>omega)
theorem cT:CallR X (.type "tuple") (fun xs H Q=>∃p ys,xs=[.ref p]/\((SqL X.K H p ys/\∀l,H l=none->Q (.ref l) (upd H l (.tup ys)))∨(SqT X.K H p ys/\Q (.ref p) H))):=by
 intro pins s σ H xs us Q I r h
 obtain⟨p,ys,rfl,h⟩:=h
 obtain⟨u,rfl,rx⟩:=rF r
 cases rx
 rcases h with⟨hq,q⟩ | ⟨hq,q⟩
 · obtain⟨its,r',pl,hz⟩:=I.list hq
   have hlen:=r'.length
   refine call_tuple_list pl.isList (fun h' kp=>?_) (by simp only[Qi]<;>omega)
   have I1:Inv X pins σ H { s with heap:=h' }:=I.kept (t':=s.toks) kp
   have I2:Inv X pins σ (upd H h'.objs.size (.tup ys)) { s with heap:=h'.push { cls:=.type "tuple",data:=.seq its.toArray } } :=
     I1.laid (t':=s.toks) (fun b o e=>Qr _ e) (Qf _) (show ObjOk X.prog X.w _ _ _ (.tup ys) from⟨hz,its,r',IsTup.new _ _⟩)
   exact⟨.ref h'.objs.size,_,I2,rfl,q _ (I1.hok.fresh (Qf _))⟩
 · obtain⟨its,r',pl,hz⟩:=I.tuple hq
   exact call_tuple_same pl ⟨.ref p,H,I,rfl,q⟩
def tyV (K:PySem.W.Frag)(T:String)(x:V)(H:Hp):Prop:=match x with
 | .str _=>T="str"
 | .int _=>T="int"
 | .ref p=>(T="list"/\∃xs,SqL K H p xs)∨(T="tuple"/\∃o,K.lookup p=some o/\o.cls = .type "tuple"/\o.dict=none) ∨
     (T="dict"/\((∃kvs,H p=some (.dK kvs))∨∃kvs,H p=some (.dT kvs)))∨(T="set"/\∃S n,H p=some (.set S n))
 | _=>False
theorem zQF {pins:List (Addr×Obj)}{σ:St}{H:Hp}{s:Shared}{T:String}{x:V}{v:Value}(I:Inv X pins σ H s)(r:RelV x v)(ty:tyV X.K T x H) :
   s.TypeIs v T/\∀a,v = .ref a->∃ob,s.heap.get? a=some ob/\ob.dict=none:=by
 cases x with
 | str z =>
   obtain⟨t,rfl⟩:=r
   cases (show T="str" from ty)
   exact⟨typeIs_str s z t,fun _ e=>nomatch e⟩
 | int i =>
   obtain⟨t,rfl⟩:=r
   cases (show T="int" from ty)
   exact⟨Uf s i t,fun _ e=>nomatch e⟩
 | ref p =>
   cases r
   rcases ty with⟨rfl,xs,hq⟩ | ⟨rfl,o,hk,hc,hd⟩ | ⟨rfl,hk⟩ | ⟨rfl,S,n,hk⟩
   · obtain⟨its,_,pl,_⟩:=I.list hq
     refine⟨pl.isList.typeIs,fun a e=>?_⟩
     cases e
     obtain⟨o,n,e,c,hd,_⟩:=pl
     exact⟨o,e,hd⟩
   · refine⟨⟨o,I.kIn p o hk,hc⟩,fun a e=>?_⟩
     cases e
     exact⟨o,I.kIn _ o hk,hd⟩
   · have z:∃o,s.heap.get? p=some o/\o.ExactDict:=by
       rcases hk with⟨kvs,hk⟩ | ⟨kvs,hk⟩
       · obtain⟨_,_,_,_,o,_,_,e,ex,_⟩:=I.hok p _ hk
         exact⟨o,e,ex⟩
       · obtain⟨_,_,_,_,o,_,_,e,ex,_⟩:=I.hok p _ hk
         exact⟨o,e,ex⟩
     obtain⟨o,e,ex⟩:=z
     refine⟨⟨o,e,ex.1⟩,fun a e2=>?_⟩
     cases e2
     exact⟨o,e,ex.2.1⟩
   · obtain⟨o,_,_,_,e,ex,_⟩:=I.hok p _ hk
     refine⟨⟨o,e,ex.1⟩,fun a e2=>?_⟩
     cases e2
     exact⟨o,e,ex.2.1⟩
 | _=>exact False.elim ty
def tBM (K:PySem.W.Frag)(T:String)(r:V->List V->Hp->VK->Prop)(to:TE)(t:TA):TE:=fun σ H Q=>to σ H fun x H1=>tyV K T x H1/\t σ H1 fun xs H2=>r x xs H2 Q
variable {o e:Expr} {es:List Expr} {to:TE} {t:TA} {name:Str} {apos cpos:Pos} {T id:String} {r:V->List V->Hp->VK->Prop}
theorem hZ (pa:PlainAttrs T)(slot:Slot T name id)(hty:typeOf (.builtin id)=pure (.type "method_descriptor"))(hm:MtR X id r)(ho:PE X o to)(ha:PA X (e::es) t)
   (hbase:attributeBase o name X.env (eval o X.env)=eval o X.env:=by rfl)
   (hfew:((backTo cpos (starEach (e::es) X.env)).all (fun x => !x.1)&&(backToKw cpos (keywordEach [] X.env)).all (fun x=>x.1.isSome)
     && decide ((e::es).length+([]:List Keyword).length+(if ([]:List Keyword).isEmpty then 0 else 1) < 30))=true:=by rfl)
   (hline:(apos.endLine==cpos.line)=true:=by rfl) (hs:starEach (e::es) X.env=(false,eval e X.env)::starEach es X.env:=by rfl) (hplain:(backTo cpos (starEach es X.env)).any (·.1)=false:=by rfl) :
   PE X (.Call (.Attribute o name apos) (e::es) [] cpos) (tBM X.K T r to t):=by
 intro pins s σ H Q I h
 refine wpAny_Call_method_late hbase hfew hline rfl (thn (ho pins s σ H _ I h) fun v s1 ⟨x,H1,I1,r1,ty,q1⟩=>?_)
 obtain⟨h1,h2⟩:=zQF I1 r1 ty
 refine⟨T,id,pa,slot,hty,h1,h2,?_⟩
 have hA:=ha cpos pins s1 σ H1 _ I1 q1
 rw[hs] at hA ⊢
 refine Calls.callWith_builtin (by show(false||(backTo cpos (starEach es X.env)).any (·.1))=false;rw[hplain]<;>rfl) (Calls.evalArgs_plain ?_)
 exact thn hA fun us s2 ⟨vs,H2,I2,r2,q2⟩=>hm pins s2 σ H2 x vs v us Q I2 r1 r2 q2
end
def MtM (X:Cx)(id:String)(r:V->List V->Hp->VK->Prop):Prop :=
 ∀(pins:List (Addr×Obj)) (s:Shared) (σ:St) (H:Hp) (x:V) (xs:List V) (v:Value) (us:List Value) (Q:VK),Inv X pins σ H s->RelV x v->Vals xs us->r x xs H Q ->
   wpAny (model X.prog X.w) X.A (call (.builtin id) (v::us)) (EP X pins σ Q) X.xe s
theorem Vals.one:∀ {x:V} {us:List Value},Vals [x] us->∃u,us=[u]/\RelV x u
 | _,_,.cons r .nil=>⟨_,rfl,r⟩
theorem Vals.eraseIdx:∀ {xs:List V} {us:List Value} (i:Nat),Vals xs us->Vals (xs.eraseIdx i) (us.eraseIdx i)
 | _,_,_,.nil=>.nil
 | _,_,0,.cons _ t=>t
 | _,_,i+1,.cons r t=>.cons r (Vals.eraseIdx i t)
theorem Vals.reverse {xs:List V}{us:List Value}(h:Vals xs us):Vals xs.reverse us.reverse:=by
 induction h with
 | nil=>exact .nil
 | cons r t ih=>rw[Ts,Ts];exact Vals.append ih (.cons r .nil)
theorem Vals.rep {xs:List V}{us:List Value}(h:Vals xs us):∀k:Nat,Vals (List.replicate k xs).flatten (List.replicate k us).flatten
 | 0=>.nil
 | k+1=>by
   rw[Ws,Ws,Rg,Rg]
   exact Vals.append h (Vals.rep h k)
theorem bE {α:Type}:∀(l:List α) (i:Nat),(l.eraseIdx i).length<=l.length
 | [],_=>Qf _
 | _::_,0=>Ta _
 | _::r,i+1=>Nat.succ_le_succ (bE r i)
theorem iW (its:List Value):∀(k:Nat) (acc:List Value),
   List.foldl (fun x1 x2=>x1++x2) acc.toArray (List.replicate k its.toArray)=(acc++(List.replicate k its).flatten).toArray
 | 0,acc=>by simp
 | k+1,acc=>by
   have e:acc.toArray++its.toArray=(acc++its).toArray:=by simp
   have e2:(acc++its)++(List.replicate k its).flatten=acc++(List.replicate (k+1) its).flatten:=by
     rw[Ws,Rg,Td]
   rw[←e2,←iW its k (acc++its),←e,Ws,List.foldl_cons]
section
variable {X:Cx} {pins:List (Addr×Obj)} {σ:St} {H:Hp} {s:Shared} {l:Addr} {xs ys:List V}
theorem Inv.lset {its its':List Value}{n:Nat}{f:Array Value->Array Value}{t':Nat}(I:Inv X pins σ H s)(hH:H l=some (.lst xs))
   (e:s.heap.get? l=some { cls:=.type "list",data:=.seq its.toArray n }) (hf:f its.toArray=its'.toArray) (hv:Vals ys its') (hz:ys.length<=sizeLine) :
   Inv X pins σ (upd H l (.lst ys)) { s with heap:=s.heap.update l (Obj.mapSeq f),toks:=t' }:=by
 have q:=PySem.IsL.update e f
 rw[hf] at q
 refine I.write (x:=l) (e:=l) (by rw[hH];exact trivial) (.inl rfl) (fun b' u hb hu=>(Rp s.heap (Obj.mapSeq f) (Ne.symm hb)).trans hu) ⟨_,q⟩ ?_
 exact⟨hz,its',_,hv,q⟩
theorem Inv.lnew {its:List Value}{t':Nat}(I:Inv X pins σ H s)(hv:Vals ys its)(hz:ys.length<=sizeLine) :
   Inv X pins σ (upd H s.heap.objs.size (.lst ys)) { s with heap:=s.heap.push { cls:=.type "list",data:=.seq its.toArray },toks:=t' } :=
 I.laid (fun _ _ q=>Qr _ q) (Qf _) ⟨hz,its,0,hv,Qp _ rfl⟩
theorem Inv.fresh (I:Inv X pins σ H s):H s.heap.objs.size=none:=I.hok.fresh (Qf _)
theorem Inv.lstM (I:Inv X pins σ H s)(hH:H l=some (.lst xs)):xs.length<=sizeLine/\∃(its:List Value) (n:Nat),Vals xs its/\xs.length=its.length/\s.heap.get? l=some { cls:=.type "list",data:=.seq its.toArray n }:=by
 obtain⟨z,its,n,r,e⟩:=I.hok l _ hH
 exact⟨z,its,n,r,r.length,e⟩
theorem zTA {n:Nat}(h:n<=sizeLine):Builtin.List.listTooLong n=false:=by
 unfold Builtin.List.listTooLong
 exact Wr (by omega)
def zWn:V->List V->Hp->VK->Prop:=fun x vs H Q=>∃l xs y,x = .ref l/\vs=[y]/\H l=some (.lst xs)/\xs.length < sizeLine/\Q .non (upd H l (.lst (xs++[y])))
theorem uB:MtM X "list.append" zWn:=by
 intro pins s σ H x vs v us Q I rx rv h
 obtain⟨l,xs,y,rfl,rfl,hH,hz,q⟩:=h
 cases rx
 obtain⟨u,rfl,ru⟩:=rv.one
 obtain⟨z,its,n,r,hl,e⟩:=I.lstM hH
 refine Yh F.slot_list_append ⟨_,e,rfl⟩ F.entry_list_append (F.args_list_append_2 _ _) (PySem.list_append l its.toArray n u (by rw[Qi];omega)) ⟨e,?_⟩
 refine⟨.non,_,I.lset (its':=its++[u]) hH e (by simp) (r.append (.cons ru .nil)) ?_,rfl,q⟩
 rw[Wp,List.length_singleton]
 omega
def zUh:V->List V->Hp->VK->Prop:=fun x vs H Q=>∃l xs i k y,x = .ref l/\vs=[.int i]/\H l=some (.lst xs) /\ -(2^63)<=i/\i < 2^63/\seqIndex? i xs.length=some k/\xs[k]?=some y/\Q y (upd H l (.lst (xs.eraseIdx k)))
theorem zUn:MtM X "list.pop" zUh:=by
 intro pins s σ H x vs v us Q I rx rv h
 obtain⟨l,xs,i,k,y,rfl,rfl,hH,h1,h2,hk,hy,q⟩:=h
 cases rx
 obtain⟨u,rfl,ru⟩:=rv.one
 obtain⟨t,rfl⟩:=ru
 obtain⟨z,its,n,r,hl,e⟩:=I.lstM hH
 obtain⟨w,hw,rw'⟩:=r.get hy
 refine Yh F.slot_list_pop ⟨_,e,rfl⟩ F.entry_list_pop (F.args_list_pop_2 _ _)
   (MeetsSeq.list_pop_at l its.toArray n i t k w (fitsIndex_both h1 h2) (by rw[Qi,←hl];exact hk) (by rw[←Th];exact hw) (by rw[Qi];omega)) ⟨e,?_⟩
 refine⟨y,_,I.lset (its':=its.eraseIdx k) hH e ?_ (r.eraseIdx k) ?_,rw',q⟩
 · show its.toArray.eraseIdxIfInBounds k=(its.eraseIdx k).toArray
   rw[List.eraseIdxIfInBounds_toArray]
 · have:=bE xs k
   omega
def zPt:R2:=fun x y H Q=>∃l b xs zs,x = .ref l/\y = .ref b/\H l=some (.lst xs)/\H b=some (.lst zs)/\xs.length+zs.length<=sizeLine/\∀p,H p=none->Q (.ref p) (upd H p (.lst (xs++zs)))
theorem zRD:OpR X (binaryOp .Add) zPt:=by
 intro pins s σ H x y v u Q I rx ry h
 obtain⟨l,b,xs,zs,rfl,rfl,hH,hB,hz,q⟩:=h
 cases rx
 cases ry
 obtain⟨z,its,n,r,hl,e⟩:=I.lstM hH
 obtain⟨z2,its2,n2,r2,hl2,e2⟩:=I.lstM hB
 refine PySem.P.add_list e e2 ?_ (by rw[Qi,Qi];omega)
 have ea:its.toArray++its2.toArray=(its++its2).toArray:=by simp
 rw[ea]
 exact⟨.ref _,_,I.lnew (t':=s.toks) (r.append r2) (by rw[Wp];omega),rfl,q _ I.fresh⟩
def zPj:R2:=fun x y H Q=>∃l k xs,x = .ref l/\y = .int k/\H l=some (.lst xs) /\ -(2^63)<=k/\k < 2^63/\xs.length*k.toNat<=sizeLine /\
 ∀p,H p=none->Q (.ref p) (upd H p (.lst (List.replicate k.toNat xs).flatten))
theorem zSw {α:Type}(xs:List α)(k:Nat):(List.replicate k xs).flatten.length=k*xs.length:=by
 induction k with
 | zero=>simp
 | succ k ih=>rw[Ws,Rg,Wp,ih,Nat.succ_mul,Ux]
theorem zQO:OpR X (binaryOp .Mult) zPj:=by
 intro pins s σ H x y v u Q I rx ry h
 obtain⟨l,k,xs,rfl,rfl,hH,h1,h2,hz,q⟩:=h
 cases rx
 obtain⟨t,rfl⟩:=ry
 obtain⟨z,its,n,r,hl,e⟩:=I.lstM hH
 have hlen:its.toArray.size*k.toNat<=sizeLine:=by rw[Qi,←hl];exact hz
 have hcap:¬its.toArray.size*k.toNat > (2^63 - 1) / 8:=by
   have:(sizeLine:Nat)<=(2^63 - 1) / 8:=by decide
   omega
 have hfit:¬(!Builtin.List.listFitsIndex k)=true:=by
   rw[fitsIndex_both h1 h2]
   exact Qn
 have hlong:¬Builtin.List.listTooLong (its.toArray.size*k.toNat)=true:=by
   rw[zTA hlen]
   exact Qn
 have hnew:List.foldl (fun x1 x2=>x1++x2) #[] (List.replicate (if its.toArray.isEmpty=true then 0 else k.toNat) its.toArray)=(List.replicate k.toNat its).flatten.toArray:=by
   have f0:∀m:Nat,List.foldl (fun x1 x2=>x1++x2) #[] (List.replicate m its.toArray)=(List.replicate m its).flatten.toArray:=fun m=>by
     have:=iW its m []
     rw[Ev] at this
     exact this
   rw[f0]
   cases its with
   | nil=>simp
   | cons a r'=>rw[Wd (by simp)]
 refine Iv (T:="list") (U:="int") (by decide) ⟨_,e,rfl⟩ (fun s'=>Uf s' k t) noFill_list_mul F.fills_int_mul F.slot_int_rmul repeat_list F.slot_int_index.lookup
   (Yh F.slot_int_rmul (Uf s k t) F.entry_int_rmul (F.args_int_rmul_2 _ _) (int___rmul___int_list k t l its.toArray n)
     ⟨e,rfl,⟨_,e,rfl⟩,Yh F.slot_list_mul ⟨_,e,rfl⟩ F.entry_list_mul (F.args_list_mul_2 _ _) (AutoListH.list___mul___list_int_3 l its.toArray n k t hfit hcap hlong) ⟨e,?_⟩⟩)
 rw[hnew]
 exact⟨.ref _,_,I.lnew (t':=s.toks) (r.rep k.toNat) (by rw[zSw,Rf];exact hz),rfl,q _ I.fresh⟩
end
end L2
namespace Att
open PySem PySem.W PySem.Calls PyProof.Rows
theorem gO {P:Params}{h:Heap}:∀(ns:List Int) (vs:List Value),WellAll P h vs (ns.map WData.int)->IntsAre vs ns:=by
 intro ns
 induction ns with
 | nil =>
   intro vs w
   rw[Ym] at w
   cases w
   exact .nil
 | cons n ns ih =>
   intro vs w
   rw[Qb] at w
   cases w with
   | cons a b =>
     cases a
     exact .cons _ _ (ih _ b)
theorem zVK {l:OpenLaw}{n:Nat}(hn:l.most=some n){P:Params}{h:Heap}{args:List WData}{vals:List Value}
   (hpre:l.row.toRowW.claim.pre args=true) (hwl:WellAll P h vals args) :
   ∃a vs ns,vals=[Value.ref a]/\args=[WData.list (ns.map WData.int)]/\h.get? a=some { cls:=.type "list",data:=.seq vs.toArray }/\IntsAre vs ns/\ns.length<=n:=by
 have hsh:WShape.hasAll [] args [.list .int]=true:=(pre_splitW hpre).1
 have hc:l.pre.holds [] { args:=args }=true:=(pre_splitW hpre).2
 obtain⟨d,r,rfl,h1,h2⟩:=hasAllW_cons hsh
 obtain rfl:=hasAllW_nil h2
 obtain⟨xs,rfl,h3⟩:=hasW_list h1
 obtain⟨ns,rfl⟩:=items_int h3
 have hlen:ns.length<=n:=by
   unfold OpenLaw.pre at hc
   have h4:(WTm.not (.lt (.lit (.int (n:Int))) (.len (.arg 0)))).holds [] { args:=[.list (ns.map .int)] }=true:=by
     have h4:=(holds_andW hc).1
     rw[hn] at h4
     exact h4
   have h5:=condW_of h4 (w_not (w_lt w_lit (w_len_list (w_arg rfl))))
   rw[Qo] at h5
   refine Nat.le_of_not_lt fun q=>?_
   have q':(n:Int) < ((ns.length:Nat):Int):=by omega
   first
     | (rw[Qg q'] at h5;exact absurd h5 (by decide))
     | (simp at h5;omega)
 cases hwl with
 | cons w1 w2 =>
   cases w2
   cases w1 with
   | list ho hall=>exact⟨_,_,ns,rfl,rfl,ho,gO ns _ hall,hlen⟩
theorem zVp (l:OpenLaw)(args:List WData):l.row.toRowW.claim.post args (.bool true) args=true :=
 postW_of (r:=l.row.toRowW) (X:=(true==true))
   (show WShape.has [] (.bool true) .bool=true by first | rfl | decide | simp[WShape.has,WShape.arms,WShape.armsAll])
   (show(WTm.eq .res (.lit (.bool true))).value [] { args:=args,res:=some (.bool true),after:=args }=some (.bool (true==true)) from w_eq_bool (w_res rfl) w_lit) rfl
end Att
namespace L2
open PySem PySem.Spec PyProof.Rows
theorem mM:∀ {vs:List Value} {ns:List Int},IntsAre vs ns->Vals (ns.map V.int) vs
 | _,_,.nil=>.nil
 | _,_,.cons n t h=>.cons ⟨t,rfl⟩ (mM h)
def zRq (H:Hp):Prop:=∀b,H b=none∨∃o xs,H b=some (.frz o (.lst xs))
theorem zUw {P:Program}{w:World}{K:PySem.W.Frag}{mg mb:Str->Option Value}{CX:CXT}{k:Nat}{fa a:Addr}{fd:FuncData}{x:Str}{sp:Sp}{s₁:Shared}{vs:List Value}{ns:List Int}
   (KX:K.In s₁.heap) (hns:s₁.heap.Ns mainGlobals mg) (hb:s₁.heap.Ns builtinsNs mb) (hbb:∀x:Str,x≠"__name__"->mb x=bootBuiltins x) (hlim:s₁.heap.NoLimit) (hg:s₁.gens=#[])
   (ha:s₁.heap.get? a=some { cls:=.type "list",data:=.seq vs.toArray }) (hi:IntsAre vs ns) (hl:ns.length<=sizeLine) (hr:Room k callerA)
   (F:∀base:Heap,K.In base->base.Ns mainGlobals mg->FnOk P w K mg base CX k fa fd [x] sp) (hbind:∀(s:Shared) (u:Value),BindsTo s fd ⟨[u],[]⟩ [(x,u)])
   (hsp:∀H:Hp,zRq H->SqL K H a (ns.map V.int)->sp [.ref a] H (fun v _=>v = .bl true) fun _ _ _=>False)
   (hCX:∀H e s',CX [] H s₁ (fun _ _ _=>False) e s'->False) :
   codeAny (model P w) callerA (.call (.ref fa) ⟨[.ref a],[]⟩) (fun r s'=>r = .ok (.ret (.bool true))/\OldK s₁.heap s'.heap/\s'.os=s₁.os/\AllBare s'.gens) s₁:=by
 have rv:=mM hi
 have lenV:=hi.length
 -- from an abstract heap in which nothing but the script may be tracked
 have core:∀H:Hp,zRq H->SqL K H a (ns.map V.int)->HOk P w H s₁.heap->(∀b,H b≠none->b=a)->(H a≠none->K.lookup a=none) ->
     codeAny (model P w) callerA (.call (.ref fa) ⟨[.ref a],[]⟩) (fun r s'=>r = .ok (.ret (.bool true))/\OldK s₁.heap s'.heap/\s'.os=s₁.os/\AllBare s'.gens) s₁:=by
   intro H hO hS hok hA hK
   have base_of:∀ {b:Addr} {o:Obj},s₁.heap.get? b=some o->H b=none->(zZK s₁.heap H).get? b=some o:=fun e n=>zUZ e n
   have noA:∀ {b:Addr} {o:Obj} {es:Array DictEntry} {ep:Nat},s₁.heap.get? b=some o->o.data = .dict es ep->H b=none:=fun {b o es ep} e d=>by
     cases q:H b with
     | none=>rfl
     | some u =>
       have e':b=a:=hA b (by rw[q];simp)
       subst e'
       rw[ha] at e;cases e
       have d':Data.seq vs.toArray _=Data.dict es ep:=d
       cases d'
   have nsK:∀ {b:Addr} {m:Str->Option Value},s₁.heap.Ns b m->(zZK s₁.heap H).Ns b m:=fun {b m} ⟨o,es,ep,e,d,r⟩=>⟨o,es,ep,base_of e (noA e d),d,r⟩
   have hKb:K.In (zZK s₁.heap H):=fun b o e=>base_of (KX b o e) (by
     cases q:H b with
     | none=>rfl
     | some u =>
       have e':b=a:=hA b (by rw[q];simp)
       subst e'
       rw[hK (by rw[q];simp)] at e;cases e)
   have hM:Mod K mg (zZK s₁.heap H):=⟨hKb,nsK hns,⟨mb,nsK hb,hbb⟩,let ⟨mc,h1,h2⟩:=hlim;⟨mc,nsK h1,h2⟩⟩
   have e0:Env0 P w K mg (zZK s₁.heap H) callerA [] s₁ H:=⟨rfl,hM,fun b o e=>zSR e,Nat.le_of_eq (zVi _ _),trivial,fun b hb=>absurd (show b∈([]:List Addr) from hb) (by simp),hok,.of_eq hg⟩
   refine Yt ((F _ hKb (nsK hns)).run callerA [] s₁ H ⟨[.ref a],[]⟩ [.ref a] [.ref a] _ _ hr e0 (hbind s₁ (.ref a)) (.cons rfl .nil) (hsp H hO hS)) fun r s' h=>?_
   cases r with
   | error e=>exact(hCX H e s' h).elim
   | ok fl =>
     cases fl with
     | next=>exact False.elim h
     | brk=>exact False.elim h
     | cont=>exact False.elim h
     | ret u =>
       obtain⟨v,H',os,bare,un,hok',r',q⟩:=h
       have q':v = .bl true:=q
       subst q'
       obtain rfl:u=Value.bool true:=r'
       refine⟨rfl,OldK.of_keep fun b o e=>?_,os,bare⟩
       cases q:H b with
       | none=>exact un.keep b o e q (by intro z;exact absurd (show b∈([]:List Addr) from z) (by simp)) (by simp)
       | some u =>
         rcases hO b with z | ⟨ob,xs,z⟩
         · rw[q] at z;cases z
         · have z2:=un.frzs b ob _ z
           obtain⟨e1,_⟩:=hok b _ z
           obtain⟨e2,_⟩:=hok' b _ z2
           rw[e] at e1;cases e1
           exact e2
 cases hk:K.lookup a with
 | some o =>
   -- the script is one of the module's own objects
   have e:=KX a o hk
   rw[ha] at e
   cases e
   refine core (fun _=>none) (fun _=>.inl rfl) (.inr ⟨_,vs.toArray,_,hk,rfl,rfl,rfl,by rw[Qi,lenV];exact hl,by simpa using rv⟩) (fun b u z=>by have z':(none:Option HO)=some u:=z;cases z') (fun b z=>absurd rfl z) fun z=>absurd rfl z
 | none =>
   refine core (fun b=>if b=a then some (.frz { cls:=.type "list",data:=.seq vs.toArray } (.lst (ns.map V.int))) else none) (fun b=>?_) (.inl (.inr ⟨{ cls:=.type "list",data:=.seq vs.toArray },Qc rfl⟩)) (fun b u z=>?_) (fun b z=>?_) fun _=>hk
   · by_cases hb:b=a
     · exact .inr ⟨_,_,Qc hb⟩
     · exact .inl (Wd hb)
   · by_cases hb:b=a
     · have z':=(Qc hb).symm.trans z
       cases z'
       subst hb
       exact⟨ha,by rw[Qo];exact hl,vs,_,rv,ha⟩
     · have z':=(Wd hb).symm.trans z
       cases z'
   · by_cases hb:b=a
     · exact hb
     · exact absurd (Wd hb) z
abbrev CX0:CXT:=fun _ _ _ _ _ _=>False
abbrev E0:XK:=fun _ _ _=>False
theorem zUb {X:Cx}:fO CX0 X E0:=fun _ _ _ _ _ _ _ h=>h.elim
structure Fun (K:PySem.W.Frag)(x qual:Str)(st:Stmt)(f:Addr)(fd:FuncData):Prop where
 ex:∃(oc:Value) (od:Option Addr) (kV doc pm:Value) (an:Option Addr) (cdv ct:Value) (osl:Array (Option Value)),
   fd=PySem.W.fnOf x qual (uW st) (wP st) (zT st) .none kV doc pm an cdv ct/\K.lookup f=some ⟨oc,od,.func fd,osl⟩/\PySem.W.codeIn K cdv qual=true
 kp:PySem.W.keepIn K (.ref f)=true
section
variable {P:Program} {w:World} {K:PySem.W.Frag} {mg:Str->Option Value} {base:Heap}
theorem Fun.ok {x qual:Str}{st:Stmt}{f:Addr}{fd:FuncData}{N ps:List Str}{k:Nat}{sp:Sp}(F:Fun K x qual st f fd)(S:FnScope N ps (zT st))(len:∀vs H Q E,sp vs H Q E->vs.length=ps.length)
   (hbody:∀(cdv:Value) (A:Around) (outer:List Env) (s:Shared) (H:Hp) (vs:List V) (Q:VK) (E:XK),Room k (A.deeper (envOfC qual (zT st) s.heap.objs.size f cdv))->sp vs H Q E ->
     ∃t,PSs (zZH CX0 P w K mg base N qual (zT st) f cdv A outer s H E).nox (wP st) t/\t { nx:=fun _ H'=>Q .non H',rt:=Q } (oK N vs) H):FnOk P w K mg base CX0 (k+1) f fd ps sp:=by
 obtain⟨oc,od,kV,doc,pm,an,cdv,ct,osl,rfl,lk,hcd⟩:=F.ex
 refine zQl lk hcd S len fun A outer s H vs Q E hr hsp=>?_
 obtain⟨t,h,q⟩:=hbody cdv A outer s H vs Q E hr hsp
 exact⟨t,h.nox,q⟩
theorem Fun.binds {x qual:Str}{st:Stmt}{f:Addr}{fd:FuncData}{ps:List Str}(F:Fun K x qual st f fd)
   (h:∀(kV doc pm:Value) (an:Option Addr) (cdv ct:Value) (us:List Value),us.length=ps.length->bindArgs (PySem.W.fnOf x qual (uW st) (wP st) (zT st) .none kV doc pm an cdv ct) ⟨us,[]⟩=pure (ps.zip us)):Binds K fd ps []:=by
 obtain⟨oc,od,kV,doc,pm,an,cdv,ct,osl,rfl,lk,hcd⟩:=F.ex
 exact .all (h kV doc pm an cdv ct)
theorem zZ1 {x qual:Str}{st:Stmt}{f:Addr}{oc:Value}{od an:Option Addr}{osl:Array (Option Value)}{kV doc pm cdv ct:Value}(l:K.lookup f=some ⟨oc,od,.func (PySem.W.fnOf x qual (uW st) (wP st) (zT st) .none kV doc pm an cdv ct),osl⟩)
   (c:PySem.W.codeIn K cdv qual=true) (k:PySem.W.keepIn K (.ref f)=true):Fun K x qual st f (PySem.W.fnOf x qual (uW st) (wP st) (zT st) .none kV doc pm an cdv ct):=⟨⟨oc,od,kV,doc,pm,an,cdv,ct,osl,rfl,l,c⟩,k⟩
variable {X:Cx}
theorem pv (i:Nat){x:Str}{pos:Pos}(hN:X.N[i]?=some x:=by rfl)(hv:Vis X.env.scope x:=by first | exact Or.inl rfl | exact Or.inr (Or.inl rfl) | exact Or.inr (Or.inr rfl))(hd:(x==("__debug__":Str))=false:=by decide)
   (hcd:(x==("__classdict__":Str))=false:=by decide):PE X (.Name x pos) (zSJ i):=nQ hN hv hd hcd
end
def Same (H H':Hp):Prop:=∀b o,H b=some o->H' b=some o
theorem Same.refl (H:Hp):Same H H:=fun _ _ h=>h
theorem Same.trans {H H1 H2:Hp}(a:Same H H1)(b:Same H1 H2):Same H H2:=fun c o h=>b c o (a c o h)
theorem Same.free {H H':Hp}(e:Same H H'){l:Addr}(h:H' l=Option.none):H l=Option.none:=by
 cases q:H l with
 | none=>rfl
 | some o =>
   rw[e l o q] at h
   cases h
theorem Same.seq {K:PySem.W.Frag}{H H':Hp}{a:Addr}{xs:List V}(e:Same H H')(h:SqL K H a xs):SqL K H' a xs:=by
 rcases h with(h | ⟨o,h⟩) | h
 · exact .inl (.inl (e _ _ h))
 · exact .inl (.inr ⟨o,e _ _ h⟩)
 · exact .inr h
section
variable {prog:Program} {w:World} {A:Around} {R:Result->Shared->Prop} {s:Shared}
abbrev F0:Value->Shared->Prop:=fun _ _=>False
theorem bT {α:Type}{t:Sem α}{Q Q':α->Shared->Prop}{M:Model}{A:Around}{E:Value->Shared->Prop}{s:Shared}(h:wpAny M A t Q F0 s)(hq:∀a s,Q a s->Q' a s):wpAny M A t Q' E s:=Us h hq fun _ _ z=>z.elim
theorem eG {elt target iter:Expr}{ifs:List Expr}{scope:Scope}{pos:Pos}{it acc:Value}{env:Env}(I:Nat->Shared->Prop)
   (turn:∀n s,I n s->wpAny (model prog w) A (pyNext it) (fun r s₁=>match r with
     | none=>R (.ok .next) s₁
     | some v=>wpAny (model prog w) A (letOwnedTupleGo target it v) (fun _ s₁=>wpAny (model prog w) A (assign target env v) (fun _ s₂ =>
         wpAny (model prog w) A (forIn ifs true fun c r=>if r=true then do let ok ←isTrue c env (eval c env);pure (ForInStep.yield ok) else pure (ForInStep.yield r)) (fun ok s₃ =>
           if ok=true then wpAny (model prog w) A (eval elt env) (fun x s₄ =>
             wpAny (model prog w) A (call (.builtin "list.append") [acc,x]) (fun _ s₅ => ∃m,m < n/\I m s₅) F0 s₄) F0 s₃
           else ∃m,m < n/\I m s₃) F0 s₂) F0 s₁) F0 s₁) F0 s)
   (n:Nat) (h:I n s) :
   codeAny (model prog w) A (.compLoop (.ListComp elt [⟨target,iter,ifs,0⟩] scope pos) 0 it acc env) R s:=by
 refine codeAny_loop rfl I (fun n s hI=>?_) n h
 show wpAny _ A ((compTurn (.ListComp elt [⟨target,iter,ifs,0⟩] scope pos) 0 it acc env).onRaise (fun x=>do noteFrame x env;theTreesLotGoes x)) _ _ s
 refine wpAny_noted ?_
 rw[compTurn_list]
 refine Qw (wpAny_standAt (Qw (bT (turn n s hI) (fun r s₁ h₁=>?_))))
 cases r with
 | none=>exact Qy h₁
 | some v =>
   refine Qw (bT h₁ fun _ s₁' h₁'=>?_)
   refine Qw (bT h₁' fun _ s₂ h₂=>Qw (bT h₂ fun ok s₃ h₃ => ?_))
   cases ok with
   | false=>exact Qy ⟨rfl,h₃⟩
   | true =>
     exact Qw (Qw (bT h₃ fun x s₄ h₄ => Qw (bT h₄ fun _ s₅ h₅ => Qy (Qy ⟨rfl,h₅⟩))))
end
theorem nP {env:Env}(x:Str):∀(names:List (Str×NameKind)),
   (names.map fun(n,k)=>if (k==NameKind.free&&env.scope.kind == .function&&env.kindOf n==some .cell) then(n,NameKind.cell) else(n,k)).lookup x
     = (names.lookup x).map fun k=>if (k==NameKind.free&&env.scope.kind == .function&&env.kindOf x==some .cell)=true then NameKind.cell else k
 | []=>rfl
 | (n,k)::r=>by
   have ih:=nP (env:=env) x r
   rw[Qb]
   cases hx:x==n with
   | true =>
     have e:x=n:=eq_of_beq hx
     subst e
     by_cases hc:(k==NameKind.free&&env.scope.kind == .function&&env.kindOf x==some .cell)=true
     · simp only[hc,Rt,Eb,Iw,Wq]
     · simp only[hc,Yu,Eb,Iw,Wq,Wa]
   | false =>
     by_cases hc:(k==NameKind.free&&env.scope.kind == .function&&env.kindOf n==some .cell)=true
     · simp only[hc,Rt,Eb,hx];exact ih
     · simp only[hc,Yu,Eb,hx,Wa];exact ih
def mF (env:Env):List (Str×NameKind)->List (Str×Addr)->List (Str×Addr)
 | [],acc=>acc
 | (n,k)::r,acc=>mF env r (if k = .free then(match env.cells.lookup n with | some c=>(n,c)::acc | none=>acc) else acc)
theorem zXg {env:Env}{scope:Scope}(h:∀p∈scope.names,p.2 = .free->∃c,env.cells.lookup p.1=some c):closureFor scope env=pure (mF env scope.names []):=by
 have gen:∀(l:List (Str×NameKind)) (acc:List (Str×Addr)),(∀p∈l,p.2 = .free->∃c,env.cells.lookup p.1=some c) ->
     (forIn l acc fun x r=>if (x.2==NameKind.free)=true then(do let a ←cellOf env x.1;pure (ForInStep.yield ((x.1,a)::r))) else pure (ForInStep.yield r):Sem (List (Str×Addr)))=pure (mF env l acc):=by
   intro l
   induction l with
   | nil=>intro acc _;rfl
   | cons p r ih =>
     intro acc hp
     obtain⟨n,k⟩:=p
     rw[Ii]
     have hr:∀p∈r,p.2 = .free->∃c,env.cells.lookup p.1=some c:=fun p hm=>hp p (Qd _ hm)
     by_cases hk:k = .free
     · subst hk
       obtain⟨c,hc⟩:=hp (n,.free) Qj rfl
       have e:cellOf env n=pure c:=by unfold cellOf;rw[hc]
       simp only[Iw,Rt,e]
       show(forIn r ((n,c)::acc) _:Sem _)=_
       rw[ih _ hr]
       show _=(pure (mF env r (if NameKind.free=NameKind.free then(match env.cells.lookup n with | some c=>(n,c)::acc | none=>acc) else acc)):Sem _)
       rw[Qc rfl,hc]
     · have hb:(k==NameKind.free)=false:=by simpa using hk
       simp only[hb,Wa,Yu]
       show(forIn r acc _:Sem _)=_
       rw[ih _ hr]
       show _=(pure (mF env r (if k=NameKind.free then(match env.cells.lookup n with | some c=>(n,c)::acc | none=>acc) else acc)):Sem _)
       rw[Wd hk]
 have q:=gen scope.names [] h
 simp only[closureFor]
 rw[q]
 rfl
theorem eH {env:Env}:∀(l:List (Str×NameKind)) (acc:List (Str×Addr)),(∀x c,acc.lookup x=some c->env.cells.lookup x=some c)->∀x c,(mF env l acc).lookup x=some c->env.cells.lookup x=some c
 | [],_,h=>h
 | (n,k)::r,acc,h=>by
   refine eH r _ ?_
   by_cases hk:k = .free
   · rw[Qc hk]
     cases e:env.cells.lookup n with
     | none=>exact h
     | some c =>
       intro x c' hx
       rw[Eb] at hx
       cases q:x==n with
       | true=>rw[q] at hx;cases hx;rw[eq_of_beq q];exact e
       | false=>rw[q] at hx;exact h x c' hx
   · rw[Wd hk];exact h
theorem zZb {env:Env}:∀(l:List (Str×NameKind)) (acc:List (Str×Addr)) (x:Str),(acc.lookup x).isSome=true->((mF env l acc).lookup x).isSome=true
 | [],_,_,h=>h
 | (n,k)::r,acc,x,h=>by
   refine zZb r _ x ?_
   by_cases hk:k = .free
   · rw[Qc hk]
     cases e:env.cells.lookup n with
     | none=>exact h
     | some c =>
       show(List.lookup x ((n,c)::acc)).isSome=true
       rw[Eb]
       cases q:x==n with
       | true=>rfl
       | false=>exact h
   · rw[Wd hk];exact h
theorem eJ {env:Env}:∀(l:List (Str×NameKind)) (acc:List (Str×Addr)),(∀p∈l,p.2 = .free->∃c,env.cells.lookup p.1=some c)->∀x,(x,NameKind.free)∈l->((mF env l acc).lookup x).isSome=true
 | [],_,_,_,h=>nomatch h
 | (n,k)::r,acc,hp,x,h=>by
   rcases Qk.mp h with e | h
   · cases e
     obtain⟨c,hc⟩:=hp (n,.free) Qj rfl
     show((mF env r (if NameKind.free=NameKind.free then(match env.cells.lookup n with | some c=>(n,c)::acc | none=>acc) else acc)).lookup n).isSome=true
     rw[Qc rfl,hc]
     exact zZb r _ n (by simp[Eb])
   · exact eJ r _ (fun p hm=>hp p (Qd _ hm)) x h
def oQ (sc scope:Scope)(N tgs frees:List Str)(js:List Nat):Bool :=
 scope.kind == .function&&scope.names.all (fun p=>p.2 != .cell&&(p.2 != .free||sc.names.lookup p.1==some .cell||sc.names.lookup p.1==some .free)&&(p.2 != .local||scope.names.lookup p.1==some .local))
   && tgs.all (fun x=>scope.names.lookup x==some .local)&&frees.all (fun x=>scope.names.lookup x==some .free)&&(js.map fun j=>N[j]?)==frees.map some
def upC (m:Nat)(js:List Nat)(σ:St):St:=List.replicate m none++js.map fun j=>(σ[j]?).join
def wG (X:Cx)(Nc:List Str)(scope:Scope)(C:Addr)(s₀:Shared)(H₀:Hp)(fp:List Addr):Cx where
 prog:=X.prog
 w:=X.w
 K:=X.K
 mg:=X.mg
 base:=X.base
 A:=X.A
 N:=Nc
 s₀:=s₀
 H₀:=H₀
 env:=compEnvC scope (mF X.env scope.names []) C X.env
 outer:=X.stack
 stack:=X.stack
 ex:=fp
 fn:=fun _=>false
 calm:=X.calm
 pn:=[]
 xe:=F0
def zXW (X:Cx)(ifs:List Expr)(t:TT):Prop :=
 ∀(pins:List (Addr×Obj)) (s:Shared) (σ:St) (H:Hp) (Q:Bool->Hp->Prop),Inv X pins σ H s->t σ H Q ->
   wpAny (model X.prog X.w) X.A (forIn ifs true fun c r=>if r=true then do let ok ←isTrue c X.env (eval c X.env);pure (ForInStep.yield ok) else pure (ForInStep.yield r)) (TP X pins σ Q) X.xe s
def zPr:TT:=fun _ H Q=>Q true H
theorem zTs {X:Cx}:zXW X [] zPr:=fun _ _ _ H _ I h=>wpAny_tests_nil ⟨H,I,h⟩
theorem zUB {X:Cx}{c:Expr}{t:TT}(h:PT X c t):zXW X [c] t:=fun pins s σ H Q I hq=>wpAny_tests_one (h pins s σ H Q I hq)
def zQw (J:It)(m:Nat)(js:List Nat)(g:TG)(tc:TT)(te:TE)(σ:St)(H1:Hp)(Q:VK):Prop:=∀D,H1 D=none ->
 ∃W:Nat->Nat->St->Hp->Prop,(∃k,W 0 k (upC m js σ) (upd H1 D (.lst [])))/\∀i k σ' H',W i k σ' H' ->
   (J.stop i H'/\Q (.ref D) H')∨(J.go i H'/\∀x H2,J.yld i H' x H2->g x σ' H2 fun σ2 H3=>tc σ2 H3 fun b H4=>if b=true then te σ2 H4 fun y H5=>∃ys k',H5 D=some (.lst ys)/\ys.length < sizeLine/\k' < k/\W (i+1) k' σ2 (upd H5 D (.lst (ys++[y])))
     else ∃k',k' < k/\W (i+1) k' σ2 H4)
section
variable {X:Cx} {pins:List (Addr×Obj)} {σ:St} {H2:Hp} {s2:Shared} {tg elt iter:Expr} {ifs:List Expr} {scope sc:Scope} {pos:Pos} {tgs frees:List Str} {js:List Nat} {g:TG} {te:TE} {tc:TT}
theorem uK {N:List Str}(h:oQ sc scope N tgs frees js=true):scope.kind = .function/\(∀p∈scope.names,p.2 ≠ .cell)/\(∀p∈scope.names,p.2 = .free->sc.names.lookup p.1=some .cell∨sc.names.lookup p.1=some .free) /\
   (∀p∈scope.names,p.2 = .local->scope.names.lookup p.1=some .local)/\(∀x∈tgs,scope.names.lookup x=some .local)/\(∀x∈frees,scope.names.lookup x=some .free)/\(js.map fun j=>N[j]?)=frees.map some:=by
 unfold oQ at h
 simp only[Qh,Ww,bne_iff_ne,ne_eq,Tw,Yf] at h
 obtain⟨⟨⟨⟨h1,h2⟩,h3⟩,h4⟩,h5⟩:=h
 refine⟨h1,fun p hp=>(h2 p hp).1.1,fun p hp e=>?_,fun p hp e=>?_,h3,h4,h5⟩
 · rcases(h2 p hp).1.2 with(q | q) | q
   · exact absurd e q
   · exact .inl q
   · exact .inr q
 · rcases(h2 p hp).2 with q | q
   · exact absurd e q
   · exact q
theorem zX7 {C:Addr}{s3:Shared}{H3:Hp}{h4:Heap}{tk:Nat}{fp:List Addr}{m0:Str->Option Value}(I:Inv X pins σ H3 s3)(f3:∀b∈fp,kT X pins H3 b)(ofp:∀b∈fp,b < s3.heap.objs.size)
   (hsc:X.env.scope=sc) (hok:oQ sc scope X.N tgs frees js=true) (hC:C=s3.heap.objs.size) (hk:∀b o,s3.heap.get? b=some o->h4.get? b=some o) (hn:h4.Ns C m0) :
   Inv (wG X (tgs++frees) scope C s3 H3 fp) [] (upC tgs.length js σ) H3 { s3 with heap:=h4,toks:=tk }:=by
 obtain⟨k1,k2,k3,k4,k5,k6,k7⟩:=uK hok
 have hcl:∀x c,(mF X.env scope.names []).lookup x=some c->X.env.cells.lookup x=some c:=eH scope.names [] (fun _ _ z=>nomatch z)
 have hfr:∀p∈scope.names,p.2 = .free->∃c,X.env.cells.lookup p.1=some c:=fun p hp e=>I.ok.has p.1 (by
   show X.env.scope.names.lookup p.1=_∨X.env.scope.names.lookup p.1=_
   rw[hsc];exact k3 p hp e)
 have rl:∀x,(relabel scope X.env).names.lookup x=(scope.names.lookup x).map fun k=>if (k==NameKind.free&&X.env.scope.kind == .function&&X.env.kindOf x==some .cell)=true then NameKind.cell else k:=fun x=>nP x scope.names
 have hasc:∀x,((relabel scope X.env).names.lookup x=some .cell∨(relabel scope X.env).names.lookup x=some .free)->∃c,(mF X.env scope.names []).lookup x=some c:=fun x hx=>by
   rw[rl x] at hx
   cases e:scope.names.lookup x with
   | none=>rw[e] at hx;simp at hx
   | some k =>
     have hm:=Eo e
     have hkf:k = .free:=by
       rw[e] at hx
       simp only[Wq,Ug] at hx
       by_cases q:k = .free
       · exact q
       · have hb:(k==NameKind.free)=false:=by simpa using q
         rw[hb] at hx
         simp only[Ic,Wa,Yu] at hx
         rcases hx with z | z
         · exact absurd z (k2 _ hm)
         · exact z
     subst hkf
     exact Rr.mp (eJ scope.names [] hfr x hm)
 have cfr:∀x c,X.env.cells.lookup x=some c->c≠C:=fun x c e z=>by
   obtain⟨v,q⟩:=I.cell x c e
   exact absurd (z ▸ q.lt) (by rw[hC];exact Wv _)
 have base0:∀b o,X.base.get? b=some o->b∉fp:=fun b o e hb=>by
   obtain⟨_,_,_,q,_⟩:=f3 b hb
   rcases q with q | q
   · exact I.ok.noex b o e q
   · exact absurd (Qm (Qs (I.ok.bs b o e).1) q) (Wv _)
 have stk:∀b∈fp,b∉frs X.stack:=fun b hb z=>by
   obtain⟨_,q1,q2,_⟩:=f3 b hb
   rcases Qk.mp (I.stkSub b z) with e | e
   · exact q1 e
   · exact q2 e
 refine⟨⟨I.ok.mod,k1,I.ok.glob,I.ok.blt,by rw[hC];exact Qf _,fun x y c e1 e2=>I.ok.inj x y c (hcl x c e1) (hcl y c e2),hasc,(fun x c z _=>nomatch z),I.ok.hd,I.ok.frames,.inl rfl,
     fun b hb=>⟨fun z=>absurd (ofp b hb) (by rw[show b=C from z,hC];exact Wv _),fun x c e=>(f3 b hb).2.2.2.2.1 x c (hcl x c e)⟩,
     fun b o e=>I.bs b o e,Wh I.ok.bsz I.sz,base0,stk,I.stack,I.stkFree⟩,
   rfl,I.bare,Un.kept hk,⟨m0,hn,fun i x v e1 e2 e3=>?_⟩,fun x c e=>?_,I.hok.fresh (by rw[show(wG X (tgs++frees) scope C s3 H3 fp).env.locals=C from rfl,hC];exact Qf _),fun x c e=>I.freeC x c (hcl x c e),
   fun p hp=>absurd (show p∈([]:List (Addr×Obj)) from hp) (by simp),I.hok.kept hk,?_⟩
 · -- a name's value
   have hi:tgs.length<=i:=by
     refine Nat.le_of_not_lt fun hlt=>?_
     have e2:(upC tgs.length js σ)[i]?=some (some v):=e2
     unfold upC at e2
     rw[Es (by simpa using hlt),Ez] at e2
     split at e2<;>cases e2
   have e2:(upC tgs.length js σ)[i]?=some (some v):=e2
   unfold upC at e2
   rw[Wm (by simpa using hi),Yn,Wt] at e2
   have e1:(tgs++frees)[i]?=some x:=e1
   rw[Wm hi] at e1
   obtain⟨j,ej,e2⟩:=Qt.mp e2
   have hj:X.N[j]?=some x:=by
     have q:=Ea (fun l=>l[i - tgs.length]?) k7
     simp only[Wt,ej,e1,Wq] at q
     exact Wk q
   have hσ:σ[j]?=some (some v):=by
     cases q:σ[j]? with
     | none=>rw[q] at e2;cases e2
     | some o=>rw[q] at e2;exact Ea some e2
   have hf:scope.names.lookup x=some .free:=k6 x (Ej e1)
   have hX:X.env.kindOf x=some .cell∨X.env.kindOf x=some .free:=by
     show X.env.scope.names.lookup x=_∨X.env.scope.names.lookup x=_
     rw[hsc];exact k3 _ (Eo hf) rfl
   obtain⟨m,_,hl⟩:=I.loc
   obtain⟨u,r,l⟩:=hl j x v hj hσ (by
     rcases hX with q | q
     · exact .inr (.inl q)
     · exact .inr (.inr q))
   refine⟨u,r,.inr ⟨?_,?_⟩⟩
   · show(relabel scope X.env).names.lookup x=_∨(relabel scope X.env).names.lookup x=_
     rw[rl x,hf]
     by_cases q:(NameKind.free==NameKind.free&&X.env.scope.kind == .function&&X.env.kindOf x==some .cell)=true
     · exact .inl (by rw[Wq,Qc q])
     · exact .inr (by rw[Wq,Wd q])
   · rcases l with⟨q,_⟩ | ⟨_,c,ec,hcell⟩
     · rcases hX with z | z<;>(rw[z] at q;cases q)
     · obtain⟨c',ec'⟩:=Rr.mp (eJ scope.names [] hfr x (Eo hf))
       have e:c'=c:=Wk ((hcl x c' ec').symm.trans ec)
       subst e
       obtain⟨o,ho,hd⟩:=hcell
       exact⟨c',ec',o,hk _ _ ho,hd⟩
 · obtain⟨v,o,ho,hd⟩:=I.cell x c (hcl x c e)
   exact⟨v,o,hk _ _ ho,hd⟩
 · show(upC tgs.length js σ).length=(tgs++frees).length
   have q:=Ea List.length k7
   rw[Qo,Qo] at q
   unfold upC
   rw[Wp,Yn,Qo,Wp,q]
theorem dS {J:It}{fp:List Addr}{it:Addr}{tn:Nat->Heap->Prop}{RR:Value->Addr->Result->Shared->Prop}{E:Value->Shared->Prop}{Q:VK}
   (I2:Inv X pins σ H2 s2) (T:Turn X.prog X.w X.K tg J fp it tn) (st2:tn 0 s2.heap) (f2:∀b∈fp,kT X pins H2 b) (hc:X.calm=true)
   (hsc:X.env.scope=sc) (hok:oQ sc scope X.N tgs frees js=true)
   (hg:∀C s₀ H₀ fp,PG (wG X (tgs++frees) scope C s₀ H₀ fp) tg g) (hi:∀C s₀ H₀ fp,zXW (wG X (tgs++frees) scope C s₀ H₀ fp) ifs tc) (he:∀C s₀ H₀ fp,PE (wG X (tgs++frees) scope C s₀ H₀ fp) elt te)
   (hw:zQw J tgs.length js g tc te σ H2 Q)
   (hRR:∀D C s' H' m,Inv X pins σ H' s'->Q (.ref D) H'->kT X pins H' C->s'.heap.Ns C m->RR (.ref D) C (.ok .next) s') :
   wpAny (model X.prog X.w) X.A (newList []) (fun acc s₃ => wpAny (model X.prog X.w) X.A (newFunctionEnv scope X.env.globals (mF X.env scope.names []) [] X.env.qual none .none (some X.env)) (fun cenv s₄ =>
     codeAny (model X.prog X.w) X.A (.compStart (.ListComp elt [⟨tg,iter,ifs,0⟩] scope pos) 0 (.ref it) acc { cenv with scope:=relabel scope X.env }) (RR acc cenv.locals) s₄) E s₃) E s2:=by
 obtain⟨k1,k2,k3,k4,k5,k6,k7⟩:=uK hok
 refine Wf (wpAny_newFunctionEnv k2 (by intro y hy;simp at hy) (fun h4 hn4 hs4=>?_) k1)
 dsimp only at hn4 hs4 ⊢
 generalize hh3:s2.heap.push { cls:=.type "list",dict:=none,data:=.seq ([]:List Value).toArray }=h3 at hn4 hs4 ⊢
 generalize hD:s2.heap.objs.size=D
 have hDn:H2 D=none:=by rw[←hD];exact I2.fresh
 have hsz3:h3.objs.size=D+1:=by rw[←hh3,Wg,hD]
 have keep23:∀b o,s2.heap.get? b=some o->h3.get? b=some o:=fun b o e=>by rw[←hh3];exact Qr _ e
 have keep34:∀b o,h3.get? b=some o->h4.get? b=some o:=fun b o e=>hs4.extBut b o (Qv (Qs e)) (Qr _ e)
 have I3:Inv X pins σ (upd H2 D (.lst [])) { s2 with heap:=h3 }:=by
   have q:=I2.lnew (its:=[]) (ys:=[]) (t':=s2.toks) .nil (Ri _)
   rw[hD] at q
   rw[←hh3]
   exact q
 have nfp:∀b∈fp,b≠D:=fun b hb z=>by
   obtain⟨o,e,_⟩:=T.obj 0 _ st2 b hb
   exact absurd (Qs e) (by rw[z,hD];exact Wv _)
 have f3:∀b∈fp,kT X pins (upd H2 D (.lst [])) b:=fun b hb=>by
   obtain⟨q0,q⟩:=f2 b hb
   exact⟨by rw[yV (nfp b hb)];exact q0,q⟩
 have ofp:∀b∈fp,b < h3.objs.size:=fun b hb=>by
   obtain⟨o,e,_⟩:=T.obj 0 _ st2 b hb
   exact Qs (keep23 b o e)
 obtain⟨W,⟨n0,w0⟩,turn⟩:=hw D hDn
 have loop:∀s4:Shared,s4={ s2 with heap:=h4,toks:=s2.toks+([]:List (Str×Value)).length } ->
     codeAny (model X.prog X.w) X.A (.compLoop (.ListComp elt [⟨tg,iter,ifs,0⟩] scope pos) 0 (.ref it) (.ref D) (compEnvC scope (mF X.env scope.names []) h3.objs.size X.env)) (RR (.ref D) h3.objs.size) s4:=by
   rintro s4 rfl
   generalize hX':wG X (tgs++frees) scope h3.objs.size { s2 with heap:=h3 } (upd H2 D (.lst [])) fp=X'
   have I4:Inv X' [] (upC tgs.length js σ) (upd H2 D (.lst [])) { s2 with heap:=h4,toks:=s2.toks+([]:List (Str×Value)).length }:=by
     rw[←hX']
     exact zX7 (s3:={ s2 with heap:=h3 }) I3 f3 ofp hsc hok rfl keep34 hn4
   have eP:X'.prog=X.prog:=by rw[←hX'];rfl
   have eW:X'.w=X.w:=by rw[←hX'];rfl
   have eK:X'.K=X.K:=by rw[←hX'];rfl
   have eA:X'.A=X.A:=by rw[←hX'];rfl
   have eC:X'.calm=true:=by rw[←hX'];exact hc
   have T':Turn X'.prog X'.w X'.K tg J fp it tn:=by rw[eP,eW,eK];exact T
   have eE:X'.env=compEnvC scope (mF X.env scope.names []) h3.objs.size X.env:=by rw[←hX'];rfl
   have eX:X'.xe=F0:=by rw[←hX'];rfl
   have stat:∀ {H':Hp},(∀b∈fp,H' b=none)->∀b∈fp,kT X' [] H' b:=fun {H'} hn b hb=>by
     obtain⟨_,q1,q2,q3,q4,q5⟩:=f3 b hb
     rw[←hX']
     refine⟨hn b hb,?_,?_,.inl hb,fun x c e=>?_,fun p hp=>absurd (show p∈([]:List (Addr×Obj)) from hp) (by simp)⟩
     · exact fun z=>absurd (ofp b hb) (by rw[show b=h3.objs.size from z];exact Wv _)
     · intro z
       rcases Qk.mp (I3.stkSub b z) with e | e
       · exact q1 e
       · exact q2 e
     · exact q4 x c (eH scope.names [] (fun _ _ z=>nomatch z) x c e)
   have hgX:PG X' tg g:=by rw[←hX'];exact hg _ _ _ _
   have hiX:zXW X' ifs tc:=by rw[←hX'];exact hi _ _ _ _
   have heX:PE X' elt te:=by rw[←hX'];exact he _ _ _ _
   refine eG (fun n s'=>∃i σ' H',Inv X' [] σ' H' s'/\tn i s'.heap/\(∀b∈fp,H' b=none)/\W i n σ' H') ?_ n0 ⟨0,_,_,I4,T.keep 0 _ _ st2 (fun b _ o e=>keep34 b o (keep23 b o e)),fun b hb=>(f3 b hb).1,w0⟩
   rintro n s5 ⟨i,σ5,H5,I5,st5,fr5,w5⟩
   rw[←eP,←eW,←eE,←eA]
   rcases turn i n σ5 H5 w5 with⟨stop,qn⟩ | ⟨go,step⟩
   · refine thn (T'.done X' rfl rfl rfl eC i [] s5 σ5 H5 F0 I5 (stat fr5) st5 stop) fun r s6 ⟨hr,I6⟩=>?_
     subst hr
     have un:Un (frs X.stack) fp H2 H5 s2.heap s6.heap:=by
       have u1:Un (frs X.stack) fp H2 (upd H2 D (.lst [])) s2.heap h3:=Un.laid keep23 (Nat.le_of_eq hD) hDn
       have u2:=I6.base
       rw[←hX'] at u2
       exact u1.trans u2
     have hpx:HOk X.prog X.w H5 s6.heap:=by have q:=I6.hok;rw[eP,eW] at q;exact q
     have hos:s6.os=s2.os:=by have q:=I6.os;rw[←hX'] at q;exact q
     have IX:Inv X pins σ H5 s6:=I2.call' (ch:=fp) hos un hpx I6.bare fun b hb=>⟨(f2 b hb).2.2.2.1,(f2 b hb).2.1,(f2 b hb).2.2.2.2.1,(f2 b hb).2.2.2.2.2⟩
     obtain⟨m,hm,_⟩:=I6.loc
     have hloc:X'.env.locals=h3.objs.size:=by rw[eE];rfl
     rw[hloc] at hm
     have hle:s2.heap.objs.size<=h3.objs.size:=by rw[hD,hsz3];exact Ta _
     refine hRR D h3.objs.size s6 H5 m IX qn (I2.fpOk hle ?_) hm
     have q:=I6.free
     rw[hloc] at q
     exact q
   · refine thn (T'.item X' rfl rfl rfl eC i [] s5 σ5 H5 F0 I5 (stat fr5) st5 go) fun r s6 ⟨u,hr,h6⟩=>?_
     subst hr
     refine thn h6 fun _ s7 ⟨x,H7,I7,r7,y7,st7,fr7⟩=>?_
     have I7':=I7.pinned (stat fr7) (T.obj _ _ st7)
     have xe0:X'.xe=F0:=eX
     have conv:∀ {α:Type} {t:Sem α} {Q:α->Shared->Prop} {s:Shared},wpAny (model X'.prog X'.w) X'.A t Q X'.xe s->wpAny (model X'.prog X'.w) X'.A t Q F0 s:=fun h=>by rw[xe0] at h;exact h
     refine thn (conv (hgX _ s7 σ5 H7 x u _ I7' r7 (step x H7 y7))) fun _ s8 ⟨σ8,H8,I8,q8⟩=>?_
     refine thn (conv (hiX _ s8 σ8 H8 _ I8 q8)) fun ok s9 ⟨H9,I9,q9⟩=>?_
     have again:∀ {σz:St} {Hz:Hp} {sz:Shared} {k':Nat},Inv X' ([]++fW fp s7.heap) σz Hz sz->k' < n->W (i+1) k' σz Hz->∃m,m < n/\∃i σ' H',Inv X' [] σ' H' sz/\tn i sz.heap/\(∀b∈fp,H' b=none)/\W i m σ' H':=fun {σz Hz sz k'} Iz hk wz=>by
       refine⟨k',hk,i+1,σz,Hz,Iz.unpinned,T.keep _ _ _ st7 fun b hb o e=>(Iz.pin (b,o) (Wj _ (Wj _ (oZ hb e)))).1,fun b hb=>?_,wz⟩
       obtain⟨o,e,d⟩:=T.obj _ _ st7 b hb
       exact(Iz.pin (b,o) (Wj _ (Wj _ (oZ hb e)))).2.1
     cases ok with
     | false =>
       rw[Wd (by decide)] at q9
       rw[Wd (by decide)]
       obtain⟨k',hk,wz⟩:=q9
       exact again I9 hk wz
     | true =>
       rw[Qc rfl] at q9
       rw[Qc rfl]
       refine thn (conv (heX _ s9 σ8 H9 _ I9 q9)) fun v s10 ⟨y,H10,I10,r10,ys,k',hys,hl,hk,wz⟩=>?_
       refine thn (conv (uB (X:=X') _ s10 σ8 H10 (.ref D) [y] (.ref D) [v] (fun z Hz=>W (i+1) k' σ8 Hz) I10 rfl (.cons r10 .nil) ⟨D,ys,y,rfl,rfl,hys,hl,wz⟩)) fun _ s11 ⟨_,H11,I11,_,q11⟩=>?_
       exact again I11 hk q11
 rw[show s2.heap.objs.size=D from hD] at *
 exact codeAny_compStart_list (loop _ rfl) (T.self _ 0 _ _ _ (T.keep 0 _ _ st2 fun b _ o e=>keep34 b o (keep23 b o e)) (loop _ rfl))
def zTI (wi:TI)(m:Nat)(js:List Nat)(g:TG)(tc:TT)(te:TE):TE:=fun σ H Q=>wi σ H fun J H1=>zQw J m js g tc te σ H1 Q
theorem eF (ok:X.Ok)(hsc:X.env.scope=sc)(hok:oQ sc scope X.N tgs frees js=true):closureFor scope X.env=pure (mF X.env scope.names []) :=
 zXg fun p hp e=>ok.has p.1 (by
   show X.env.scope.names.lookup p.1=_∨X.env.scope.names.lookup p.1=_
   rw[hsc];exact(uK hok).2.2.1 p hp e)
theorem zSN (sc:Scope)(tgs frees:List Str)(js:List Nat){wi:TI}(hp:PI X tg iter wi)(hc:X.calm=true)(hsc:X.env.scope=sc)(hok:oQ sc scope X.N tgs frees js=true)
   (hg:∀C s₀ H₀ fp,PG (wG X (tgs++frees) scope C s₀ H₀ fp) tg g) (hi:∀C s₀ H₀ fp,zXW (wG X (tgs++frees) scope C s₀ H₀ fp) ifs tc) (he:∀C s₀ H₀ fp,PE (wG X (tgs++frees) scope C s₀ H₀ fp) elt te)
   (hs:∀x,foldedSetIterable iter X.env x=pure x:=by intro _;rfl) :
   PE X (.ListComp elt [⟨tg,iter,ifs,0⟩] scope pos) (zTI wi tgs.length js g tc te):=by
 intro pins s σ H Q I h
 obtain⟨k1,k2,k3,k4,k5,k6,k7⟩:=uK hok
 rw[eval_ListComp]
 refine wpAny_comprehension_free (use:=none) rfl hs (eF I.ok hsc hok) k1 k4 (thn (hp pins s σ H _ I h) fun v s1 h1=>thn h1 fun itv s2 h2=>?_)
 obtain⟨it,fp,tn,J,H2,e,I2,T,st2,f2,hw⟩:=h2
 subst e
 refine dS (RR:=fun acc C=>compPost (model X.prog X.w) X.A X.xe none (EP X pins σ Q) acc C) I2 T st2 f2 hc hsc hok hg hi he hw ?_
 intro D C s' H' m I' q fC hn
 refine⟨m,hn,fun h' hs'=>⟨.ref D,H',?_,rfl,q⟩⟩
 obtain⟨c0,c1,c2,c3,c4,c5⟩:=fC
 exact I'.turned (t':=s'.toks) (fun b o hb e=>hs'.extBut b o hb e) c0 c1 c3 c4 c5
theorem zX4 (sc:Scope)(tgs frees:List Str)(js:List Nat){wi:TI}{i:Nat}{x:Str}{pos' spos:Pos}(hN:X.N.Nodup)(hx:X.N[i]?=some x)(hl:X.env.scope.names.lookup x=some .local)
   (hp:PI X tg iter wi) (hc:X.calm=true) (hsc:X.env.scope=sc) (hok:oQ sc scope X.N tgs frees js=true)
   (hg:∀C s₀ H₀ fp,PG (wG X (tgs++frees) scope C s₀ H₀ fp) tg g) (hi:∀C s₀ H₀ fp,zXW (wG X (tgs++frees) scope C s₀ H₀ fp) ifs tc) (he:∀C s₀ H₀ fp,PE (wG X (tgs++frees) scope C s₀ H₀ fp) elt te)
   (hsw:swapsWith (.ListComp elt [⟨tg,iter,ifs,0⟩] scope pos) (some (.Name x pos')) spos.line X.env=pure true:=by with_unfolding_all rfl) (hs:∀x,foldedSetIterable iter X.env x=pure x:=by intro _;rfl) :
   PS X (.Assign [.Name x pos'] (.ListComp elt [⟨tg,iter,ifs,0⟩] scope pos) spos) (zVB (zTI wi tgs.length js g tc te) (zYW i)):=by
 intro pins s σ H D I h
 obtain⟨k1,k2,k3,k4,k5,k6,k7⟩:=uK hok
 rw[exec_Assign_Name_used _ _ _ _ hsw]
 refine Qw (wpAny_standAt (Qw ?_))
 show wpAny _ X.A (do let _ ←comprehension (.ListComp elt [⟨tg,iter,ifs,0⟩] scope pos) scope X.env _ (newList []) false (eval iter X.env) (some (assign (.Name x pos') X.env))) _ _ s
 refine Qw (Us (wpAny_comprehension_free (use:=some (assign (.Name x pos') X.env)) (Q:=fun _ s'=>SP X pins D .next s') rfl hs (eF I.ok hsc hok) k1 k4
   (thn (hp pins s σ H _ I h) fun v s1 h1=>thn h1 fun itv s2 h2=>?_)) (fun _ s' hq=>Qy (Qy hq)) fun _ _ e=>e)
 obtain⟨it,fp,tn,J,H2,e,I2,T,st2,f2,hw⟩:=h2
 subst e
 refine dS (RR:=fun acc C=>compPost (model X.prog X.w) X.A X.xe (some (assign (.Name x pos') X.env)) (fun _ s'=>SP X pins D .next s') acc C) I2 T st2 f2 hc hsc hok hg hi he hw ?_
 intro D' C s' H' m I' q fC hn
 obtain⟨c0,c1,c2,c3,c4,c5⟩:=fC
 show wpAny _ X.A (assign (.Name x pos') X.env (.ref D')) _ _ _
 refine wpAny_assign_Name (bG (v:=V.ref D') I' hN hx (.inl hl) rfl (fun s3 I3 hb=>?_) (.inr hl))
 obtain⟨a,sb,ha⟩:=hb
 have hCa:C≠a:=by
   rcases ha with z | z
   · rw[z];exact c1
   · exact(c4 x a z).symm
 refine⟨m,hn.sameBut sb hCa,fun h' hs'=>⟨_,H',I3.turned (t':=s3.toks) (fun b o hb e=>hs'.extBut b o hb e) c0 c1 c3 c4 c5,q⟩⟩
end
inductive KT where
 | int (i:Int) | tup (l:List KT)
instance:DecidableEq KT:=fun _ _=>Classical.propDecidable _
def zQc:KT->Int
 | .int i=>hashInt i
 | .tup _=>0
def hK:Nat->KT->Int
 | n+1,.tup ks=>reduceHash (Builtin.Tuple.tupleHashOf (ks.map (hK n)))
 | _,k=>zQc k
def zSk:List KT->List Addr->List Value->List DictEntry
 | k::ks,a::as,u::us=>⟨hK 8 k,.ref a,u⟩::zSk ks as us
 | _,_,_=>[]
def zPX (a:Addr)(ks:List KT)(as:List Addr)(vs:List V):Heap->Prop:=fun h =>
 ∃us,Vals vs us/\∃o es ep,h.get? a=some o/\o.ExactDict/\o.data = .dict es ep/\es.toList=zSk ks as us
inductive D where
 | non | bl (b:Bool) | int (i:Int) | str (x:Str) | tup (ds:List D) | lst (ds:List D) | obj (c:Str) (ns:List Str) (ds:List D)
 /-- an exception of an own class -/
 | exc (c:Str) (ns:List Str) (ds:List D)
 deriving Inhabited
theorem Same.tup {K:PySem.W.Frag}{H H':Hp}{a:Addr}{xs:List V}(e:Same H H')(h:SqT K H a xs):SqT K H' a xs:=by
 rcases h with(h | ⟨o,h⟩) | h
 · exact .inl (.inl (e _ _ h))
 · exact .inl (.inr ⟨o,e _ _ h⟩)
 · exact .inr h
def ClsAt (K:PySem.W.Frag)(c:Str)(C:Addr):Prop:=PySem.W.nsIn K mainGlobals c=some (some (.ref C))
theorem ClsAt.one {K:PySem.W.Frag}{c:Str}{C C':Addr}(h:ClsAt K c C)(h':ClsAt K c C'):C'=C:=by
 have:=h.symm.trans h'
 cases this;rfl
def Xe (C a:Addr)(od:Option Addr):Heap->Prop:=fun h=>∃fs,h.get? a=some { cls:=.ref C,dict:=od,data:=.fields fs }
def Xd (dx:Addr)(fs:List (Str×V)):Heap->Prop:=fun h=>∃mA,h.Ns1 dx mA/\∀f,RelO (fs.lookup f) (mA f)
def XD (G:Hp):Option Addr->List (Str×V)->Prop
 | none,fs=>fs=[]
 | some dx,fs=>G dx=some (.ext (Xd dx fs))
theorem XD.mono {G G':Hp}(e:Same G G'):∀ {od:Option Addr} {fs:List (Str×V)},XD G od fs->XD G' od fs
 | none,_,h=>h
 | some _,_,h=>e _ _ h
mutual
def Rep (K:PySem.W.Frag)(G:Hp):D->V->Prop
 | .non,v=>v = .non
 | .bl b,v=>v = .bl b
 | .int i,v=>v = .int i
 | .str x,v=>v = .str x
 | .tup ds,v=>∃a vs,v = .ref a/\SqT K G a vs/\Reps K G ds vs
 | .lst ds,v=>∃a vs,v = .ref a/\SqL K G a vs/\Reps K G ds vs
 | .obj c ns ds,v=>∃C a dx vs,ClsAt K c C/\v = .ref a/\G a=some (.ins C dx (ns.zip vs))/\ns.length=ds.length/\Reps K G ds vs
 | .exc c ns ds,v=>∃C a od vs,ClsAt K c C/\v = .ref a/\G a=some (.ext (Xe C a od))/\XD G od (ns.zip vs)/\ns.length=ds.length/\Reps K G ds vs
def Reps (K:PySem.W.Frag)(G:Hp):List D->List V->Prop
 | [],vs=>vs=[]
 | d::r,vs=>∃v vr,vs=v::vr/\Rep K G d v/\Reps K G r vr
end
section
variable {K:PySem.W.Frag} {G G':Hp}
mutual
theorem Rep.mono (e:Same G G'):∀(d:D) (v:V),Rep K G d v->Rep K G' d v
 | .non,_,h=>by unfold Rep at h ⊢;exact h
 | .bl _,_,h=>by unfold Rep at h ⊢;exact h
 | .int _,_,h=>by unfold Rep at h ⊢;exact h
 | .str _,_,h=>by unfold Rep at h ⊢;exact h
 | .tup ds,_,h=>by
   unfold Rep at h ⊢
   obtain⟨a,vs,h1,h2,h3⟩:=h
   exact⟨a,vs,h1,e.tup h2,Reps.mono e ds vs h3⟩
 | .lst ds,_,h=>by
   unfold Rep at h ⊢
   obtain⟨a,vs,h1,h2,h3⟩:=h
   exact⟨a,vs,h1,e.seq h2,Reps.mono e ds vs h3⟩
 | .obj C ns ds,_,h=>by
   unfold Rep at h ⊢
   obtain⟨C,a,dx,vs,h0,h1,h2,h4,h3⟩:=h
   exact⟨C,a,dx,vs,h0,h1,e _ _ h2,h4,Reps.mono e ds vs h3⟩
 | .exc C ns ds,_,h=>by
   unfold Rep at h ⊢
   obtain⟨C,a,od,vs,h0,h1,h2,h5,h4,h3⟩:=h
   exact⟨C,a,od,vs,h0,h1,e _ _ h2,h5.mono e,h4,Reps.mono e ds vs h3⟩
theorem Reps.mono (e:Same G G'):∀(ds:List D) (vs:List V),Reps K G ds vs->Reps K G' ds vs
 | [],_,h=>by unfold Reps at h ⊢;exact h
 | d::r,_,h=>by
   unfold Reps at h ⊢
   obtain⟨v,vr,h1,h2,h3⟩:=h
   exact⟨v,vr,h1,Rep.mono e d v h2,Reps.mono e r vr h3⟩
end
theorem vL {v:V}:Rep K G .non v↔v = .non:=by unfold Rep;exact Iff.rfl
theorem yG {b:Bool}{v:V}:Rep K G (.bl b) v↔v = .bl b:=by unfold Rep;exact Iff.rfl
theorem zG {i:Int}{v:V}:Rep K G (.int i) v↔v = .int i:=by unfold Rep;exact Iff.rfl
theorem xD {x:Str}{v:V}:Rep K G (.str x) v↔v = .str x:=by unfold Rep;exact Iff.rfl
theorem yW {ds:List D}{v:V}:Rep K G (.tup ds) v↔∃a vs,v = .ref a/\SqT K G a vs/\Reps K G ds vs:=by
 constructor<;>(intro h;unfold Rep at *;exact h)
theorem y0 {ds:List D}{v:V}:Rep K G (.lst ds) v↔∃a vs,v = .ref a/\SqL K G a vs/\Reps K G ds vs:=by
 constructor<;>(intro h;unfold Rep at *;exact h)
theorem gL {c:Str}{ns:List Str}{ds:List D}{v:V}:Rep K G (.obj c ns ds) v↔∃C a dx vs,ClsAt K c C/\v = .ref a/\G a=some (.ins C dx (ns.zip vs))/\ns.length=ds.length/\Reps K G ds vs:=by
 constructor<;>(intro h;unfold Rep at *;exact h)
theorem zW3 {c:Str}{ns:List Str}{ds:List D}{v:V}:Rep K G (.exc c ns ds) v↔∃C a od vs,ClsAt K c C/\v = .ref a/\G a=some (.ext (Xe C a od))/\XD G od (ns.zip vs)/\ns.length=ds.length/\Reps K G ds vs:=by
 constructor<;>(intro h;unfold Rep at *;exact h)
theorem z0 {vs:List V}:Reps K G [] vs↔vs=[]:=by unfold Reps;exact Iff.rfl
theorem zH {d:D}{r:List D}{vs:List V}:Reps K G (d::r) vs↔∃v vr,vs=v::vr/\Rep K G d v/\Reps K G r vr:=by
 rw[Reps]
theorem Reps.length:∀ {ds:List D} {vs:List V},Reps K G ds vs->ds.length=vs.length
 | [],_,h=>by rw[z0] at h;rw[h];rfl
 | d::r,_,h=>by
   rw[zH] at h
   obtain⟨v,vr,rfl,_,h3⟩:=h
   rw[Qa,Qa,Reps.length h3]
theorem Reps.get:∀ {ds:List D} {vs:List V} {i:Nat} {d:D},Reps K G ds vs->ds[i]?=some d->∃v,vs[i]?=some v/\Rep K G d v
 | [],_,_,_,_,e=>by simp at e
 | d::r,_,0,_,h,e=>by
   rw[zH] at h
   obtain⟨v,vr,rfl,h2,h3⟩:=h
   simp at e;subst e
   exact⟨v,rfl,h2⟩
 | d::r,_,i+1,_,h,e=>by
   rw[zH] at h
   obtain⟨v,vr,rfl,h2,h3⟩:=h
   obtain⟨u,e1,e2⟩:=Reps.get h3 (by simpa using e)
   exact⟨u,by simpa using e1,e2⟩
theorem Reps.snoc:∀ {ds:List D} {vs:List V} {d:D} {v:V},Reps K G ds vs->Rep K G d v->Reps K G (ds++[d]) (vs++[v])
 | [],_,d,v,h,r=>by
   rw[z0] at h;subst h
   exact zH.mpr ⟨v,[],rfl,r,z0.mpr rfl⟩
 | e::t,_,d,v,h,r=>by
   rw[zH] at h
   obtain⟨u,vr,rfl,h2,h3⟩:=h
   exact zH.mpr ⟨u,vr++[v],rfl,h2,h3.snoc r⟩
theorem Reps.append:∀ {ds es:List D} {vs us:List V},Reps K G ds vs->Reps K G es us->Reps K G (ds++es) (vs++us)
 | [],_,_,_,h,r=>by rw[z0] at h;subst h;exact r
 | e::t,_,_,us,h,r=>by
   rw[zH] at h
   obtain⟨u,vr,rfl,h2,h3⟩:=h
   exact zH.mpr ⟨u,vr++us,rfl,h2,h3.append r⟩
theorem Reps.take:∀ {ds:List D} {vs:List V} (n:Nat),Reps K G ds vs->Reps K G (ds.take n) (vs.take n)
 | _,_,0,_=>by rw[List.take_zero,List.take_zero];exact z0.mpr rfl
 | [],_,_+1,h=>by rw[z0] at h;subst h;exact z0.mpr rfl
 | e::t,_,n+1,h=>by
   rw[zH] at h
   obtain⟨u,vr,rfl,h2,h3⟩:=h
   exact zH.mpr ⟨u,vr.take n,rfl,h2,h3.take n⟩
theorem Reps.drop:∀ {ds:List D} {vs:List V} (n:Nat),Reps K G ds vs->Reps K G (ds.drop n) (vs.drop n)
 | _,_,0,h=>h
 | [],_,_+1,h=>by rw[z0] at h;subst h;exact z0.mpr rfl
 | e::t,_,n+1,h=>by
   rw[zH] at h
   obtain⟨u,vr,rfl,h2,h3⟩:=h
   exact h3.drop n
theorem Reps.set:∀ {ds:List D} {vs:List V} {d:D} {v:V} (i:Nat),Reps K G ds vs->Rep K G d v->Reps K G (ds.set i d) (vs.set i v)
 | [],_,_,_,_,h,_=>by rw[z0] at h;subst h;exact z0.mpr rfl
 | e::t,_,d,v,0,h,r=>by
   rw[zH] at h
   obtain⟨u,vr,rfl,h2,h3⟩:=h
   exact zH.mpr ⟨v,vr,rfl,r,h3⟩
 | e::t,_,d,v,i+1,h,r=>by
   rw[zH] at h
   obtain⟨u,vr,rfl,h2,h3⟩:=h
   exact zH.mpr ⟨u,vr.set i v,rfl,h2,h3.set i r⟩
theorem Reps.erase:∀ {ds:List D} {vs:List V} (i:Nat),Reps K G ds vs->Reps K G (ds.eraseIdx i) (vs.eraseIdx i)
 | [],_,_,h=>by rw[z0] at h;subst h;exact z0.mpr rfl
 | e::t,_,0,h=>by
   rw[zH] at h
   obtain⟨u,vr,rfl,h2,h3⟩:=h
   exact h3
 | e::t,_,i+1,h=>by
   rw[zH] at h
   obtain⟨u,vr,rfl,h2,h3⟩:=h
   exact zH.mpr ⟨u,vr.eraseIdx i,rfl,h2,h3.erase i⟩
end
structure Step (G H G' H':Hp):Prop where
 hh:Same H H'
 gg:Same G G'
 sub:Same G' H'
 new:∀a,H a≠none->G' a=G a
theorem Step.refl {G H:Hp}(h:Same G H):Step G H G H:=⟨Same.refl _,Same.refl _,h,fun _ _=>rfl⟩
theorem Step.trans {G H G1 H1 G2 H2:Hp}(a:Step G H G1 H1)(b:Step G1 H1 G2 H2):Step G H G2 H2 :=
 ⟨a.hh.trans b.hh,a.gg.trans b.gg,b.sub,fun c hc=>(b.new c (fun z=>hc (a.hh.free z))).trans (a.new c hc)⟩
theorem Same.new {H:Hp}{p:Addr}{o:HO}(hp:H p=none):Same H (upd H p o):=fun b u e=>by rw[yV (yN e hp)];exact e
theorem Step.laid {G H:Hp}{p:Addr}{o:HO}(s:Same G H)(hp:H p=none):Step G H (upd G p o) (upd H p o):=by
 refine⟨Same.new hp,Same.new (s.free hp),fun b u e=>?_,fun a ha=>?_⟩
 · by_cases hb:b=p
   · subst hb;rw[zE] at e ⊢;exact e
   · rw[yV hb] at e ⊢;exact s b u e
 · exact yV (fun z:a=p=>ha (by rw[z];exact hp))
theorem Step.own {G H:Hp}{p:Addr}{o:HO}(s:Same G H)(hp:H p=none):Step G H G (upd H p o) :=
 ⟨Same.new hp,Same.refl _,s.trans (Same.new hp),fun _ _=>rfl⟩
theorem Step.frz {G H G' H':Hp}{p:Addr}{o:HO}(s:Step G H G' H')(hp:H p=none)(h':H' p=some o)(g':G' p=none):Step G H (upd G' p o) H':=by
 refine⟨s.hh,s.gg.trans (Same.new g'),fun b u e=>?_,fun a ha=>?_⟩
 · by_cases hb:b=p
   · subst hb;rw[zE] at e;rw[h'];exact e
   · rw[yV hb] at e;exact s.sub b u e
 · rw[yV (fun z:a=p=>ha (by rw[z];exact hp))];exact s.new a ha
inductive B where
 | no | fz (d:D) | ow (ds:List D)
 /-- a dict of its own: keys and values -/
 | od (kvs:List (D×D))
 deriving Inhabited
def zQb (f:D->Option KT):List D->Option (List KT)
 | []=>some []
 | d::r=>(f d).bind fun k=>(zQb f r).map fun ks=>k::ks
def ktD:Nat->D->Option KT
 | _,.int i=>some (.int i)
 | _,.bl b=>some (.int (if b then 1 else 0))
 | n+1,.tup ds=>(zQb (ktD n) ds).map .tup
 | _,_=>none
inductive ODs (K:PySem.W.Frag)(G:Hp):List (D×D)->List KT->List Addr->List V->Prop
 | nil:ODs K G [] [] [] []
 | cons {d e:D} {k:KT} {a:Addr} {v:V} {kvs:List (D×D)} {ks:List KT} {as:List Addr} {vs:List V}:ktD 8 d=some k->Rep K G d (.ref a)->Rep K G e v->ODs K G kvs ks as vs->ODs K G ((d,e)::kvs) (k::ks) (a::as) (v::vs)
theorem ODs.mono {K:PySem.W.Frag}{G G':Hp}(h:Same G G'):∀ {kvs ks as vs},ODs K G kvs ks as vs->ODs K G' kvs ks as vs
 | _,_,_,_,.nil=>.nil
 | _,_,_,_,.cons h1 h2 h3 h4=>.cons h1 (h2.mono h) (h3.mono h) (ODs.mono h h4)
inductive RB (K:PySem.W.Frag)(H0 G H:Hp):Option V->B->Prop where
 | no {o:Option V}:RB K H0 G H o .no
 | fz {v:V} {d:D}:Rep K G d v->RB K H0 G H (some v) (.fz d)
 | ow {a:Addr} {vs:List V} {ds:List D}:H a=some (.lst vs)->G a=none->H0 a=none->Reps K G ds vs->RB K H0 G H (some (.ref a)) (.ow ds)
 | od {a:Addr} {kvs:List (D×D)} {ks:List KT} {as:List Addr} {vs:List V}:H a=some (.ext (zPX a ks as vs))->G a=none->H0 a=none->ODs K G kvs ks as vs->ks.Nodup->(a==sysModules)=false->RB K H0 G H (some (.ref a)) (.od kvs)
structure Good (K:PySem.W.Frag)(G0 H0 G H:Hp)(σ:St)(ρ:List B):Prop where
 st:Step G0 H0 G H
 vals:Paired (RB K H0 G H) σ ρ
 apart:∀(i j:Nat) (a:Addr) (ds es:List D),ρ[i]?=some (.ow ds)->ρ[j]?=some (.ow es)->σ[i]?=some (some (.ref a))->σ[j]?=some (some (.ref a))->i=j
theorem Paired.get {α β:Type}{F:α->β->Prop}:∀ {l:List α} {r:List β} {i:Nat} {b:β},Paired F l r->r[i]?=some b->∃a,l[i]?=some a/\F a b
 | _,_,_,_,.nil,e=>by simp at e
 | _,_,0,_,.cons h _,e=>by simp at e;subst e;exact⟨_,rfl,h⟩
 | _,_,i+1,b,.cons _ t,e=>by
   obtain⟨a,h1,h2⟩:=Paired.get (i:=i) (b:=b) t (by simpa using e)
   exact⟨a,by simpa using h1,h2⟩
theorem Paired.set {α β:Type}{F:α->β->Prop}{a:α}{b:β}(h:F a b):∀ {l:List α} {r:List β} (i:Nat),Paired F l r->Paired F (l.set i a) (r.set i b)
 | _,_,_,.nil=>.nil
 | _,_,0,.cons _ t=>.cons h t
 | _,_,i+1,.cons q t=>.cons q (Paired.set h i t)
theorem RB.step {K:PySem.W.Frag}{H0 G H G' H':Hp}{o:Option V}{b:B}(r:RB K H0 G H o b)(s:Step G H G' H'):RB K H0 G' H' o b:=by
 cases r with
 | no=>exact .no
 | fz q=>exact .fz (q.mono s.gg)
 | ow h1 h2 h3 h4=>exact .ow (s.hh _ _ h1) ((s.new _ (by rw[h1];exact fun z=>nomatch z)).trans h2) h3 (h4.mono s.gg)
 | od h1 h2 h3 h4 h5 h6=>exact .od (s.hh _ _ h1) ((s.new _ (by rw[h1];exact fun z=>nomatch z)).trans h2) h3 (h4.mono s.gg) h5 h6
theorem Good.step {K:PySem.W.Frag}{G0 H0 G H G' H':Hp}{σ:St}{ρ:List B}(g:Good K G0 H0 G H σ ρ)(s:Step G H G' H'):Good K G0 H0 G' H' σ ρ :=
 ⟨g.st.trans s,Paired.mapP g.vals fun _ _ r=>r.step s,g.apart⟩
theorem Good.sub {K:PySem.W.Frag}{G0 H0 G H:Hp}{σ:St}{ρ:List B}(g:Good K G0 H0 G H σ ρ):Same G H:=g.st.sub
abbrev Ef:=List B->Option D
def tF (K:PySem.W.Frag)(f:Ef):TE:=fun σ H Q=>∃G0 H0 G ρ d,Good K G0 H0 G H σ ρ/\f ρ=some d/\∀v H' G',Step G H G' H'->Rep K G' d v->Q v H'
def PF (X:Cx)(e:Expr)(f:Ef):Prop:=PE X e (tF X.K f)
theorem PE.to {X:Cx}{e:Expr}{t:TE}{f:Ef}(h:PE X e t)(imp:∀σ H Q,tF X.K f σ H Q->t σ H Q):PF X e f:=fun pins s σ H Q I q=>h pins s σ H Q I (imp σ H Q q)
abbrev Lf:=List B->Option (List D)
def tFr (K:PySem.W.Frag)(f:Lf):TE:=fun σ H Q=>∃G0 H0 G ρ ds,Good K G0 H0 G H σ ρ/\f ρ=some ds/\∀a vs H' G',Step G H G' H'->H a=none->H' a=some (.lst vs)->G' a=none->Reps K G' ds vs->Q (.ref a) H'
def PFr (X:Cx)(e:Expr)(f:Lf):Prop:=PE X e (tFr X.K f)
theorem PE.toR {X:Cx}{e:Expr}{t:TE}{f:Lf}(h:PE X e t)(imp:∀σ H Q,tFr X.K f σ H Q->t σ H Q):PFr X e f:=fun pins s σ H Q I q=>h pins s σ H Q I (imp σ H Q q)
def eL (f:Lf):Ef:=fun ρ=>(f ρ).map .lst
theorem vR {X:Cx}{e:Expr}{f:Lf}(h:PFr X e f):PF X e (eL f):=by
 refine PE.to h ?_
 rintro σ H Q ⟨G0,H0,G,ρ,d,good,hf,k⟩
 unfold eL at hf
 obtain⟨ds,h1,rfl⟩:=Qt.mp hf
 refine⟨G0,H0,G,ρ,ds,good,h1,fun a vs H' G' s hn ha ga rs=>?_⟩
 exact k _ _ (upd G' a (.lst vs)) (s.frz hn ha ga) (y0.mpr ⟨a,vs,rfl,.of zE,rs.mono (Same.new ga)⟩)
abbrev Tf:=List B->Option Bool
def tFT (K:PySem.W.Frag)(f:Tf):TT:=fun σ H Q=>∃G0 H0 G ρ b,Good K G0 H0 G H σ ρ/\f ρ=some b/\∀H' G',Step G H G' H'->Q b H'
def PFT (X:Cx)(e:Expr)(f:Tf):Prop:=PT X e (tFT X.K f)
theorem PT.to {X:Cx}{e:Expr}{t:TT}{f:Tf}(h:PT X e t)(imp:∀σ H Q,tFT X.K f σ H Q->t σ H Q):PFT X e f:=fun pins s σ H Q I q=>h pins s σ H Q I (imp σ H Q q)
def PFW (X:Cx)(e:Expr)(f:Tf):Prop:=PW X e (tFT X.K f)
def tFA (K:PySem.W.Frag)(f:Lf):TA:=fun σ H Q=>∃G0 H0 G ρ ds,Good K G0 H0 G H σ ρ/\f ρ=some ds/\∀vs H' G',Step G H G' H'->Reps K G' ds vs->Q vs H'
def PFA (X:Cx)(es:List Expr)(f:Lf):Prop:=PA X es (tFA X.K f)
theorem PA.to {X:Cx}{es:List Expr}{t:TA}{f:Lf}(h:PA X es t)(imp:∀σ H Q,tFA X.K f σ H Q->t σ H Q):PFA X es f:=fun pos pins s σ H Q I q=>h pos pins s σ H Q I (imp σ H Q q)
section
variable {X:Cx} {a b c e:Expr} {es:List Expr} {fa fb:Ef} {ga:Lf} {ta tb:Tf} {pos:Pos}
def sQ (ρ:List B)(i:Nat):Option D:=match ρ[i]? with | some (.fz d)=>some d | _=>none
def eV (i:Nat):Ef:=fun ρ=>sQ ρ i
theorem zVU {K:PySem.W.Frag}{G0 H0 G H:Hp}{σ:St}{ρ:List B}{i:Nat}{d:D}(g:Good K G0 H0 G H σ ρ)(h:sQ ρ i=some d):∃v,σ[i]?=some (some v)/\Rep K G d v:=by
 unfold sQ at h
 split at h
 · rename_i d' e
   cases h
   obtain⟨o,h1,r⟩:=Paired.get g.vals e
   cases r with
   | fz r=>exact⟨_,h1,r⟩
 · cases h
theorem zU (i:Nat){x:Str}(hN:X.N[i]?=some x:=by rfl)(hv:Vis X.env.scope x:=by first | exact Or.inl rfl | exact Or.inr (Or.inl rfl) | exact Or.inr (Or.inr rfl))(hd:(x==("__debug__":Str))=false:=by decide)(hcd:(x==("__classdict__":Str))=false:=by decide):PF X (.Name x pos) (eV i):=by
 refine PE.to (nQ hN hv hd hcd) ?_
 rintro σ H Q ⟨G0,H0,G,ρ,d,good,hf,k⟩
 obtain⟨v,h1,r⟩:=zVU good hf
 exact⟨v,h1,k v H G (.refl good.sub) r⟩
def eC (d:D):Ef:=fun _=>some d
theorem zZY {v:V}{d:D}(h:PE X e (tC v))(r:∀G,Rep X.K G d v):PF X e (eC d):=by
 refine PE.to h ?_
 rintro σ H Q ⟨G0,H0,G,ρ,d',good,hf,k⟩
 cases hf
 exact k v H G (.refl good.sub) (r G)
theorem zX {i:Int}{j:Nat}:PF X (.Constant (.int i) j pos) (eC (.int i)):=zZY zRr fun _=>zG.mpr rfl
theorem kF {i:Bool}{j:Nat}:PF X (.Constant (.bool i) j pos) (eC (.bl i)):=zZY zQk fun _=>yG.mpr rfl
theorem zRi {j:Nat}:PF X (.Constant .none j pos) (eC .non):=zZY zRV fun _=>vL.mpr rfl
theorem zRd {x:Str}{j:Nat}:PF X (.Constant (.str x) j pos) (eC (.str x)):=zZY zRE fun _=>xD.mpr rfl
def eI (C:Int->Int->Bool)(g:Int->Int->Int)(fa fb:Ef):Ef:=fun ρ=>(fa ρ).bind fun x=>(fb ρ).bind fun y=>match x,y with | .int i,.int j=>if C i j then some (.int (g i j)) else none | _,_=>none
theorem zUp {C:Int->Int->Bool}{g:Int->Int->Int}{ρ:List B}{d:D}(h:eI C g fa fb ρ=some d):∃i j,fa ρ=some (.int i)/\fb ρ=some (.int j)/\C i j=true/\d = .int (g i j):=by
 unfold eI at h
 obtain⟨x,h1,h⟩:=Qq.mp h
 obtain⟨y,h2,h⟩:=Qq.mp h
 cases x with
 | int i =>
   cases y with
   | int j =>
     dsimp only at h
     split at h
     · rename_i hc;cases h;exact⟨i,j,h1,h2,hc,rfl⟩
     · cases h
   | _=>cases h
 | _=>cases h
theorem zVn {op:Operator}{C:Int->Int->Bool}{P:Int->Int->Prop}{g:Int->Int->Int}(ho:OpR X (binaryOp op) (rI P fun i j=>.int (g i j)))(hP:∀i j,C i j=true->P i j)(ha:PF X a fa)(hb:PF X b fb):PF X (.BinOp a op b pos) (eI C g fa fb):=by
 refine PE.to (dI ho ha hb) ?_
 rintro σ H Q ⟨G0,H0,G,ρ,d,good,hf,k⟩
 obtain⟨i,j,h1,h2,hc,rfl⟩:=zUp hf
 refine⟨G0,H0,G,ρ,_,good,h1,fun x H1 G1 s1 r1=>⟨G0,H0,G1,ρ,_,good.step s1,h2,fun y H2 G2 s2 r2=>?_⟩⟩
 exact⟨i,j,zG.mp r1,zG.mp r2,hP i j hc,k _ _ G2 (s1.trans s2) (zG.mpr rfl)⟩
theorem zU5 {op:Operator}{g:Int->Int->Int}(ho:OpR X (binaryOp op) (rI0 fun i j=>.int (g i j)))(ha:PF X a fa)(hb:PF X b fb):PF X (.BinOp a op b pos) (eI (fun _ _=>true) g fa fb):=by
 refine PE.to (dI ho ha hb) ?_
 rintro σ H Q ⟨G0,H0,G,ρ,d,good,hf,k⟩
 obtain⟨i,j,h1,h2,hc,rfl⟩:=zUp hf
 refine⟨G0,H0,G,ρ,_,good,h1,fun x H1 G1 s1 r1=>⟨G0,H0,G1,ρ,_,good.step s1,h2,fun y H2 G2 s2 r2=>?_⟩⟩
 exact⟨i,j,zG.mp r1,zG.mp r2,k _ _ G2 (s1.trans s2) (zG.mpr rfl)⟩
abbrev mG:=eI (fun _ _=>true) (fun i j=>i+j)
abbrev mD:=eI (fun _ _=>true) (fun i j=>i - j)
def zZ5 (i j:Int):Bool:=(decide (-(2^64) < i)&&decide (i < 2^64))||(decide (-(2^64) < j)&&decide (j < 2^64))
abbrev mH:=eI zZ5 (fun i j=>i*j)
def cB (_ j:Int):Bool:=decide (0 < j)&&decide (j < 1073741824)
abbrev vD:=eI cB (fun i j=>i / j)
abbrev xJ:=eI (fun _ j=>decide (0 < j)) (fun i j=>i % j)
def zTd (i j:Int):Bool:=decide (0<=j)&&decide (j<=1000000)&&decide (i.natAbs < 2^64)
abbrev zS5:=eI zTd (fun i j=>i^j.toNat)
abbrev zZU:=eI (fun _ _=>true) (fun i j=>Builtin.bitXor i j)
theorem qU (ha:PF X a fa)(hb:PF X b fb):PF X (.BinOp a .Add b pos) (mG fa fb):=zU5 zR9 ha hb
theorem lA (ha:PF X a fa)(hb:PF X b fb):PF X (.BinOp a .Sub b pos) (mD fa fb):=zU5 zRC ha hb
theorem nW (ha:PF X a fa)(hb:PF X b fb):PF X (.BinOp a .Mult b pos) (mH fa fb):=zVn zR2 (fun i j h=>by
 unfold zZ5 at h
 simp only[Tw,Qh,Qz] at h
 exact h) ha hb
theorem wQ (ha:PF X a fa)(hb:PF X b fb):PF X (.BinOp a .FloorDiv b pos) (vD fa fb):=zVn zSA (fun i j h=>by
 unfold cB at h
 simp only[Qh,Qz] at h
 exact h) ha hb
theorem xW (ha:PF X a fa)(hb:PF X b fb):PF X (.BinOp a .Mod b pos) (xJ fa fb):=zVn zRf (fun i j h=>of_decide_eq_true h) ha hb
theorem zSO {i j:Int}(h:zTd i j=true):zPZ i j:=by
 unfold zTd at h
 simp only[Qh,Qz] at h
 exact⟨h.1.1,h.1.2,h.2⟩
theorem zQB (ha:PF X a fa)(hb:PF X b fb):PF X (.BinOp a .Pow b pos) (zS5 fa fb):=zVn zQ5 (fun i j h=>zSO h) ha hb
theorem aM (ha:PF X a fa)(hb:PF X b fb):PF X (.BinOp a .BitXor b pos) (zZU fa fb):=zU5 zRJ ha hb
def zU9 (fa:Ef):Ef:=fun ρ=>(fa ρ).bind fun x=>match x with | .int i=>some (.int (-i)) | _=>none
theorem zX9 (ha:PF X a fa):PF X (.UnaryOp .USub a pos) (zU9 fa):=by
 refine PE.to (zPV zRu ha) ?_
 rintro σ H Q ⟨G0,H0,G,ρ,d,good,hf,k⟩
 unfold zU9 at hf
 obtain⟨x,h1,hf⟩:=Qq.mp hf
 split at hf
 · rename_i i
   cases hf
   exact⟨G0,H0,G,ρ,_,good,h1,fun x H1 G1 s1 r1=>⟨i,zG.mp r1,k _ _ G1 s1 (zG.mpr rfl)⟩⟩
 · cases hf
def eB2 (g:D->D->Option Bool)(fa fb:Ef):Tf:=fun ρ=>(fa ρ).bind fun x=>(fb ρ).bind fun y=>g x y
def wF (t:Tf):Ef:=fun ρ=>(t ρ).map .bl
def gLt:D->D->Option Bool | .int i,.int j=>some (decide (i < j)) | _,_=>none
def gLe:D->D->Option Bool | .int i,.int j=>some (decide (i<=j)) | _,_=>none
def gGt:D->D->Option Bool | .int i,.int j=>some (decide (j < i)) | _,_=>none
def gEq:D->D->Option Bool
 | .int i,.int j=>some (decide (i=j))
 | .bl i,.bl j=>some (decide (i=j))
 | .str i,.str j=>some (decide (i=j))
 | _,_=>none
def gNe (x y:D):Option Bool:=(gEq x y).map (!·)
def CmR (X:Cx)(op:CmpOp)(g:D->D->Option Bool):Prop:=∃r:R2,OpR X (compareOp op) r/\∀(d d':D) (k:Bool) (G H:Hp) (x y:V) (Q:VK),g d d'=some k->Same G H->Rep X.K G d x->Rep X.K G d' y->(∀H' G',Step G H G' H'->Q (.bl k) H')->r x y H Q
theorem zXc {op:CmpOp}{p:Int->Int->Bool}{g:D->D->Option Bool}(ho:OpR X (compareOp op) (rI0 fun i j=>.bl (p i j)))(hg:∀d d' k,g d d'=some k->∃i j,d = .int i/\d' = .int j/\k=p i j):CmR X op g:=by
 refine⟨_,ho,fun d d' k G H x y Q h s rx ry q=>?_⟩
 obtain⟨i,j,rfl,rfl,rfl⟩:=hg d d' k h
 exact⟨i,j,zG.mp rx,zG.mp ry,q H G (.refl s)⟩
theorem zUc:CmR X .Lt gLt:=zXc zPI fun d d' k h=>by unfold gLt at h;split at h<;>cases h;exact⟨_,_,rfl,rfl,rfl⟩
theorem zUk:CmR X .LtE gLe:=zXc zQy fun d d' k h=>by unfold gLe at h;split at h<;>cases h;exact⟨_,_,rfl,rfl,rfl⟩
theorem zQz:CmR X .Gt gGt:=zXc zPW fun d d' k h=>by unfold gGt at h;split at h<;>cases h;exact⟨_,_,rfl,rfl,rfl⟩
theorem zT9 {d d':D}{k:Bool}{K:PySem.W.Frag}{G:Hp}{x y:V}(h:gEq d d'=some k)(rx:Rep K G d x)(ry:Rep K G d' y):zRw x y=true/\decide (x=y)=k:=by
 unfold gEq at h
 split at h
 · cases h;rw[zG] at rx ry;subst rx;subst ry;exact⟨rfl,by simp⟩
 · cases h;rw[yG] at rx ry;subst rx;subst ry;exact⟨rfl,by simp⟩
 · cases h;rw[xD] at rx ry;subst rx;subst ry;exact⟨rfl,by simp⟩
 · cases h
theorem uJ:CmR X .Eq gEq:=⟨_,zQi,fun d d' k G H x y Q h s rx ry q=>by
 obtain⟨h1,h2⟩:=zT9 h rx ry
 exact⟨h1,by rw[h2];exact q H G (.refl s)⟩⟩
theorem zSd:CmR X .NotEq gNe:=⟨_,zPR,fun d d' k G H x y Q h s rx ry q=>by
 unfold gNe at h
 obtain⟨k',h',rfl⟩:=Qt.mp h
 obtain⟨h1,h2⟩:=zT9 h' rx ry
 exact⟨h1,by rw[h2];exact q H G (.refl s)⟩⟩
theorem zWT {g:D->D->Option Bool}{ρ:List B}{k:Bool}(h:eB2 g fa fb ρ=some k):∃x y,fa ρ=some x/\fb ρ=some y/\g x y=some k:=by
 unfold eB2 at h
 obtain⟨x,h1,h⟩:=Qq.mp h
 obtain⟨y,h2,h⟩:=Qq.mp h
 exact⟨x,y,h1,h2,h⟩
theorem dO {t:Tf}{ρ:List B}{d:D}(h:wF t ρ=some d):∃k,t ρ=some k/\d = .bl k:=by
 unfold wF at h
 obtain⟨k,h1,rfl⟩:=Qt.mp h
 exact⟨k,h1,rfl⟩
theorem qA {op:CmpOp}{g:D->D->Option Bool}(hc:CmR X op g)(ha:PF X a fa)(hb:PF X b fb)(hm:behindInMarks op b=false:=by first | exact zX2 _ | (with_unfolding_all rfl)):PF X (.Compare a [op] [b] pos) (wF (eB2 g fa fb)):=by
 obtain⟨r,ho,hr⟩:=hc
 refine PE.to (zSZ ho ha hb hm) ?_
 rintro σ H Q ⟨G0,H0,G,ρ,d,good,hf,k⟩
 obtain⟨c,hf2,rfl⟩:=dO hf
 obtain⟨x,y,h1,h2,h3⟩:=zWT hf2
 refine⟨G0,H0,G,ρ,_,good,h1,fun u H1 G1 s1 r1=>⟨G0,H0,G1,ρ,_,good.step s1,h2,fun v H2 G2 s2 r2=>?_⟩⟩
 exact hr x y c G2 H2 u v Q h3 s2.sub (r1.mono s2.gg) r2 fun H' G' s3=>k _ _ G' ((s1.trans s2).trans s3) (yG.mpr rfl)
theorem xC {op:CmpOp}{g:D->D->Option Bool}(hc:CmR X op g)(ha:PF X a fa)(hb:PF X b fb)(hm:behindInMarks op b=false:=by first | exact zX2 _ | (with_unfolding_all rfl)):PFT X (.Compare a [op] [b] pos) (eB2 g fa fb):=by
 obtain⟨r,ho,hr⟩:=hc
 refine PT.to (zWg ho ha hb hm) ?_
 rintro σ H Q ⟨G0,H0,G,ρ,c,good,hf,k⟩
 obtain⟨x,y,h1,h2,h3⟩:=zWT hf
 refine⟨G0,H0,G,ρ,_,good,h1,fun u H1 G1 s1 r1=>⟨G0,H0,G1,ρ,_,good.step s1,h2,fun v H2 G2 s2 r2=>?_⟩⟩
 exact hr x y c G2 H2 u v _ h3 s2.sub (r1.mono s2.gg) r2 fun H' G' s3=>⟨c,rfl,k _ G' ((s1.trans s2).trans s3)⟩
def lR:D->Bool | .non=>true | _=>false
theorem zVT {K:PySem.W.Frag}{G:Hp}{d:D}{v:V}(r:Rep K G d v):decide (v = .non)=lR d:=by
 cases d with
 | non=>rw[vL] at r;subst r;rfl
 | bl b=>rw[yG] at r;subst r;simp[lR]
 | int b=>rw[zG] at r;subst r;simp[lR]
 | str b=>rw[xD] at r;subst r;simp[lR]
 | tup ds=>obtain⟨p,_,rfl,_⟩:=yW.mp r;simp[lR]
 | lst ds=>obtain⟨p,_,rfl,_⟩:=y0.mp r;simp[lR]
 | obj C ns ds=>obtain⟨_,p,_,_,_,rfl,_⟩:=gL.mp r;simp[lR]
 | exc C ns ds=>obtain⟨_,p,_,_,_,rfl,_⟩:=zW3.mp r;simp[lR]
def tB1 (f:Ef):Tf:=fun ρ=>(f ρ).bind fun x=>match x with | .bl k=>some k | _=>none
theorem zZB {f:Ef}{ρ:List B}{k:Bool}(h:tB1 f ρ=some k):f ρ=some (.bl k):=by
 unfold tB1 at h
 obtain⟨x,h1,h⟩:=Qq.mp h
 split at h
 · cases h;exact h1
 · cases h
theorem rJ (ha:PF X a fa)(he:∀whole,isTrue a X.env whole=(do let v ←whole;standAt a.pos;holding [v] (truthy v)):=by intro _;rfl):PFT X a (tB1 fa):=by
 refine PT.to (zQ6 ha he) ?_
 rintro σ H Q ⟨G0,H0,G,ρ,c,good,hf,k⟩
 exact⟨G0,H0,G,ρ,_,good,zZB hf,fun u H1 G1 s1 r1=>⟨c,yG.mp r1,k _ G1 s1⟩⟩
def qZ (t:Tf):Tf:=fun ρ=>(t ρ).map (!·)
def zYn (t u:Tf):Tf:=fun ρ=>(t ρ).bind fun c=>if c=true then some true else u ρ
theorem jE (ha:PFT X a ta):PFT X (.UnaryOp .Not a pos) (qZ ta):=by
 refine PT.to (zRI ha) ?_
 rintro σ H Q ⟨G0,H0,G,ρ,c,good,hf,k⟩
 unfold qZ at hf
 obtain⟨c',h1,rfl⟩:=Qt.mp hf
 exact⟨G0,H0,G,ρ,_,good,h1,fun H1 G1 s1=>k _ G1 s1⟩
theorem PW.to {t:TT}{f:Tf}(h:PW X e t)(imp:∀σ H Q,tFT X.K f σ H Q->t σ H Q):PFW X e f:=fun whole pins s σ H Q I q=>h whole pins s σ H Q I (imp σ H Q q)
theorem zZO (ha:PFT X a ta):PFW X (.BoolOp .Or [a] pos) ta:=zRF ha
theorem aH {rest:List Expr}(ha:PFT X a ta)(hb:PFW X (.BoolOp .Or (b::rest) pos) tb):PFW X (.BoolOp .Or (a::b::rest) pos) (zYn ta tb):=by
 refine PW.to (zQe ha hb) ?_
 rintro σ H Q ⟨G0,H0,G,ρ,c,good,hf,k⟩
 unfold zYn at hf
 obtain⟨c',h1,hf⟩:=Qq.mp hf
 refine⟨G0,H0,G,ρ,_,good,h1,fun H1 G1 s1=>?_⟩
 split at hf
 · rename_i h;rw[Qc h];cases hf;exact k _ G1 s1
 · rename_i h;rw[Wd h];exact⟨G0,H0,G1,ρ,c,good.step s1,hf,fun H2 G2 s2=>k _ G2 (s1.trans s2)⟩
theorem zQV (h:PFW X e ta):PFT X e ta:=h.pt
theorem zRe {op:BoolOp}(h:PF X a fa):PF X (.BoolOp op [a] pos) fa:=zRa h
def zWH (fa fb:Ef):Ef:=fun ρ=>(tB1 fa ρ).bind fun c=>if c=true then fb ρ else some (.bl false)
theorem zQ4 {rest:List Expr}(ha:PF X a fa)(hb:PF X (.BoolOp .And (b::rest) pos) fb):PF X (.BoolOp .And (a::b::rest) pos) (zWH fa fb):=by
 refine PE.to (zRQ ha hb) ?_
 rintro σ H Q ⟨G0,H0,G,ρ,d,good,hf,k⟩
 obtain⟨c,h1,hf⟩:=Qq.mp hf
 refine⟨G0,H0,G,ρ,_,good,zZB h1,fun u H1 G1 s1 r1=>⟨c,yG.mp r1,?_⟩⟩
 split at hf
 · rename_i h;rw[Qc h];exact⟨G0,H0,G1,ρ,d,good.step s1,hf,fun v H2 G2 s2 r2=>k _ _ G2 (s1.trans s2) r2⟩
 · rename_i h;rw[Wd h];cases hf;exact k _ _ G1 s1 (yG.mpr rfl)
theorem zRz (ha:PF X a fa):PF X (.UnaryOp .Not a pos) (wF (qZ (tB1 fa))):=by
 refine PE.to (zRP ha) ?_
 rintro σ H Q ⟨G0,H0,G,ρ,d,good,hf,k⟩
 obtain⟨c,hf2,rfl⟩:=dO hf
 unfold qZ at hf2
 obtain⟨c',h1,rfl⟩:=Qt.mp hf2
 exact⟨G0,H0,G,ρ,_,good,zZB h1,fun u H1 G1 s1 r1=>⟨c',yG.mp r1,k _ _ G1 s1 (yG.mpr rfl)⟩⟩
def eIf (t:Tf)(fa fb:Ef):Ef:=fun ρ=>(t ρ).bind fun c=>if c=true then fa ρ else fb ρ
theorem zPY (ht:PFT X c ta)(ha:PF X a fa)(hb:PF X b fb):PF X (.IfExp c a b pos) (eIf ta fa fb):=by
 refine PE.to (zUe ht ha hb) ?_
 rintro σ H Q ⟨G0,H0,G,ρ,d,good,hf,k⟩
 unfold eIf at hf
 obtain⟨c',h1,hf⟩:=Qq.mp hf
 refine⟨G0,H0,G,ρ,_,good,h1,fun H1 G1 s1=>?_⟩
 split at hf
 · rename_i h;rw[Qc h];exact⟨G0,H0,G1,ρ,d,good.step s1,hf,fun v H2 G2 s2 r2=>k _ _ G2 (s1.trans s2) r2⟩
 · rename_i h;rw[Wd h];exact⟨G0,H0,G1,ρ,d,good.step s1,hf,fun v H2 G2 s2 r2=>k _ _ G2 (s1.trans s2) r2⟩
def zS:Lf:=fun _=>some []
def zY (f:Ef)(r:Lf):Lf:=fun ρ=>(f ρ).bind fun d=>(r ρ).map fun ds=>d::ds
theorem zW:PFA X [] zS:=by
 refine PA.to xT ?_
 rintro σ H Q ⟨G0,H0,G,ρ,d,good,hf,k⟩
 cases hf
 exact k [] H G (.refl good.sub) (z0.mpr rfl)
theorem aS {f:Ef}{r:Lf}{ρ:List B}{ds:List D}(h:zY f r ρ=some ds):∃d dr,f ρ=some d/\r ρ=some dr/\ds=d::dr:=by
 unfold zY at h
 obtain⟨d,h1,h⟩:=Qq.mp h
 obtain⟨dr,h2,rfl⟩:=Qt.mp h
 exact⟨d,dr,h1,h2,rfl⟩
theorem zZ (ha:PF X e fa)(hr:PFA X es ga)(hs:starEach (e::es) X.env=(false,eval e X.env)::starEach es X.env:=by rfl):PFA X (e::es) (zY fa ga):=by
 refine PA.to (yM ha hr hs) ?_
 rintro σ H Q ⟨G0,H0,G,ρ,ds,good,hf,k⟩
 obtain⟨d,dr,h1,h2,rfl⟩:=aS hf
 refine⟨G0,H0,G,ρ,_,good,h1,fun u H1 G1 s1 r1=>⟨G0,H0,G1,ρ,_,good.step s1,h2,fun v H2 G2 s2 r2=>?_⟩⟩
 exact k _ _ G2 (s1.trans s2) (zH.mpr ⟨u,v,rfl,r1.mono s2.gg,r2⟩)
abbrev lim:Nat:=100000
theorem vH {n:Nat}(h:n<=lim):n < sizeLine:=Yo h (by decide)
def okL (ds:List D):Option (List D):=if ds.length<=lim then some ds else none
theorem jN {ds es:List D}(h:okL ds=some es):es=ds/\ds.length<=lim:=by
 unfold okL at h
 split at h
 · rename_i q;cases h;exact⟨rfl,q⟩
 · cases h
def zC (g:Lf):Ef:=fun ρ=>((g ρ).bind okL).map .tup
theorem zP {k:Nat}(h:PFA X es ga):PF X (.Tuple es k pos) (zC ga):=by
 refine PE.to (zQQ h) ?_
 rintro σ H Q ⟨G0,H0,G,ρ,d,good,hf,k⟩
 unfold zC at hf
 obtain⟨ds,h1,rfl⟩:=Qt.mp hf
 obtain⟨es,h1,h2⟩:=Qq.mp h1
 obtain⟨rfl,h3⟩:=jN h2
 refine⟨G0,H0,G,ρ,_,good,h1,fun vs H1 G1 s1 r1=>⟨by rw[←r1.length];exact Wz (vH h3),fun p hp=>?_⟩⟩
 have s2:=Step.laid (o:=.tup vs) s1.sub hp
 exact k _ _ _ (s1.trans s2) (yW.mpr ⟨p,vs,rfl,.of zE,r1.mono s2.gg⟩)
def yE (g:Lf):Lf:=fun ρ=>(g ρ).bind okL
theorem yP (h:PFA X es ga):PFr X (.List es pos) (yE ga):=by
 refine PE.toR (zT2 h) ?_
 rintro σ H Q ⟨G0,H0,G,ρ,d,good,hf,k⟩
 unfold yE at hf
 obtain⟨es,h1,h2⟩:=Qq.mp hf
 obtain⟨rfl,h3⟩:=jN h2
 refine⟨G0,H0,G,ρ,_,good,h1,fun vs H1 G1 s1 r1=>⟨by rw[←r1.length];exact Wz (vH h3),fun p hp=>?_⟩⟩
 exact k p vs _ G1 (s1.trans (Step.own s1.sub hp)) (s1.hh.free hp) zE (s1.sub.free hp) r1
def atD (x y:D):Option D:=match x,y with
 | .tup ds,.int i=>atI ds i
 | .lst ds,.int i=>atI ds i
 | .str z,.int i=>if z.length<=lim then(atI z.cps.toList i).map fun c=>.str ⟨#[c]⟩ else none
 | _,_=>none
def eIx (fa fb:Ef):Ef:=fun ρ=>(fa ρ).bind fun x=>(fb ρ).bind fun y=>atD x y
theorem fP {K:PySem.W.Frag}{G:Hp}{ds:List D}{vs:List V}{i:Int}{d:D}(r:Reps K G ds vs)(h:atI ds i=some d):∃v,atI vs i=some v/\Rep K G d v:=by
 unfold atI at h ⊢
 rw[r.length] at h
 obtain⟨j,h1,h2⟩:=Qq.mp h
 obtain⟨v,h3,h4⟩:=r.get h2
 exact⟨v,by rw[h1];exact h3,h4⟩
theorem wK (ha:PF X a fa)(hb:PF X b fb)(hs:zZL b:=by exact fun _ _=>rfl):PF X (.Subscript a b pos) (eIx fa fb):=by
 refine PE.to (zRZ zQI ha hb hs) ?_
 rintro σ H Q ⟨G0,H0,G,ρ,d,good,hf,k⟩
 unfold eIx at hf
 obtain⟨x,h1,hf⟩:=Qq.mp hf
 obtain⟨y,h2,hf⟩:=Qq.mp hf
 refine⟨G0,H0,G,ρ,_,good,h1,fun u H1 G1 s1 r1=>⟨G0,H0,G1,ρ,_,good.step s1,h2,fun v H2 G2 s2 r2=>?_⟩⟩
 have r1:=r1.mono s2.gg
 have s3:=s1.trans s2
 unfold atD at hf
 split at hf
 · obtain⟨p,vs,rfl,q,rs⟩:=yW.mp r1
   obtain⟨w,e,rw'⟩:=fP rs hf
   exact .inr (.inl ⟨p,vs,_,w,rfl,zG.mp r2,s2.sub.tup q,e,k _ _ G2 s3 rw'⟩)
 · obtain⟨p,vs,rfl,q,rs⟩:=y0.mp r1
   obtain⟨w,e,rw'⟩:=fP rs hf
   exact .inl ⟨p,vs,_,w,rfl,zG.mp r2,s2.sub.seq q,e,k _ _ G2 s3 rw'⟩
 · split at hf
   · rename_i hz
     obtain⟨c,e,rfl⟩:=Qt.mp hf
     exact .inr (.inr ⟨_,_,c,xD.mp r1,zG.mp r2,Wz (vH hz),e,k _ _ G2 s3 (xD.mpr rfl)⟩)
   · cases hf
 · cases hf
end
inductive Out where
 | nx (ρ:List B) | rt (d:D) | rl (ds:List D) | bk (ρ:List B) | ct (ρ:List B)
 deriving Inhabited
abbrev Sf:=List B->Option Out
def Wants (K:PySem.W.Frag)(G0 H0 G:Hp)(D:Ends):Out->Prop
 | .nx ρ'=>∀σ' H' G',Same G G'->Good K G0 H0 G' H' σ' ρ'->D.nx σ' H'
 | .bk ρ'=>∀σ' H' G',Same G G'->Good K G0 H0 G' H' σ' ρ'->D.bk σ' H'
 | .ct ρ'=>∀σ' H' G',Same G G'->Good K G0 H0 G' H' σ' ρ'->D.ct σ' H'
 | .rt d=>∀v H' G',Step G0 H0 G' H'->Rep K G' d v->D.rt v H'
 | .rl ds=>∀a vs H' G',Step G0 H0 G' H'->H0 a=none->H' a=some (.lst vs)->G' a=none->Reps K G' ds vs->D.rt (.ref a) H'
def tFS (K:PySem.W.Frag)(f:Sf):TS:=fun D σ H=>∃G0 H0 G ρ o,Good K G0 H0 G H σ ρ/\f ρ=some o/\Wants K G0 H0 G D o
def PFS (X:Cx)(st:Stmt)(f:Sf):Prop:=PS X st (tFS X.K f)
def lE (X:Cx)(sts:List Stmt)(f:Sf):Prop:=PSs X sts (tFS X.K f)
theorem PS.to {X:Cx}{st:Stmt}{t:TS}{f:Sf}(h:PS X st t)(imp:∀D σ H,tFS X.K f D σ H->t D σ H):PFS X st f:=fun pins s σ H D I q=>h pins s σ H D I (imp D σ H q)
theorem PSs.to {X:Cx}{st:List Stmt}{t:TS}{f:Sf}(h:PSs X st t)(imp:∀D σ H,tFS X.K f D σ H->t D σ H):lE X st f:=fun pins s σ H D I q=>h pins s σ H D I (imp D σ H q)
theorem Wants.mono {K:PySem.W.Frag}{G0 H0 G G':Hp}{D:Ends}{o:Out}(h:Wants K G0 H0 G D o)(s:Same G G'):Wants K G0 H0 G' D o:=by
 cases o with
 | nx ρ=>exact fun σ' H' G2 s2 g=>h σ' H' G2 (s.trans s2) g
 | bk ρ=>exact fun σ' H' G2 s2 g=>h σ' H' G2 (s.trans s2) g
 | ct ρ=>exact fun σ' H' G2 s2 g=>h σ' H' G2 (s.trans s2) g
 | rt d=>exact h
 | rl ds=>exact h
theorem wM {ρ:List B}{i j:Nat}{d:D}{ds:List D}(h:(ρ.set i (.fz d))[j]?=some (.ow ds)):j≠i/\ρ[j]?=some (.ow ds):=by
 by_cases e:j=i
 · subst e
   rw[Uh] at h
   split at h
   · split at h<;>cases h
   · rename_i z;exact absurd rfl z
 · rw[Wl (Ne.symm e)] at h
   exact⟨e,h⟩
theorem iQ {ρ:List B}{i j:Nat}{d:D}{ds:List (D×D)}(h:(ρ.set i (.fz d))[j]?=some (.od ds)):j≠i/\ρ[j]?=some (.od ds):=by
 by_cases e:j=i
 · subst e
   rw[Uh] at h
   split at h
   · split at h<;>cases h
   · rename_i z;exact absurd rfl z
 · rw[Wl (Ne.symm e)] at h
   exact⟨e,h⟩
theorem Good.setF {K:PySem.W.Frag}{G0 H0 G H:Hp}{σ:St}{ρ:List B}{v:V}{d:D}(g:Good K G0 H0 G H σ ρ)(i:Nat)(r:Rep K G d v):Good K G0 H0 G H (σ.set i (some v)) (ρ.set i (.fz d)):=by
 refine⟨g.st,Paired.set (.fz r) i g.vals,fun j k a ds es h1 h2 h3 h4=>?_⟩
 obtain⟨n1,e1⟩:=wM h1
 obtain⟨n2,e2⟩:=wM h2
 rw[Wl (Ne.symm n1)] at h3
 rw[Wl (Ne.symm n2)] at h4
 exact g.apart j k a ds es e1 e2 h3 h4
theorem Good.addr {K:PySem.W.Frag}{G0 H0 G H:Hp}{σ:St}{ρ:List B}{i:Nat}{ds:List D}(g:Good K G0 H0 G H σ ρ)(h:ρ[i]?=some (.ow ds)):∃a vs,σ[i]?=some (some (.ref a))/\H a=some (.lst vs)/\G a=none/\H0 a=none/\Reps K G ds vs:=by
 obtain⟨o,e,r⟩:=Paired.get g.vals h
 cases r with
 | ow h1 h2 h3 h4=>exact⟨_,_,e,h1,h2,h3,h4⟩
theorem Good.setO {K:PySem.W.Frag}{G0 H0 G H:Hp}{σ:St}{ρ:List B}{a:Addr}{vs:List V}{ds:List D}(g:Good K G0 H0 G H σ ρ)(i:Nat)(ha:H a=some (.lst vs))(ga:G a=none)(h0:H0 a=none)(rs:Reps K G ds vs)
   (fr:∀(j:Nat) (es:List D),ρ[j]?=some (B.ow es)->σ[j]?≠some (some (V.ref a))):Good K G0 H0 G H (σ.set i (some (.ref a))) (ρ.set i (.ow ds)):=by
 have hl:σ.length=ρ.length:=Paired.length g.vals
 refine⟨g.st,Paired.set (.ow ha ga h0 rs) i g.vals,fun j k b d1 d2 h1 h2 h3 h4=>?_⟩
 by_cases hj:j=i
 · by_cases hk:k=i
   · rw[hj,hk]
   · subst hj
     rw[Wl (Ne.symm hk)] at h2 h4
     have hlt:j < σ.length:=by
       have:=(Ql.mp h3).1
       rwa[Iu] at this
     rw[Tp hlt] at h3
     cases h3
     exact absurd h4 (fr k d2 h2)
 · rw[Wl (Ne.symm hj)] at h1 h3
   by_cases hk:k=i
   · subst hk
     have hlt:k < σ.length:=by
       have:=(Ql.mp h4).1
       rwa[Iu] at this
     rw[Tp hlt] at h4
     cases h4
     exact absurd h3 (fr j d1 h1)
   · rw[Wl (Ne.symm hk)] at h2 h4
     exact g.apart j k b d1 d2 h1 h2 h3 h4
theorem Good.wr {K:PySem.W.Frag}{G0 H0 G H:Hp}{σ:St}{ρ:List B}{a:Addr}{us:List V}{ds es:List D}{i:Nat}(g:Good K G0 H0 G H σ ρ)(hi:ρ[i]?=some (.ow ds))(hs:σ[i]?=some (some (.ref a)))(rs:Reps K G es us) :
   Good K G0 H0 G (upd H a (.lst us)) σ (ρ.set i (.ow es)):=by
 obtain⟨a',vs,h1,h2,h3,h4,_⟩:=g.addr hi
 rw[hs] at h1;cases h1
 have st:Step G0 H0 G (upd H a (.lst us)):=by
   refine⟨fun b o e=>?_,g.st.gg,fun b o e=>?_,g.st.new⟩
   · rw[yV (yN e h4)];exact g.st.hh b o e
   · rw[yV (yN e h3)];exact g.st.sub b o e
 have hl:σ.length=ρ.length:=Paired.length g.vals
 have hil:i < ρ.length:=(Ql.mp hi).1
 have key:∀(l:List (Option V)) (r:List B) (n:Nat),Paired (RB K H0 G H) l r->(∀j es,n+j≠i->r[j]?=some (.ow es)->l[j]?≠some (some (.ref a)))->(∀j,n+j=i->l[j]?=some (some (.ref a))) ->
     Paired (RB K H0 G (upd H a (.lst us))) l (if i < n then r else r.set (i - n) (.ow es)):=by
   intro l r n p
   induction p generalizing n with
   | nil=>intro _ _;split<;>exact .nil
   | @cons o b l' r' q t ih =>
     intro hne hat
     have tl:=ih (n+1) (fun j es z e=>by have:=hne (j+1) es (by omega) (by simpa using e);simpa using this) (fun j z=>by have:=hat (j+1) (by omega);simpa using this)
     have keepq:(∀es,b = .ow es->o≠some (.ref a))->RB K H0 G (upd H a (.lst us)) o b:=fun hb=>by
       cases q with
       | no=>exact .no
       | fz r=>exact .fz r
       | @ow c vs ds' c1 c2 c3 c4 =>
         have:c≠a:=fun z=>hb _ rfl (by rw[z])
         exact .ow (by rw[yV this];exact c1) c2 c3 c4
       | @od c _ _ _ _ c1 c2 c3 c4 c5 c6 =>
         have:c≠a:=fun z=>by rw[z,h2] at c1;cases c1
         exact .od (by rw[yV this];exact c1) c2 c3 c4 c5 c6
     by_cases h1:i < n
     · rw[Qc h1]
       rw[Qc (by omega)] at tl
       refine .cons (keepq fun es e z=>?_) tl
       exact hne 0 es (by omega) (by simp[e]) (by simp[z])
     · rw[Wd h1]
       by_cases h2:i=n
       · subst h2
         rw[Qc (by omega)] at tl
         have:=hat 0 (by omega)
         simp at this
         subst this
         rw[Nat.sub_self]
         exact .cons (.ow zE h3 h4 rs) tl
       · rw[Wd (by omega)] at tl
         have e:i - n=(i - (n+1))+1:=by omega
         rw[e]
         refine .cons (keepq fun es e z=>?_) tl
         exact hne 0 es (by omega) (by simp[e]) (by simp[z])
 have vals:=key σ ρ 0 g.vals (fun j es' z e w=>by
   have:=g.apart j i a es' ds e hi w hs
   omega) (fun j z=>by rw[show j=i by omega];exact hs)
 rw[Wd (Yq _),Uc] at vals
 refine⟨st,vals,fun j k b d1 d2 e1 e2 e3 e4=>?_⟩
 have un:∀(j:Nat) (d1:List D),(ρ.set i (B.ow es))[j]?=some (B.ow d1)->∃d,ρ[j]?=some (B.ow d):=fun j d1 e=>by
   by_cases hj:j=i
   · subst hj;exact⟨ds,hi⟩
   · rw[Wl (Ne.symm hj)] at e;exact⟨d1,e⟩
 obtain⟨c1,f1⟩:=un j d1 e1
 obtain⟨c2,f2⟩:=un k d2 e2
 exact g.apart j k b c1 c2 f1 f2 e3 e4
section
variable {X:Cx} {b c e tg:Expr} {es:List Expr} {fa:Ef} {ga:Lf} {ta:Tf} {pos:Pos} {st:Stmt} {rest:List Stmt} {f g:Sf}
def zI (f g:Sf):Sf:=fun ρ=>(f ρ).bind fun o=>match o with | .nx ρ'=>g ρ' | o=>some o
def tO:Sf:=fun ρ=>some (.nx ρ)
theorem yB:lE X [] tO:=by
 refine PSs.to zWq ?_
 rintro D σ H ⟨G0,H0,G,ρ,o,good,hf,k⟩
 cases hf
 exact k σ H G (Same.refl _) good
theorem zR (h:PFS X st f):lE X [st] f:=zSL h
theorem vW (h1:PFS X st f)(h2:lE X rest g):lE X (st::rest) (zI f g):=by
 refine PSs.to (zYb h1 h2) ?_
 rintro D σ H ⟨G0,H0,G,ρ,o,good,hf,k⟩
 unfold zI at hf
 obtain⟨o1,h1,hf⟩:=Qq.mp hf
 refine⟨G0,H0,G,ρ,o1,good,h1,?_⟩
 cases o1 with
 | nx ρ'=>exact fun σ' H' G' s g'=>⟨G0,H0,G',ρ',o,g',hf,k.mono s⟩
 | rt d=>cases hf;exact k
 | rl d=>cases hf;exact k
 | bk d=>cases hf;exact k
 | ct d=>cases hf;exact k
def xQ (f:Ef):Sf:=fun ρ=>(f ρ).map .rt
theorem yX (h:PF X e fa):PFS X (.Return (some e) pos) (xQ fa):=by
 refine PS.to (zX1 h) ?_
 rintro D σ H ⟨G0,H0,G,ρ,o,good,hf,k⟩
 unfold xQ at hf
 obtain⟨d,h1,rfl⟩:=Qt.mp hf
 exact⟨G0,H0,G,ρ,d,good,h1,fun v H' G' s r=>k v H' G' (good.st.trans s) r⟩
def oE (f:Lf):Sf:=fun ρ=>(f ρ).map .rl
theorem jU (h:PFr X e ga):PFS X (.Return (some e) pos) (oE ga):=by
 refine PS.to (zX1 h) ?_
 rintro D σ H ⟨G0,H0,G,ρ,o,good,hf,k⟩
 unfold oE at hf
 obtain⟨d,h1,rfl⟩:=Qt.mp hf
 exact⟨G0,H0,G,ρ,d,good,h1,fun p vs H' G' s hn hp gp rs=>k p vs H' G' (good.st.trans s) (good.st.hh.free hn) hp gp rs⟩
def jM (i:Nat):Sf:=fun ρ=>match ρ[i]? with | some (.ow ds)=>some (.rl ds) | _=>none
theorem oO (i:Nat){x:Str}{pos':Pos}(hN:X.N[i]?=some x:=by rfl)(hv:Vis X.env.scope x:=by first | exact Or.inl rfl | exact Or.inr (Or.inl rfl) | exact Or.inr (Or.inr rfl))(hd:(x==("__debug__":Str))=false:=by decide)(hcd:(x==("__classdict__":Str))=false:=by decide) :
   PFS X (.Return (some (.Name x pos')) pos) (jM i):=by
 refine PS.to (zX1 (nQ hN hv hd hcd)) ?_
 rintro D σ H ⟨G0,H0,G,ρ,o,good,hf,k⟩
 unfold jM at hf
 split at hf
 · rename_i ds e
   cases hf
   obtain⟨p,vs,h1,h2,h3,h4,h5⟩:=good.addr e
   exact⟨.ref p,h1,k p vs H G good.st h4 h2 h3 h5⟩
 · cases hf
def sIf (t:Tf)(f g:Sf):Sf:=fun ρ=>(t ρ).bind fun c=>if c=true then f ρ else g ρ
theorem wX {sa sb:List Stmt}(ht:PFT X c ta)(ha:lE X sa f)(hb:lE X sb g):PFS X (.If c sa sb pos) (sIf ta f g):=by
 refine PS.to (zPU ht ha hb) ?_
 rintro D σ H ⟨G0,H0,G,ρ,o,good,hf,k⟩
 unfold sIf at hf
 obtain⟨c',h1,hf⟩:=Qq.mp hf
 refine⟨G0,H0,G,ρ,_,good,h1,fun H1 G1 s1=>?_⟩
 split at hf
 · rename_i h;rw[Qc h];exact⟨G0,H0,G1,ρ,o,good.step s1,hf,k.mono s1.gg⟩
 · rename_i h;rw[Wd h];exact⟨G0,H0,G1,ρ,o,good.step s1,hf,k.mono s1.gg⟩
def zWu (f:Ef):Sf:=fun ρ=>(f ρ).map fun _=>.nx ρ
theorem zUr (h:PF X e fa)(hs:swapsWith e none pos.line X.env=pure false:=by rfl):PFS X (.Expr e pos) (zWu fa):=by
 refine PS.to (zWr h hs) ?_
 rintro D σ H ⟨G0,H0,G,ρ,o,good,hf,k⟩
 unfold zWu at hf
 obtain⟨d,h1,rfl⟩:=Qt.mp hf
 exact⟨G0,H0,G,ρ,d,good,h1,fun v H' G' s r=>k σ H' G' s.gg (good.step s)⟩
abbrev Gf:=D->List B->Option (List B)
def tFG (K:PySem.W.Frag)(g:Gf):TG:=fun v σ H Q=>∃G0 H0 G ρ d ρ',Good K G0 H0 G H σ ρ/\Rep K G d v/\g d ρ=some ρ'/\∀σ' H' G',Step G H G' H'->Good K G0 H0 G' H' σ' ρ'->Q σ' H'
def PFG (X:Cx)(tg:Expr)(g:Gf):Prop:=PG X tg (tFG X.K g)
abbrev Gfs:=List D->List B->Option (List B)
def zPq (K:PySem.W.Frag)(g:Gfs):TGs:=fun vs σ H Q=>∃G0 H0 G ρ ds ρ',Good K G0 H0 G H σ ρ/\Reps K G ds vs/\g ds ρ=some ρ'/\∀σ' H' G',Step G H G' H'->Good K G0 H0 G' H' σ' ρ'->Q σ' H'
def zSI (X:Cx)(tgs:List Expr)(g:Gfs):Prop:=PGs X tgs (zPq X.K g)
def gN (i:Nat):Gf:=fun d ρ=>some (ρ.set i (.fz d))
theorem yK (i:Nat){x:Str}(hN:X.N.Nodup)(hi:X.N[i]?=some x:=by rfl)(hx:Loc X.env.scope x:=by first | exact .inl rfl | exact .inr rfl)(hf:X.fn x=true∨X.env.scope.names.lookup x=some .local:=by first | exact .inl rfl | exact .inr rfl):PFG X (.Name x pos) (gN i):=by
 have h:=zTj (pos:=pos) hN hi hx hf
 intro pins s σ H v u Q I r q
 refine h pins s σ H v u Q I r ?_
 obtain⟨G0,H0,G,ρ,d,ρ',good,rd,hf,k⟩:=q
 cases hf
 exact k _ H G (.refl good.sub) (good.setF i rd)
def yD:Gfs:=fun ds ρ=>match ds with | []=>some ρ | _=>none
def zO (g:Gf)(r:Gfs):Gfs:=fun ds ρ=>match ds with | d::dr=>(g d ρ).bind fun ρ'=>r dr ρ' | _=>none
theorem yC:zSI X [] yD:=by
 intro pins s σ H vs us Q I r q
 refine zSu pins s σ H vs us Q I r ?_
 obtain⟨G0,H0,G,ρ,ds,ρ',good,rd,hf,k⟩:=q
 unfold yD at hf
 split at hf
 · cases hf
   rw[z0] at rd
   exact⟨rd,k _ H G (.refl good.sub) good⟩
 · cases hf
theorem zJ {g:Gf}{r:Gfs}(h1:PFG X e g)(h2:zSI X es r)(hs:(assignEach (e::es) X.env).map (·.2)=assign e X.env::(assignEach es X.env).map (·.2):=by rfl):zSI X (e::es) (zO g r):=by
 intro pins s σ H vs us Q I rv q
 refine zUd h1 h2 hs pins s σ H vs us Q I rv ?_
 obtain⟨G0,H0,G,ρ,ds,ρ',good,rd,hf,k⟩:=q
 unfold zO at hf
 split at hf
 · rename_i d dr
   obtain⟨ρ1,e1,e2⟩:=Qq.mp hf
   obtain⟨v,vr,rfl,r1,r2⟩:=zH.mp rd
   exact⟨v,vr,rfl,G0,H0,G,ρ,d,ρ1,good,r1,e1,fun σ' H' G' s' g'=>⟨G0,H0,G',ρ1,dr,ρ',g',r2.mono s'.gg,e2,fun σ2 H2 G2 s2 g2=>k σ2 H2 G2 (s'.trans s2) g2⟩⟩
 · cases hf
def gT (r:Gfs):Gf:=fun d ρ=>match d with | .tup ds=>r ds ρ | _=>none
theorem oB {r:Gfs}{k:Nat}(n:Nat)(hc:X.calm=true)(h:zSI X es r)(hr:∀ds ρ ρ',r ds ρ=some ρ'->ds.length=n)(hn:(assignEach es X.env).length=n:=by rfl)(hst:(assignEach es X.env).findIdx? (·.1)=none:=by rfl):PFG X (.Tuple es k pos) (gT r):=by
 have h:=zRk (pos:=pos) (k:=k) hc h hn hst
 intro pins s σ H v u Q I rv q
 refine h pins s σ H v u Q I rv ?_
 obtain⟨G0,H0,G,ρ,d,ρ',good,rd,hf,k⟩:=q
 unfold gT at hf
 split at hf
 · obtain⟨p,vs,rfl,h1,h2⟩:=yW.mp rd
   exact⟨p,vs,rfl,good.sub.tup h1,by rw[←h2.length];exact hr _ _ _ hf,G0,H0,G,ρ,_,ρ',good,h2,hf,k⟩
 · cases hf
theorem zA {g:Gf}{r:Gfs}{n:Nat}(h:∀ds ρ ρ',r ds ρ=some ρ'->ds.length=n):∀ds ρ ρ',zO g r ds ρ=some ρ'->ds.length=n+1:=by
 intro ds ρ ρ' q
 unfold zO at q
 split at q
 · obtain⟨ρ1,e1,e2⟩:=Qq.mp q
   rw[Qa,h _ _ _ e2]
 · cases q
theorem xK:∀ds ρ ρ',yD ds ρ=some ρ'->ds.length=0:=by
 intro ds ρ ρ' q
 unfold yD at q
 split at q
 · rfl
 · cases q
def bZ (ρ:List B):Prop:=(∀(j:Nat) (es:List D),ρ[j]?≠some (B.ow es))/\∀(j:Nat) (ks:List (D×D)),ρ[j]?≠some (B.od ks)
def zV4 (g:Gf):Prop:=∀d ρ ρ',g d ρ=some ρ'->bZ ρ->bZ ρ'
def zW1 (g:Gfs):Prop:=∀d ρ ρ',g d ρ=some ρ'->bZ ρ->bZ ρ'
theorem uF (i:Nat):zV4 (gN i):=fun d ρ ρ' h n=>by
 cases h
 exact⟨fun j es e=>n.1 j es (wM e).2,fun j ks e=>n.2 j ks (iQ e).2⟩
theorem sM:zW1 yD:=fun d ρ ρ' h n=>by
 unfold yD at h
 split at h
 · cases h;exact n
 · cases h
theorem yF {g:Gf}{r:Gfs}(h1:zV4 g)(h2:zW1 r):zW1 (zO g r):=fun d ρ ρ' h n=>by
 unfold zO at h
 split at h
 · obtain⟨ρ1,e1,e2⟩:=Qq.mp h
   exact h2 _ _ _ e2 (h1 _ _ _ e1 n)
 · cases h
theorem zZr {r:Gfs}(h:zW1 r):zV4 (gT r):=fun d ρ ρ' q n=>by
 unfold gT at q
 split at q
 · exact h _ _ _ q n
 · cases q
def oP (f:Ef)(g:Gf):Sf:=fun ρ=>(f ρ).bind fun d=>(g d ρ).map .nx
theorem zTv {K:PySem.W.Frag}{t:TE}{f:Ef}{g:Gf}(imp:∀σ H Q,tF K f σ H Q->t σ H Q){D:Ends}{σ:St}{H:Hp}(h:tFS K (oP f g) D σ H):zVB t (tFG K g) D σ H:=by
 obtain⟨G0,H0,G,ρ,o,good,hf,k⟩:=h
 unfold oP at hf
 obtain⟨d,h1,hf⟩:=Qq.mp hf
 obtain⟨ρ',h2,rfl⟩:=Qt.mp hf
 exact imp _ _ _ ⟨G0,H0,G,ρ,d,good,h1,fun v H' G' s r=>⟨G0,H0,G',ρ,d,ρ',good.step s,r,h2,fun σ2 H2 G2 s2 g2=>k σ2 H2 G2 (s.gg.trans s2.gg) g2⟩⟩
theorem rD {g:Gf}(he:PF X e fa)(hg:PFG X tg g)(hs:swapsWithSole [tg] e pos.line X.env=pure false:=by rfl)(hw:swappedStores [tg] e X.env=pure none:=by rfl)(h1:(assignEach [tg] X.env).map (·.2)=[assign tg X.env]:=by rfl) :
   PFS X (.Assign [tg] e pos) (oP fa g):=PS.to (zT6 he hg hs hw h1) fun D σ H h=>zTv (fun _ _ _ q=>q) h
def yY (i:Nat)(f:Ef):Sf:=fun ρ=>(f ρ).map fun d=>.nx (ρ.set i (.fz d))
theorem zUK {K:PySem.W.Frag}{t:TE}{f:Ef}{i:Nat}(imp:∀σ H Q,tF K f σ H Q->t σ H Q){D:Ends}{σ:St}{H:Hp}(h:tFS K (yY i f) D σ H):zVB t (zYW i) D σ H:=by
 obtain⟨G0,H0,G,ρ,o,good,hf,k⟩:=h
 unfold yY at hf
 obtain⟨d,h1,rfl⟩:=Qt.mp hf
 exact imp _ _ _ ⟨G0,H0,G,ρ,d,good,h1,fun v H' G' s r=>k _ H' G' s.gg ((good.step s).setF i r)⟩
theorem zN (i:Nat){x:Str}{pos':Pos}(hN:X.N.Nodup)(he:PF X e fa)(hi:X.N[i]?=some x:=by rfl)(hx:Loc X.env.scope x:=by first | exact .inl rfl | exact .inr rfl)(hs:swapsWith e (some (.Name x pos')) pos.line X.env=pure false:=by rfl)
   (hf:X.fn x=true∨X.env.scope.names.lookup x=some .local:=by first | exact .inl rfl | exact .inr rfl):PFS X (.Assign [.Name x pos'] e pos) (yY i fa) :=
 PS.to (zXy hN hi hx he hs hf) fun D σ H h=>zUK (fun _ _ _ q=>q) h
def vC (i:Nat)(f:Lf):Sf:=fun ρ=>(f ρ).map fun ds=>.nx (ρ.set i (.ow ds))
theorem zYP {K:PySem.W.Frag}{t:TE}{f:Lf}{i:Nat}(imp:∀σ H Q,tFr K f σ H Q->t σ H Q){D:Ends}{σ:St}{H:Hp}(h:tFS K (vC i f) D σ H):zVB t (zYW i) D σ H:=by
 obtain⟨G0,H0,G,ρ,o,good,hf,k⟩:=h
 unfold vC at hf
 obtain⟨ds,h1,rfl⟩:=Qt.mp hf
 refine imp _ _ _ ⟨G0,H0,G,ρ,ds,good,h1,fun p vs H' G' s hn hp gp rs=>?_⟩
 refine k _ H' G' s.gg ((good.step s).setO i hp gp (good.st.hh.free hn) rs fun j es e z=>?_)
 obtain⟨q,us,e1,e2,_⟩:=good.addr e
 rw[e1] at z;cases z
 rw[hn] at e2;cases e2
theorem wC (i:Nat){x:Str}{pos':Pos}(hN:X.N.Nodup)(he:PFr X e ga)(hi:X.N[i]?=some x:=by rfl)(hx:Loc X.env.scope x:=by first | exact .inl rfl | exact .inr rfl)(hs:swapsWith e (some (.Name x pos')) pos.line X.env=pure false:=by rfl)
   (hf:X.fn x=true∨X.env.scope.names.lookup x=some .local:=by first | exact .inl rfl | exact .inr rfl):PFS X (.Assign [.Name x pos'] e pos) (vC i ga) :=
 PS.to (zXy hN hi hx he hs hf) fun D σ H h=>zYP (fun _ _ _ q=>q) h
def zRX (i:Nat)(ρ:List B):List B:=match ρ[i]? with | some (.ow ds)=>ρ.set i (.fz (.lst ds)) | _=>ρ
def dU (i:Nat)(f:Sf):Sf:=fun ρ=>f (zRX i ρ)
theorem Good.frz {K:PySem.W.Frag}{G0 H0 G H:Hp}{σ:St}{ρ:List B}(g:Good K G0 H0 G H σ ρ)(i:Nat):∃G',Same G G'/\Good K G0 H0 G' H σ (zRX i ρ):=by
 unfold zRX
 split
 · rename_i ds e
   obtain⟨p,vs,h1,h2,h3,h4,h5⟩:=g.addr e
   have sG:Same G (upd G p (.lst vs)):=Same.new h3
   have st:Step G0 H0 (upd G p (.lst vs)) H:=by
     refine⟨g.st.hh,g.st.gg.trans sG,fun b o q=>?_,fun b hb=>?_⟩
     · by_cases z:b=p
       · subst z;rw[zE] at q;rw[h2];exact q
       · rw[yV z] at q;exact g.st.sub b o q
     · rw[yV (fun z:b=p=>hb (by rw[z];exact h4))];exact g.st.new b hb
   have vals:Paired (RB K H0 (upd G p (.lst vs)) H) σ (ρ.set i (.fz (.lst ds))):=by
     have key:∀(l:List (Option V)) (r:List B) (n:Nat),Paired (RB K H0 G H) l r->(∀j es,n+j≠i->r[j]?=some (.ow es)->l[j]?≠some (some (.ref p)))->(∀j,n+j=i->l[j]?=some (some (.ref p))) ->
         Paired (RB K H0 (upd G p (.lst vs)) H) l (if i < n then r else r.set (i - n) (.fz (.lst ds))):=by
       intro l r n q
       induction q generalizing n with
       | nil=>intro _ _;split<;>exact .nil
       | @cons o b l' r' q t ih =>
         intro hne hat
         have tl:=ih (n+1) (fun j es z e=>by have:=hne (j+1) es (by omega) (by simpa using e);simpa using this) (fun j z=>by have:=hat (j+1) (by omega);simpa using this)
         have keepq:(∀es,b = .ow es->o≠some (.ref p))->RB K H0 (upd G p (.lst vs)) H o b:=fun hb=>by
           cases q with
           | no=>exact .no
           | fz r=>exact .fz (r.mono sG)
           | @ow c vs' ds' c1 c2 c3 c4 =>
             have:c≠p:=fun z=>hb _ rfl (by rw[z])
             exact .ow c1 (by rw[yV this];exact c2) c3 (c4.mono sG)
           | @od c _ _ _ _ c1 c2 c3 c4 c5 c6 =>
             have:c≠p:=fun z=>by rw[z,h2] at c1;cases c1
             exact .od c1 (by rw[yV this];exact c2) c3 (c4.mono sG) c5 c6
         by_cases h1:i < n
         · rw[Qc h1]
           rw[Qc (by omega)] at tl
           exact .cons (keepq fun es e z=>hne 0 es (by omega) (by simp[e]) (by simp[z])) tl
         · rw[Wd h1]
           by_cases h2:i=n
           · subst h2
             rw[Qc (by omega)] at tl
             have:=hat 0 (by omega)
             simp at this
             subst this
             rw[Nat.sub_self]
             exact .cons (.fz (y0.mpr ⟨p,vs,rfl,.of zE,h5.mono sG⟩)) tl
           · rw[Wd (by omega)] at tl
             have e:i - n=(i - (n+1))+1:=by omega
             rw[e]
             exact .cons (keepq fun es e z=>hne 0 es (by omega) (by simp[e]) (by simp[z])) tl
     have v:=key σ ρ 0 g.vals (fun j es' z e' w=>by have:=g.apart j i p es' ds e' e w h1;omega) (fun j z=>by rw[show j=i by omega];exact h1)
     rw[Wd (Yq _),Uc] at v
     exact v
   refine⟨_,sG,st,vals,fun j k b d1 d2 e1 e2 e3 e4=>?_⟩
   obtain⟨_,f1⟩:=wM e1
   obtain⟨_,f2⟩:=wM e2
   exact g.apart j k b d1 d2 f1 f2 e3 e4
 · exact⟨G,Same.refl _,g⟩
theorem pY (i:Nat)(h:PFS X st f):PFS X st (dU i f):=by
 refine PS.to h ?_
 rintro D σ H ⟨G0,H0,G,ρ,o,good,hf,k⟩
 obtain⟨G',s,g'⟩:=good.frz i
 exact⟨G0,H0,G',_,o,g',hf,k.mono s⟩
end
def iM (K:PySem.W.Frag)(J:It)(G:Hp)(ds:List D):Prop:=∀(i:Nat) (G2 H2:Hp),Same G G2->Same G2 H2 ->
 (∀d,ds[i]?=some d->J.go i H2/\∀x H3,J.yld i H2 x H3->∃G3,Step G2 H2 G3 H3/\Rep K G3 d x)/\(ds.length<=i->J.stop i H2)
def tFI (K:PySem.W.Frag)(f:Lf):TI:=fun σ H R=>∃G0 H0 G ρ ds,Good K G0 H0 G H σ ρ/\f ρ=some ds/\∀J H' G',Step G H G' H'->iM K J G' ds->R J H'
def PFI (X:Cx)(tg iter:Expr)(f:Lf):Prop:=PI X tg iter (tFI X.K f)
theorem PI.to {X:Cx}{tg e:Expr}{t:TI}{f:Lf}(h:PI X tg e t)(imp:∀σ H R,tFI X.K f σ H R->t σ H R):PFI X tg e f:=fun pins s σ H R I q=>h pins s σ H R I (imp σ H R q)
theorem jH {K:PySem.W.Frag}{G:Hp}{a:Addr}{vs:List V}{ds:List D}(h:SqL K G a vs)(r:Reps K G ds vs):iM K (Itl K a) G ds:=by
 intro i G2 H2 s1 s2
 have q:SqL K H2 a vs:=(s1.trans s2).seq h
 refine⟨fun d hd=>?_,fun hi=>⟨vs,q,by rw[←r.length];exact hi⟩⟩
 obtain⟨v,e,rv⟩:=r.get hd
 refine⟨⟨vs,v,q,e⟩,fun x H3 y=>?_⟩
 obtain⟨rfl,y⟩:=y
 have:=y vs q
 rw[e] at this;cases this
 exact⟨G2,.refl s2,rv.mono s1⟩
theorem zXE {K:PySem.W.Frag}{G:Hp}{a:Addr}{vs:List V}{ds:List D}(h:SqT K G a vs)(r:Reps K G ds vs):iM K (Itt K a) G ds:=by
 intro i G2 H2 s1 s2
 have q:SqT K H2 a vs:=(s1.trans s2).tup h
 refine⟨fun d hd=>?_,fun hi=>⟨vs,q,by rw[←r.length];exact hi⟩⟩
 obtain⟨v,e,rv⟩:=r.get hd
 refine⟨⟨vs,v,q,e⟩,fun x H3 y=>?_⟩
 obtain⟨rfl,y⟩:=y
 have:=y vs q
 rw[e] at this;cases this
 exact⟨G2,.refl s2,rv.mono s1⟩
def rO (lo:Int)(n:Nat):List D:=(List.range n).map fun i=>D.int (lo+(i:Nat))
theorem aA {K:PySem.W.Frag}{G:Hp}{lo:Int}{n:Nat}:iM K (Itr lo n) G (rO lo n):=by
 intro i G2 H2 s1 s2
 have hl:(rO lo n).length=n:=by simp[rO]
 refine⟨fun d hd=>?_,fun hi=>by rw[hl] at hi;exact hi⟩
 have hi:i < n:=by rw[←hl];exact(Ql.mp hd).1
 refine⟨hi,fun x H3 y=>?_⟩
 obtain⟨rfl,rfl⟩:=y
 have e:d = .int (lo+i):=by
   unfold rO at hd
   rw[Wt,List.getElem?_range hi] at hd
   exact(Wk hd).symm
 subst e
 exact⟨G2,.refl s2,zG.mpr rfl⟩
section
variable {X:Cx} {a b c e tg elt iter:Expr} {es ifs:List Expr} {fa fb:Ef} {ga gi:Lf} {tc:Tf} {pos:Pos} {st:Stmt} {f g:Sf}
def iL (f:Ef):Lf:=fun ρ=>(f ρ).bind fun d=>match d with | .lst ds=>some ds | _=>none
def iT (f:Ef):Lf:=fun ρ=>(f ρ).bind fun d=>match d with | .tup ds=>some ds | _=>none
theorem zXB (h:PF X e fa):PFI X tg e (iL fa):=by
 refine PI.to (zWz h) ?_
 rintro σ H R ⟨G0,H0,G,ρ,ds,good,hf,k⟩
 unfold iL at hf
 obtain⟨d,h1,hf⟩:=Qq.mp hf
 cases d with
 | lst es =>
   cases hf
   refine⟨G0,H0,G,ρ,_,good,h1,fun x H1 G1 s1 r1=>?_⟩
   obtain⟨p,vs,rfl,q,rs⟩:=y0.mp r1
   exact⟨p,rfl,⟨vs,s1.sub.seq q⟩,k _ H1 G1 s1 (jH q rs)⟩
 | _=>cases hf
theorem zUL (h:PFr X e ga):PFI X tg e ga:=by
 refine PI.to (zWz h) ?_
 rintro σ H R ⟨G0,H0,G,ρ,ds,good,hf,k⟩
 refine⟨G0,H0,G,ρ,_,good,hf,fun p vs H1 G1 s1 hn hp gp rs=>?_⟩
 exact⟨p,rfl,⟨vs,.of hp⟩,k _ H1 (upd G1 p (.lst vs)) (s1.frz hn hp gp) (jH (.of zE) (rs.mono (Same.new gp)))⟩
theorem zXx (h:PF X e fa):PFI X tg e (iT fa):=by
 refine PI.to (zRn h) ?_
 rintro σ H R ⟨G0,H0,G,ρ,ds,good,hf,k⟩
 unfold iT at hf
 obtain⟨d,h1,hf⟩:=Qq.mp hf
 cases d with
 | tup es =>
   cases hf
   refine⟨G0,H0,G,ρ,_,good,h1,fun x H1 G1 s1 r1=>?_⟩
   obtain⟨p,vs,rfl,q,rs⟩:=yW.mp r1
   exact⟨p,rfl,⟨vs,s1.sub.tup q⟩,k _ H1 G1 s1 (zXE q rs)⟩
 | _=>cases hf
def iR (f:Ef):Lf:=fun ρ=>(f ρ).bind fun d=>match d with | .int n=>if decide (-1000000<=n)&&decide (n<=1000000) then some (rO 0 n.toNat) else none | _=>none
theorem kI {p:Pos}(hg:Gl X "range")(hm:X.mg "range"=none)(h:PF X a fa)(hs:starEach [a] X.env=[(false,eval a X.env)]:=by rfl):PFI X tg (.Call (.Name "range" p) [a] [] pos) (iR fa):=by
 refine PI.to (zVI hg hm (yM h xT (by rw[hs];rfl)) hs) ?_
 rintro σ H R ⟨G0,H0,G,ρ,ds,good,hf,k⟩
 unfold iR at hf
 obtain⟨d,h1,hf⟩:=Qq.mp hf
 cases d with
 | int n =>
   dsimp only at hf
   split at hf
   · rename_i hc
     cases hf
     simp only[Qh,Qz] at hc
     refine⟨G0,H0,G,ρ,_,good,h1,fun x H1 G1 s1 r1=>⟨n,by rw[zG.mp r1],by omega,by omega,k _ H1 G1 s1 aA⟩⟩
   · cases hf
 | _=>cases hf
def tM (g:Gf)(body:Sf):List D->Sf
 | [],ρ=>some (.nx ρ)
 | d::r,ρ=>(g d ρ).bind fun ρ1=>(body ρ1).bind fun o=>match o with
   | .nx ρ2=>tM g body r ρ2
   | .ct ρ2=>tM g body r ρ2
   | .bk ρ2=>some (.nx ρ2)
   | o=>some o
def vU (src:Lf)(g:Gf)(body:Sf):Sf:=fun ρ=>(src ρ).bind fun ds=>tM g body ds ρ
theorem wY {gt:Gf}{body:List Stmt}{fb:Sf}(hp:PassesOwn (model X.prog X.w) X.A X.env X.xe)(hc:X.calm=true)(hi:PFI X tg iter gi)(hg:PFG X tg gt)(hb:lE X body fb)(hs:∀x,foldedSetIterable iter X.env x=pure x:=by intro _;rfl) :
   PFS X (.For tg iter body [] pos) (vU gi gt fb):=by
 refine PS.to (zRv hp hc hi hg hb hs) ?_
 rintro D σ H ⟨G0,H0,G,ρ,o,good,hf,k⟩
 unfold vU at hf
 obtain⟨ds,h1,hf⟩:=Qq.mp hf
 refine⟨G0,H0,G,ρ,ds,good,h1,fun J H1 G1 s1 y=>?_⟩
 refine⟨fun i m σ H=>m=ds.length - i/\i<=ds.length/\∃G2 ρ2,Same G1 G2/\Good X.K G0 H0 G2 H σ ρ2/\tM gt fb (ds.drop i) ρ2=some o,⟨ds.length,by simp,Ri _,G1,ρ,Same.refl _,good.step s1,by simpa using hf⟩,?_⟩
 rintro i m σ2 H2 ⟨rfl,hi',G2,ρ2,sg,good2,hf2⟩
 obtain⟨y1,y2⟩:=y i G2 H2 sg good2.sub
 by_cases hlt:i < ds.length
 · obtain⟨go,yl⟩:=y1 ds[i] (Qu hlt)
   rw[Ib hlt] at hf2
   unfold tM at hf2
   obtain⟨ρ3,e1,hf2⟩:=Qq.mp hf2
   obtain⟨o1,e2,hf2⟩:=Qq.mp hf2
   refine .inr ⟨go,fun σ' H'=>∃G' ρ',Same G1 G'/\Good X.K G0 H0 G' H' σ' ρ'/\tM gt fb (ds.drop (i+1)) ρ'=some o,fun σ' H' ⟨G',ρ',a1,a2,a3⟩=>⟨ds.length - (i+1),by omega,rfl,hlt,G',ρ',a1,a2,a3⟩,fun x H3 yx=>?_⟩
   obtain⟨G3,s3,r3⟩:=yl x H3 yx
   refine⟨G0,H0,G3,ρ2,_,ρ3,good2.step s3,r3,e1,fun σ4 H4 G4 s4 good4=>?_⟩
   have sg4:Same G1 G4:=(sg.trans s3.gg).trans s4.gg
   refine⟨G0,H0,G4,ρ3,o1,good4,e2,?_⟩
   cases o1 with
   | nx ρ5=>exact fun σ5 H5 G5 s5 good5=>⟨G5,ρ5,sg4.trans s5,good5,hf2⟩
   | ct ρ5=>exact fun σ5 H5 G5 s5 good5=>⟨G5,ρ5,sg4.trans s5,good5,hf2⟩
   | bk ρ5=>cases hf2;exact fun σ5 H5 G5 s5 good5=>k σ5 H5 G5 ((s1.gg.trans sg4).trans s5) good5
   | rt d=>cases hf2;exact k
   | rl d=>cases hf2;exact k
 · have e:i=ds.length:=by omega
   subst e
   rw[List.drop_length] at hf2
   cases hf2
   exact .inl ⟨y2 (Qf _),k σ2 H2 G2 (s1.gg.trans sg) good2⟩
def uE (g:Gf)(t:Tf)(elt:Ef):List D->List B->List D->Option (List D)
 | [],_,acc=>some acc
 | d::r,ρ,acc=>(g d ρ).bind fun ρ1=>(t ρ1).bind fun c=>if c=true then(elt ρ1).bind fun y=>uE g t elt r ρ1 (acc++[y]) else uE g t elt r ρ1 acc
def upB (m:Nat)(js:List Nat)(ρ:List B):List B:=List.replicate m .no++js.map fun j=>match ρ[j]? with | some (.fz d)=>.fz d | _=>.no
def yO (src:Lf)(m:Nat)(js:List Nat)(g:Gf)(t:Tf)(elt:Ef):Lf:=fun ρ=>((src ρ).bind okL).bind fun ds=>uE g t elt ds (upB m js ρ) []
theorem Good.up {K:PySem.W.Frag}{G0 H0 G H:Hp}{σ:St}{ρ:List B}(g:Good K G0 H0 G H σ ρ)(m:Nat)(js:List Nat):Good K G H G H (upC m js σ) (upB m js ρ):=by
 refine⟨.refl g.sub,?_,fun i j a ds es h1=>?_⟩
 · unfold upC upB
   have rep:∀m:Nat,Paired (RB K H G H) (List.replicate m (none:Option V)) (List.replicate m B.no):=fun m=>by
     induction m with
     | zero=>exact .nil
     | succ n ih=>rw[Ws,Ws];exact .cons .no ih
   have app:∀ {l1 l2:List (Option V)} {r1 r2:List B},Paired (RB K H G H) l1 r1->Paired (RB K H G H) l2 r2->Paired (RB K H G H) (l1++l2) (r1++r2):=fun h1 h2=>by
     induction h1 with
     | nil=>exact h2
     | cons q t ih=>exact .cons q ih
   refine app (rep m) ?_
   induction js with
   | nil=>exact .nil
   | cons j r ih =>
     rw[Qb,Qb]
     refine .cons ?_ ih
     cases e:ρ[j]? with
     | none=>exact .no
     | some b =>
       obtain⟨o,e1,r1⟩:=Paired.get g.vals e
       cases r1 with
       | no=>exact .no
       | fz q=>rw[e1];exact .fz q
       | ow q1 q2 q3 q4=>exact .no
       | od q1 q2 q3 q4 q5 q6=>exact .no
 · unfold upB at h1
   by_cases hi:i < m
   · rw[Es (by simpa using hi),Ez] at h1
     split at h1<;>cases h1
   · rw[Wm (by simpa using hi),Wt] at h1
     obtain⟨k,_,h1⟩:=Qt.mp h1
     split at h1<;>cases h1
theorem zUv (m:Nat)(js:List Nat)(ρ:List B):bZ (upB m js ρ):=by
 constructor
 all_goals
   intro i es h1
   unfold upB at h1
   by_cases hi:i < m
   · rw[Es (by simpa using hi),Ez] at h1
     split at h1<;>cases h1
   · rw[Wm (by simpa using hi),Wt] at h1
     obtain⟨k,_,h1⟩:=Qt.mp h1
     split at h1<;>cases h1
theorem Good.wrX {K:PySem.W.Frag}{G0 H0 G H:Hp}{σ:St}{ρ:List B}{p:Addr}{o:HO}(g:Good K G0 H0 G H σ ρ)(n:bZ ρ)(gp:G p=none)(h0:H0 p=none):Good K G0 H0 G (upd H p o) σ ρ:=by
 refine⟨⟨fun b u e=>?_,g.st.gg,fun b u e=>?_,g.st.new⟩,?_,g.apart⟩
 · rw[yV (yN e h0)];exact g.st.hh b u e
 · rw[yV (yN e gp)];exact g.st.sub b u e
 · have key:∀(l:List (Option V)) (r:List B),Paired (RB K H0 G H) l r->bZ r->Paired (RB K H0 G (upd H p o)) l r:=by
     intro l r q
     induction q with
     | nil=>intro _;exact .nil
     | @cons x b l' r' q t ih =>
       intro n
       refine .cons ?_ (ih ⟨fun j es e=>n.1 (j+1) es (by simpa using e),fun j es e=>n.2 (j+1) es (by simpa using e)⟩)
       cases q with
       | no=>exact .no
       | fz r=>exact .fz r
       | ow _ _ _ _=>exact absurd rfl (n.1 0 _)
       | od _ _ _ _ _ _=>exact absurd rfl (n.2 0 _)
   exact key σ ρ g.vals n
theorem zYB {K:PySem.W.Frag}{m:Nat}{js:List Nat}{gt:Gf}{t:Tf}{el:Ef}(hgo:zV4 gt){σ:St}{H:Hp}{Q:VK}(h:tFr K (yO gi m js gt t el) σ H Q):zTI (tFI K gi) m js (tFG K gt) (tFT K t) (tF K el) σ H Q:=by
 obtain⟨G0,H0,G,ρ,out,good,hf,k⟩:=h
 unfold yO at hf
 obtain⟨ds,h1,hf⟩:=Qq.mp hf
 obtain⟨ds',h1,h1'⟩:=Qq.mp h1
 obtain⟨rfl,hlen⟩:=jN h1'
 refine⟨G0,H0,G,ρ,_,good,h1,fun J H1 G1 s1 y D hD=>?_⟩
 have good1:=(good.step s1).up m js
 have hGD:G1 D=none:=s1.sub.free hD
 refine⟨fun i n σ2 H2=>n=ds.length - i/\i<=ds.length/\∃G2 ρ2 acc us,Same G1 G2/\G2 D=none/\H2 D=some (.lst us)/\Reps K G2 acc us/\acc.length<=i/\bZ ρ2/\Good K G1 H1 G2 H2 σ2 ρ2/\uE gt t el (ds.drop i) ρ2 acc=some out,
   ⟨ds.length,by simp,Ri _,G1,upB m js ρ,[],[],Same.refl _,hGD,zE,z0.mpr rfl,Qf _,zUv _ _ _,good1.step (Step.own s1.sub hD),by simpa using hf⟩,?_⟩
 rintro i n σ2 H2 ⟨rfl,hi,G2,ρ2,acc,us,sg,gD,hD2,rs,hal,now,good2,hf2⟩
 obtain⟨y1,y2⟩:=y i G2 H2 sg good2.sub
 by_cases hlt:i < ds.length
 · obtain⟨go,yl⟩:=y1 ds[i] (Qu hlt)
   rw[Ib hlt] at hf2
   unfold uE at hf2
   obtain⟨ρ3,e1,hf2⟩:=Qq.mp hf2
   obtain⟨c,e2,hf2⟩:=Qq.mp hf2
   have now3:=hgo _ _ _ e1 now
   refine .inr ⟨go,fun x H3 yx=>?_⟩
   obtain⟨G3,s3,r3⟩:=yl x H3 yx
   refine⟨G1,H1,G3,ρ2,_,ρ3,good2.step s3,r3,e1,fun σ4 H4 G4 s4 good4=>?_⟩
   refine⟨G1,H1,G4,ρ3,c,good4,e2,fun H5 G5 s5=>?_⟩
   have s35:=(s3.trans s4).trans s5
   have hne:H2 D≠none:=by rw[hD2];exact fun z=>nomatch z
   split at hf2
   · rename_i hc
     show if c=true then _ else _
     rw[Qc hc]
     obtain⟨yd,e3,hf2⟩:=Qq.mp hf2
     refine⟨G1,H1,G5,ρ3,yd,good4.step s5,e3,fun v H6 G6 s6 r6=>?_⟩
     have s36:=s35.trans s6
     have hD6:H6 D=some (.lst us):=s36.hh _ _ hD2
     have gD6:G6 D=none:=(s36.new D hne).trans gD
     refine⟨us,ds.length - (i+1),hD6,?_,by omega,rfl,hlt,G6,ρ3,acc++[yd],us++[v],sg.trans s36.gg,gD6,zE,(rs.mono s36.gg).snoc r6,by rw[Wp,List.length_singleton];omega,now3,((good4.step s5).step s6).wrX now3 gD6 hD,hf2⟩
     rw[←rs.length]
     exact vH (Wh hal (Wh hi hlen))
   · rename_i hc
     show if c=true then _ else _
     rw[Wd hc]
     exact⟨ds.length - (i+1),by omega,rfl,hlt,G5,ρ3,acc,us,sg.trans s35.gg,(s35.new D hne).trans gD,s35.hh _ _ hD2,rs.mono s35.gg,by omega,now3,good4.step s5,hf2⟩
 · have e:i=ds.length:=by omega
   subst e
   rw[List.drop_length] at hf2
   cases hf2
   exact .inl ⟨y2 (Qf _),k D us H2 G2 (s1.trans good2.st) (s1.hh.free hD) hD2 gD rs⟩
def tOK:Tf:=fun _=>some true
def zWo (X:Cx)(ifs:List Expr)(t:Tf):Prop:=zXW X ifs (tFT X.K t)
theorem yJ {X:Cx}:zWo X [] tOK:=fun pins s σ H Q I h=>zTs pins s σ H Q I (by
 obtain⟨G0,H0,G,ρ,b,good,hf,k⟩:=h
 cases hf
 exact k H G (.refl good.sub))
theorem zVz {X:Cx}{c:Expr}{t:Tf}(h:PFT X c t):zWo X [c] t:=zUB h
theorem xH (sc:Scope)(N tgs frees:List Str)(js:List Nat){scope:Scope}{gt:Gf}{t:Tf}{el:Ef}(hgo:zV4 gt)(hp:PFI X tg iter gi)(hc:X.calm=true)(hsc:X.env.scope=sc)(hNN:X.N=N)(hok:oQ sc scope N tgs frees js=true)
   (hg:∀C s₀ H₀ fp,PFG (wG X (tgs++frees) scope C s₀ H₀ fp) tg gt) (hi:∀C s₀ H₀ fp,zWo (wG X (tgs++frees) scope C s₀ H₀ fp) ifs t) (he:∀C s₀ H₀ fp,PF (wG X (tgs++frees) scope C s₀ H₀ fp) elt el)
   (hs:∀x,foldedSetIterable iter X.env x=pure x:=by intro _;rfl) :
   PFr X (.ListComp elt [⟨tg,iter,ifs,0⟩] scope pos) (yO gi tgs.length js gt t el) :=
 PE.toR (zSN (g:=tFG X.K gt) (tc:=tFT X.K t) (te:=tF X.K el) sc tgs frees js hp hc hsc (by rw[hNN];exact hok) hg hi he hs) fun σ H Q h=>zYB hgo h
theorem zXF (sc:Scope)(N tgs frees:List Str)(js:List Nat){scope:Scope}{gt:Gf}{t:Tf}{el:Ef}(hgo:zV4 gt)(i:Nat){x:Str}{pos' spos:Pos}(hN:X.N.Nodup)(hx:X.N[i]?=some x)(hl:X.env.scope.names.lookup x=some .local)(hp:PFI X tg iter gi)(hc:X.calm=true)(hsc:X.env.scope=sc)(hNN:X.N=N)(hok:oQ sc scope N tgs frees js=true)
   (hg:∀C s₀ H₀ fp,PFG (wG X (tgs++frees) scope C s₀ H₀ fp) tg gt) (hi:∀C s₀ H₀ fp,zWo (wG X (tgs++frees) scope C s₀ H₀ fp) ifs t) (he:∀C s₀ H₀ fp,PF (wG X (tgs++frees) scope C s₀ H₀ fp) elt el)
   (hsw:swapsWith (.ListComp elt [⟨tg,iter,ifs,0⟩] scope pos) (some (.Name x pos')) spos.line X.env=pure true:=by with_unfolding_all rfl) (hs:∀x,foldedSetIterable iter X.env x=pure x:=by intro _;rfl) :
   PFS X (.Assign [.Name x pos'] (.ListComp elt [⟨tg,iter,ifs,0⟩] scope pos) spos) (vC i (yO gi tgs.length js gt t el)) :=
 PS.to (zX4 (g:=tFG X.K gt) (tc:=tFT X.K t) (te:=tF X.K el) sc tgs frees js hN hx hl hp hc hsc (by rw[hNN];exact hok) hg hi he hsw hs) fun D σ H h=>zYP (fun _ _ _ q=>zYB hgo q) h
end
section
variable {X:Cx} {a b c e:Expr} {fa fb:Ef} {pos:Pos} {f:Sf}
def jZ (i:Nat)(f:Ef):Sf:=fun ρ=>(f ρ).bind fun d=>match ρ[i]? with | some (.ow ds)=>if ds.length < lim then some (.nx (ρ.set i (.ow (ds++[d])))) else none | _=>none
theorem iK (i:Nat)(ht:PE X c (tBM X.K "list" zWn (zSJ i) (zW2 (tF X.K fa) zSr)))(hs:swapsWith c none pos.line X.env=pure false:=by rfl):PFS X (.Expr c pos) (jZ i fa):=by
 refine PS.to (zWr ht hs) ?_
 rintro D σ H ⟨G0,H0,G,ρ,o,good,hf,k⟩
 unfold jZ at hf
 obtain⟨d,h1,hf⟩:=Qq.mp hf
 split at hf
 · rename_i ds hi
   split at hf
   · rename_i hl
     cases hf
     obtain⟨p,vs,e1,e2,e3,e4,e5⟩:=good.addr hi
     refine⟨.ref p,e1,.inl ⟨rfl,vs,.of e2⟩,G0,H0,G,ρ,d,good,h1,fun v H1 G1 s1 r1=>?_⟩
     have good1:=good.step s1
     obtain⟨p',vs',f1,f2,f3,f4,f5⟩:=good1.addr hi
     rw[e1] at f1;cases f1
     exact⟨p,vs',v,rfl,rfl,f2,by rw[←f5.length];exact vH (Wz hl),k σ _ G1 s1.gg (good1.wr hi e1 (f5.snoc r1))⟩
   · cases hf
 · cases hf
def zVx (j i:Nat)(f:Ef):Sf:=fun ρ=>(f ρ).bind fun d=>match d,ρ[i]? with
 | .int n,some (.ow ds)=>if ds.length<=lim then(ixN ds.length n).bind fun q=>(ds[q]?).map fun x=>.nx ((ρ.set i (.ow (ds.eraseIdx q))).set j (.fz x)) else none
 | _,_=>none
theorem zSQ (j i:Nat){y:Str}{p4:Pos}(hNd:X.N.Nodup)(ht:PE X c (tBM X.K "list" zUh (zSJ i) (zW2 (tF X.K fa) zSr)))(hj:X.N[j]?=some y:=by rfl)(hjx:Loc X.env.scope y:=by first | exact .inl rfl | exact .inr rfl)
   (hs:swapsWith c (some (.Name y p4)) pos.line X.env=pure false:=by rfl) (hfn:X.fn y=true∨X.env.scope.names.lookup y=some .local:=by first | exact .inl rfl | exact .inr rfl) :
   PFS X (.Assign [.Name y p4] c pos) (zVx j i fa):=by
 refine PS.to (zXy hNd hj hjx ht hs hfn) ?_
 rintro D σ H ⟨G0,H0,G,ρ,o,good,hf,k⟩
 unfold zVx at hf
 obtain⟨d,h1,hf⟩:=Qq.mp hf
 split at hf
 · rename_i n ds hi
   split at hf
   · rename_i hl
     obtain⟨q,hq,hf⟩:=Qq.mp hf
     obtain⟨x',hx,rfl⟩:=Qt.mp hf
     obtain⟨p,vs,e1,e2,e3,e4,e5⟩:=good.addr hi
     refine⟨.ref p,e1,.inl ⟨rfl,vs,.of e2⟩,G0,H0,G,ρ,_,good,h1,fun v H1 G1 s1 r1=>?_⟩
     have good1:=good.step s1
     obtain⟨p',vs',f1,f2,f3,f4,f5⟩:=good1.addr hi
     rw[e1] at f1;cases f1
     obtain⟨w,hw,rw'⟩:=f5.get hx
     have hlen:=f5.length
     rw[hlen] at hq
     obtain⟨q1,q2,q3,q4⟩:=aJ hq
     have hb:vs'.length < 2^40:=by rw[←hlen];exact Yo hl (by decide)
     refine⟨p,vs',n,q,w,rfl,by rw[zG.mp r1],f2,by omega,by omega,q1,hw,?_⟩
     exact k _ _ G1 s1.gg ((good1.wr hi e1 (f5.erase q)).setF j rw')
   · cases hf
 · cases hf
def lV (i:Nat)(fi fv:Ef):Sf:=fun ρ=>(fv ρ).bind fun d=>(fi ρ).bind fun n=>match n,ρ[i]? with
 | .int n,some (.ow ds)=>if ds.length<=lim then(ixN ds.length n).map fun q=>.nx (ρ.set i (.ow (ds.set q d))) else none
 | _,_=>none
theorem jY (i:Nat){x:Str}{p1 p2:Pos}(he:PF X e fa)(hb:PF X b fb)(hN:X.N[i]?=some x:=by rfl)(hv:Vis X.env.scope x:=by first | exact Or.inl rfl | exact Or.inr (Or.inl rfl) | exact Or.inr (Or.inr rfl))(hd:(x==("__debug__":Str))=false:=by decide)(hcd:(x==("__classdict__":Str))=false:=by decide)
   (ha:∀v,assign (.Subscript (.Name x p1) b p2) X.env v=(do
     let ov ←holding [v] (eval (.Name x p1) X.env)
     let iv ←holding [v,ov] (eval b X.env)
     standAt p2
     holding [v,ov,iv] (setItem ov iv v)
     release [v,ov,iv] []):=by intro _;rfl)
   (hs:swapsWithSole [.Subscript (.Name x p1) b p2] e pos.line X.env=pure false:=by rfl) (hw:swappedStores [.Subscript (.Name x p1) b p2] e X.env=pure none:=by rfl)
   (h1:(assignEach [.Subscript (.Name x p1) b p2] X.env).map (·.2)=[assign (.Subscript (.Name x p1) b p2) X.env]:=by rfl):PFS X (.Assign [.Subscript (.Name x p1) b p2] e pos) (lV i fb fa):=by
 refine PS.to (zT6 he (zR0 (nQ hN hv hd hcd) hb zUy ha) hs hw h1) ?_
 rintro D σ H ⟨G0,H0,G,ρ,o,good,hf,k⟩
 unfold lV at hf
 obtain⟨d,h1,hf⟩:=Qq.mp hf
 obtain⟨n,h2,hf⟩:=Qq.mp hf
 split at hf
 · rename_i n ds hi
   split at hf
   · rename_i hl
     obtain⟨q,hq,rfl⟩:=Qt.mp hf
     refine⟨G0,H0,G,ρ,d,good,h1,fun v H1 G1 s1 r1=>?_⟩
     have good1:=good.step s1
     obtain⟨p,vs,e1,e2,e3,e4,e5⟩:=good1.addr hi
     refine⟨.ref p,e1,G0,H0,G1,ρ,_,good1,h2,fun u H2 G2 s2 r2=>?_⟩
     have good2:=good1.step s2
     obtain⟨p',vs',f1,f2,f3,f4,f5⟩:=good2.addr hi
     rw[e1] at f1;cases f1
     refine⟨p,vs',n,q,rfl,zG.mp r2,f2,by rw[←f5.length];exact hq,?_⟩
     exact k _ _ G2 (s1.gg.trans s2.gg) (good2.wr hi e1 (f5.set q (r1.mono s2.gg)))
   · cases hf
 · cases hf
def zR8:D->Option D
 | .tup ds=>some (.int ds.length)
 | .lst ds=>some (.int ds.length)
 | .str z=>if z.length<=lim then some (.int z.length) else none
 | _=>none
def vZ (f:Ef):Ef:=fun ρ=>(f ρ).bind zR8
theorem uQ {p:Pos}(hg:Gl X "len")(hm:X.mg "len"=none)(h:PF X a fa)(hs:starEach [a] X.env=[(false,eval a X.env)]:=by rfl):PF X (.Call (.Name "len" p) [a] [] pos) (vZ fa):=by
 refine PE.to (rX (jQ.or aL) hg hm PySem.boot_len (yM h xT (by rw[hs];rfl)) (by decide) (by decide) (by rw[hs];rfl) (by rfl)) ?_
 rintro σ H Q ⟨G0,H0,G,ρ,d,good,hf,k⟩
 unfold vZ at hf
 obtain⟨x,h1,hf⟩:=Qq.mp hf
 refine⟨G0,H0,G,ρ,_,good,h1,fun v H1 G1 s1 r1=>?_⟩
 unfold zR8 at hf
 split at hf
 · cases hf
   obtain⟨p,vs,rfl,q,rs⟩:=yW.mp r1
   exact .inl ⟨p,vs,rfl,.inr (s1.sub.tup q),k _ _ G1 s1 (zG.mpr (by rw[rs.length]))⟩
 · cases hf
   obtain⟨p,vs,rfl,q,rs⟩:=y0.mp r1
   exact .inl ⟨p,vs,rfl,.inl (s1.sub.seq q),k _ _ G1 s1 (zG.mpr (by rw[rs.length]))⟩
 · split at hf
   · rename_i hz
     cases hf
     exact .inr ⟨_,by rw[xD.mp r1],Wz (vH hz),k _ _ G1 s1 (zG.mpr rfl)⟩
   · cases hf
 · cases hf
def lN (i:Nat):Ef:=fun ρ=>match ρ[i]? with | some (.ow ds)=>some (.int ds.length) | _=>none
theorem zZ8 (i:Nat){x:Str}{p p1:Pos}(hg:Gl X "len")(hm:X.mg "len"=none)(hN:X.N[i]?=some x:=by rfl)(hv:Vis X.env.scope x:=by first | exact Or.inl rfl | exact Or.inr (Or.inl rfl) | exact Or.inr (Or.inr rfl))(hd:(x==("__debug__":Str))=false:=by decide)(hcd:(x==("__classdict__":Str))=false:=by decide):PF X (.Call (.Name "len" p) [.Name x p1] [] pos) (lN i):=by
 refine PE.to (rX jQ hg hm PySem.boot_len (yM (nQ hN hv hd hcd) xT)) ?_
 rintro σ H Q ⟨G0,H0,G,ρ,d,good,hf,k⟩
 unfold lN at hf
 split at hf
 · rename_i ds hi
   cases hf
   obtain⟨q,vs,e1,e2,e3,e4,e5⟩:=good.addr hi
   exact⟨.ref q,e1,q,vs,rfl,.inl (.of e2),k _ _ G (.refl good.sub) (zG.mpr (by rw[e5.length]))⟩
 · cases hf
def zXV:D->Option D | .lst ds=>some (.tup ds) | .tup ds=>some (.tup ds) | _=>none
def yA (f:Ef):Ef:=fun ρ=>(f ρ).bind zXV
theorem xF {p:Pos}(hg:Gl X "tuple")(hm:X.mg "tuple"=none)(h:PF X a fa)(hs:starEach [a] X.env=[(false,eval a X.env)]:=by rfl):PF X (.Call (.Name "tuple" p) [a] [] pos) (yA fa):=by
 refine PE.to (iX cT hg hm (by rfl) (yM h xT (by rw[hs];rfl)) (by decide) (by decide) (by rw[hs];rfl) (by rfl)) ?_
 rintro σ H Q ⟨G0,H0,G,ρ,d,good,hf,k⟩
 unfold yA at hf
 obtain⟨x,h1,hf⟩:=Qq.mp hf
 refine⟨G0,H0,G,ρ,_,good,h1,fun v H1 G1 s1 r1=>?_⟩
 unfold zXV at hf
 split at hf
 · cases hf
   obtain⟨p,vs,rfl,q,rs⟩:=y0.mp r1
   refine⟨p,vs,rfl,.inl ⟨s1.sub.seq q,fun l hl=>?_⟩⟩
   have s2:=Step.laid (o:=.tup vs) s1.sub hl
   exact k _ _ _ (s1.trans s2) (yW.mpr ⟨l,vs,rfl,.of zE,rs.mono s2.gg⟩)
 · cases hf
   obtain⟨p,vs,rfl,q,rs⟩:=yW.mp r1
   exact⟨p,vs,rfl,.inr ⟨s1.sub.tup q,k _ _ G1 s1 r1⟩⟩
 · cases hf
def zTM:D->Option (List D) | .lst ds=>some ds | .tup ds=>some ds | _=>none
def mI (f:Ef):Lf:=fun ρ=>(f ρ).bind zTM
theorem iU {p:Pos}(hg:Gl X "list")(hm:X.mg "list"=none)(h:PF X a fa)(hs:starEach [a] X.env=[(false,eval a X.env)]:=by rfl):PFr X (.Call (.Name "list" p) [a] [] pos) (mI fa):=by
 refine PE.toR (iX aB hg hm (by rfl) (yM h xT (by rw[hs];rfl)) (by decide) (by decide) (by rw[hs];rfl) (by rfl)) ?_
 rintro σ H Q ⟨G0,H0,G,ρ,d,good,hf,k⟩
 unfold mI at hf
 obtain⟨x,h1,hf⟩:=Qq.mp hf
 refine⟨G0,H0,G,ρ,_,good,h1,fun v H1 G1 s1 r1=>?_⟩
 unfold zTM at hf
 split at hf
 · cases hf
   obtain⟨p,vs,rfl,q,rs⟩:=y0.mp r1
   exact⟨p,vs,rfl,.inl (s1.sub.seq q),fun l hl=>k l vs _ G1 (s1.trans (Step.own s1.sub hl)) (s1.hh.free hl) zE (s1.sub.free hl) rs⟩
 · cases hf
   obtain⟨p,vs,rfl,q,rs⟩:=yW.mp r1
   exact⟨p,vs,rfl,.inr (s1.sub.tup q),fun l hl=>k l vs _ G1 (s1.trans (Step.own s1.sub hl)) (s1.hh.free hl) zE (s1.sub.free hl) rs⟩
 · cases hf
end
def spF (K:PySem.W.Frag)(n:Nat)(f:List D->Option D):Sp:=fun vs H Q _=>∃G ds d,Same G H/\Reps K G ds vs/\ds.length=n/\f ds=some d/\∀v H' G',Step G H G' H'->Rep K G' d v->Q v H'
def spL (K:PySem.W.Frag)(n:Nat)(f:List D->Option (List D)):Sp:=fun vs H Q _=>∃G ds es,Same G H/\Reps K G ds vs/\ds.length=n/\f ds=some es/\∀a us H' G',Step G H G' H'->H a=none->H' a=some (.lst us)->G' a=none->Reps K G' es us->Q (.ref a) H'
def rV (N:Nat)(ds:List D):List B:=ds.map .fz++List.replicate (N - ds.length) .no
def vQ:Out->Option D
 | .nx _=>some .non
 | .rt d=>some d
 | .rl ds=>some (.lst ds)
 | _=>none
def zZ2:Out->Option (List D)
 | .rl ds=>some ds
 | _=>none
def fnF (N:Nat)(body:Sf)(ds:List D):Option D:=(body (rV N ds)).bind vQ
def fnL (N:Nat)(body:Sf)(ds:List D):Option (List D):=(body (rV N ds)).bind zZ2
theorem dF {K:PySem.W.Frag}{G H:Hp}{N:List Str}{ds:List D}{vs:List V}(s:Same G H)(r:Reps K G ds vs):Good K G H G H (oK N vs) (rV N.length ds):=by
 refine⟨.refl s,?_,fun i j a es es' h1=>?_⟩
 · unfold oK rV
   rw[r.length]
   have rep:∀m:Nat,Paired (RB K H G H) (List.replicate m (none:Option V)) (List.replicate m B.no):=fun m=>by
     induction m with
     | zero=>exact .nil
     | succ n ih=>rw[Ws,Ws];exact .cons .no ih
   have key:∀(ds:List D) (vs:List V) (l:List (Option V)) (q:List B),Reps K G ds vs->Paired (RB K H G H) l q->Paired (RB K H G H) (vs.map some++l) (ds.map .fz++q):=by
     intro ds
     induction ds with
     | nil=>intro vs l q h p;rw[z0] at h;subst h;exact p
     | cons d r ih =>
       intro vs l q h p
       obtain⟨v,vr,rfl,h1,h2⟩:=zH.mp h
       exact .cons (.fz h1) (ih vr l q h2 p)
   exact key ds vs _ _ r (rep _)
 · unfold rV at h1
   by_cases hi:i < ds.length
   · rw[Es (by simpa using hi),Wt] at h1
     obtain⟨k,_,h1⟩:=Qt.mp h1
     cases h1
   · rw[Wm (by simpa using hi),Ez] at h1
     split at h1<;>cases h1
section
variable {P:Program} {w:World} {K:PySem.W.Frag} {mg:Str->Option Value} {base:Heap} {x qual:Str} {st:Stmt} {f:Addr} {fd:FuncData} {N ps:List Str} {k:Nat}
theorem xB {body:Sf}(F:Fun K x qual st f fd)(S:FnScope N ps (zT st))
   (hb:∀(cdv:Value) (A:Around) (outer:List Env) (s:Shared) (H:Hp) (E:XK),Room k (A.deeper (envOfC qual (zT st) s.heap.objs.size f cdv))->lE (zZH CX0 P w K mg base N qual (zT st) f cdv A outer s H E).nox (wP st) body) :
   FnOk P w K mg base CX0 (k+1) f fd ps (spF K ps.length (fnF N.length body)):=by
 refine F.ok S (fun vs H Q E h=>?_) (fun cdv A outer s H vs Q E hr h=>⟨_,hb cdv A outer s H E hr,?_⟩)
 · obtain⟨G,ds,d,sub,rs,hl,_⟩:=h
   rw[←rs.length];exact hl
 · obtain⟨G,ds,d,sub,rs,hl,hf,k⟩:=h
   unfold fnF at hf
   obtain⟨o,h1,h2⟩:=Qq.mp hf
   refine⟨G,H,G,_,o,dF sub rs,h1,?_⟩
   cases o with
   | nx ρ=>cases h2;exact fun σ' H' G' s' g'=>k .non H' G' g'.st (vL.mpr rfl)
   | rt e=>cases h2;exact fun v H' G' s' r=>k v H' G' s' r
   | rl es=>cases h2;exact fun p us H' G' s' hn hp gp r=>k _ H' (upd G' p (.lst us)) (s'.frz hn hp gp) (y0.mpr ⟨p,us,rfl,.of zE,r.mono (Same.new gp)⟩)
   | bk ρ=>cases h2
   | ct ρ=>cases h2
theorem pF {body:Sf}(F:Fun K x qual st f fd)(S:FnScope N ps (zT st))
   (hb:∀(cdv:Value) (A:Around) (outer:List Env) (s:Shared) (H:Hp) (E:XK),Room k (A.deeper (envOfC qual (zT st) s.heap.objs.size f cdv))->lE (zZH CX0 P w K mg base N qual (zT st) f cdv A outer s H E).nox (wP st) body) :
   FnOk P w K mg base CX0 (k+1) f fd ps (spL K ps.length (fnL N.length body)):=by
 refine F.ok S (fun vs H Q E h=>?_) (fun cdv A outer s H vs Q E hr h=>⟨_,hb cdv A outer s H E hr,?_⟩)
 · obtain⟨G,ds,d,sub,rs,hl,_⟩:=h
   rw[←rs.length];exact hl
 · obtain⟨G,ds,d,sub,rs,hl,hf,k⟩:=h
   unfold fnL at hf
   obtain⟨o,h1,h2⟩:=Qq.mp hf
   refine⟨G,H,G,_,o,dF sub rs,h1,?_⟩
   cases o with
   | rl es=>cases h2;exact fun p us H' G' s' hn hp gp r=>k p us H' G' s' hn hp gp r
   | _=>cases h2
end
section
variable {X:Cx} {a b c e:Expr} {es:List Expr} {fa fb:Ef} {ga:Lf} {tc:Tf} {pos p:Pos} {f g:Sf}
def zF (n:Nat)(f:List D->Option D)(g:Lf):Ef:=fun ρ=>(g ρ).bind fun ds=>if ds.length=n then f ds else none
theorem zSM {k n:Nat}{fad:Addr}{fd:FuncData}{ps:List Str}{x:Str}{fD:List D->Option D}(F:FnOk X.prog X.w X.K X.mg X.base CX0 k fad fd ps (spF X.K n fD))(hr:Room k X.A)(hm:X.mg x=some (.ref fad))(hk:PySem.W.keepIn X.K (.ref fad)=true)(hb:Binds X.K fd ps [])(hg:Gl X x)
   (ha:PFA X (e::es) ga) (hdb:(x==("__debug__":Str))=false:=by decide) (he:starEach (e::es) X.env=(false,eval e X.env)::starEach es X.env:=by rfl) (hpl:(backTo pos (starEach es X.env)).any (·.1)=false:=by rfl) :
   PF X (.Call (.Name x p) (e::es) [] pos) (zF n fD ga):=by
 refine PE.to (zWP (E:=E0) F hr hg hm hk hb .nil zUb ha hdb he hpl) ?_
 rintro σ H Q ⟨G0,H0,G,ρ,d,good,hf,k⟩
 unfold zF at hf
 obtain⟨ds,h1,hf⟩:=Qq.mp hf
 split at hf
 · rename_i hl
   refine⟨G0,H0,G,ρ,_,good,h1,fun vs H1 G1 s1 r1=>?_⟩
   show spF X.K n fD (vs++[]) H1 Q E0
   rw[Et]
   exact⟨G1,ds,d,s1.sub,r1,hl,hf,fun v H' G' s r=>k v H' G' (s1.trans s) r⟩
 · cases hf
def wE (n:Nat)(f:List D->Option (List D))(g:Lf):Lf:=fun ρ=>(g ρ).bind fun ds=>if ds.length=n then f ds else none
theorem zSC {k n:Nat}{fad:Addr}{fd:FuncData}{ps:List Str}{x:Str}{fD:List D->Option (List D)}(F:FnOk X.prog X.w X.K X.mg X.base CX0 k fad fd ps (spL X.K n fD))(hr:Room k X.A)(hm:X.mg x=some (.ref fad))(hk:PySem.W.keepIn X.K (.ref fad)=true)(hb:Binds X.K fd ps [])(hg:Gl X x)
   (ha:PFA X (e::es) ga) (hdb:(x==("__debug__":Str))=false:=by decide) (he:starEach (e::es) X.env=(false,eval e X.env)::starEach es X.env:=by rfl) (hpl:(backTo pos (starEach es X.env)).any (·.1)=false:=by rfl) :
   PFr X (.Call (.Name x p) (e::es) [] pos) (wE n fD ga):=by
 refine PE.toR (zWP (E:=E0) F hr hg hm hk hb .nil zUb ha hdb he hpl) ?_
 rintro σ H Q ⟨G0,H0,G,ρ,d,good,hf,k⟩
 unfold wE at hf
 obtain⟨ds,h1,hf⟩:=Qq.mp hf
 split at hf
 · rename_i hl
   refine⟨G0,H0,G,ρ,_,good,h1,fun vs H1 G1 s1 r1=>?_⟩
   show spL X.K n fD (vs++[]) H1 Q E0
   rw[Et]
   exact⟨G1,ds,d,s1.sub,r1,hl,hf,fun p us H' G' s hn hp gp r=>k p us H' G' (s1.trans s) (s1.hh.free hn) hp gp r⟩
 · cases hf
def uC (t:Tf)(body:Sf):Nat->Sf
 | 0,_=>none
 | n+1,ρ=>(t ρ).bind fun c=>if c=true then(body ρ).bind fun o=>match o with
     | .nx ρ2=>uC t body n ρ2
     | .ct ρ2=>uC t body n ρ2
     | .bk ρ2=>some (.nx ρ2)
     | o=>some o
   else some (.nx ρ)
theorem aY (n:Nat){body:List Stmt}{fb:Sf}(hp:PassesOwn (model X.prog X.w) X.A X.env X.xe)(hc:PFT X c tc)(hb:lE X body fb):PFS X (.While c body [] pos) (uC tc fb n):=by
 refine PS.to (zTy hp hc hb) ?_
 rintro D σ H ⟨G0,H0,G,ρ,o,good,hf,k⟩
 refine⟨fun m σ H=>∃G2 ρ2,Same G G2/\Good X.K G0 H0 G2 H σ ρ2/\uC tc fb m ρ2=some o,⟨n,G,ρ,Same.refl _,good,hf⟩,?_⟩
 rintro m σ2 H2 ⟨G2,ρ2,sg,good2,hf2⟩
 cases m with
 | zero=>cases hf2
 | succ m =>
   unfold uC at hf2
   obtain⟨c',h1,hf2⟩:=Qq.mp hf2
   refine⟨G0,H0,G2,ρ2,c',good2,h1,fun H3 G3 s3=>?_⟩
   cases c' with
   | true =>
     rw[Qc rfl] at hf2
     obtain⟨o1,e2,hf2⟩:=Qq.mp hf2
     refine⟨fun σ' H'=>∃G2 ρ2,Same G G2/\Good X.K G0 H0 G2 H' σ' ρ2/\uC tc fb m ρ2=some o,fun σ' H' h=>⟨m,Rx _,h⟩,?_⟩
     refine⟨G0,H0,G3,ρ2,o1,good2.step s3,e2,?_⟩
     have sg3:Same G G3:=sg.trans s3.gg
     cases o1 with
     | nx ρ5=>exact fun σ5 H5 G5 s5 good5=>⟨G5,ρ5,sg3.trans s5,good5,hf2⟩
     | ct ρ5=>exact fun σ5 H5 G5 s5 good5=>⟨G5,ρ5,sg3.trans s5,good5,hf2⟩
     | bk ρ5=>cases hf2;exact fun σ5 H5 G5 s5 good5=>k σ5 H5 G5 (sg3.trans s5) good5
     | rt d=>cases hf2;exact k
     | rl d=>cases hf2;exact k
   | false =>
     rw[Wd (by decide)] at hf2
     cases hf2
     exact k σ2 H3 G3 (sg.trans s3.gg) (good2.step s3)
def tyD:D->Option String
 | .non=>some "NoneType"
 | .bl _=>some "bool"
 | .int _=>some "int"
 | .str _=>some "str"
 | .tup _=>some "tuple"
 | .lst _=>some "list"
 | _=>none
theorem zQn {pins:List (Addr×Obj)}{σ:St}{H G:Hp}{s:Shared}{A:Around}{E:Value->Shared->Prop}{Q:Value->Shared->Prop}{d:D}{v:V}{u cl:Value}{t:String}{k:Bool}(I:Inv X pins σ H s)(rv:RelV v u)(sub:Same G H)(r:Rep X.K G d v)(ht:tyD d=some t)
   (e:PySem.W.kitOne X.K (.type t) cl=some k) (h:∀tk,Q (.bool k) { s with toks:=tk }):wpAny (model X.prog X.w) A (call (.builtin "isinstance") [u,cl]) Q E s:=by
 cases d with
 | non=>cases ht;rw[vL] at r;subst r;cases rv;exact Te PySem.W.kitx_none I.kIn True.intro e (fun z=>nomatch z) h
 | bl y=>cases ht;rw[yG] at r;subst r;cases rv;exact Te PySem.W.kitx_bool I.kIn True.intro e (fun z=>nomatch z) h
 | int i=>cases ht;rw[zG] at r;subst r;obtain⟨t,rfl⟩:=rv;exact Te PySem.W.kitx_int I.kIn True.intro e (fun z=>nomatch z) h
 | str i=>cases ht;rw[xD] at r;subst r;obtain⟨t,rfl⟩:=rv;exact Te PySem.W.kitx_str I.kIn True.intro e (fun z=>nomatch z) h
 | tup ds =>
   cases ht
   obtain⟨p,vs,rfl,q,_⟩:=yW.mp r
   cases rv
   obtain⟨its,_,⟨o,h1,h2,_⟩,_⟩:=I.tuple (sub.tup q)
   exact Te PySem.W.kitx_tuple I.kIn ⟨o,h1,h2⟩ e (fun z=>nomatch z) h
 | lst ds =>
   cases ht
   obtain⟨p,vs,rfl,q,_⟩:=y0.mp r
   cases rv
   obtain⟨its,_,⟨o,n,h1,h2,_⟩,_⟩:=I.list (sub.seq q)
   exact Te PySem.W.kitx_list I.kIn ⟨o,h1,h2⟩ e (fun z=>nomatch z) h
 | obj C ns ds=>cases ht
 | exc C ns ds=>cases ht
theorem zS2 (K:PySem.W.Frag):∀t:String,t∈["NoneType","bool","int","str","tuple","list"]->PySem.W.kitOne K (.type t) (.type "int")=some (decide (t="bool"∨t="int")):=by
 intro t ht
 simp only[Qk,We,Rw] at ht
 rcases ht with rfl | rfl | rfl | rfl | rfl | rfl<;>kernel_rfl
theorem zUF (K:PySem.W.Frag):∀t:String,t∈["NoneType","bool","int","str","tuple","list"]->PySem.W.kitOne K (.type t) (.type "bool")=some (decide (t="bool")):=by
 intro t ht
 simp only[Qk,We,Rw] at ht
 rcases ht with rfl | rfl | rfl | rfl | rfl | rfl<;>kernel_rfl
theorem zUI (K:PySem.W.Frag):∀t:String,t∈["NoneType","bool","int","str","tuple","list"]->PySem.W.kitOne K (.type t) (.type "list")=some (decide (t="list")):=by
 intro t ht
 simp only[Qk,We,Rw] at ht
 rcases ht with rfl | rfl | rfl | rfl | rfl | rfl<;>kernel_rfl
theorem zZS {d:D}{t:String}(h:tyD d=some t):t∈["NoneType","bool","int","str","tuple","list"]:=by
 cases d<;>cases h<;>simp
def zV3 (p:D->Bool)(f:Ef):Ef:=fun ρ=>(f ρ).bind fun d=>match d with | .obj _ _ _=>none | .exc _ _ _=>none | d=>some (.bl (p d))
def isInt:D->Bool | .int _=>true | .bl _=>true | _=>false
def fR:D->Bool | .bl _=>true | _=>false
def zUm:D->Bool | .str _=>true | _=>false
def zUH:D->Bool | .tup _=>true | _=>false
def bI:D->Bool | .lst _=>true | _=>false
theorem zXQ {T:Str}{TT:String}{q:D->Bool}{p1:Pos}(hT:bootBuiltins T=some (.type TT))(hq:∀(K:PySem.W.Frag) d t,tyD d=some t->PySem.W.kitOne K (.type t) (.type TT)=some (q d))(hg:Gl X "isinstance")(hm:X.mg "isinstance"=none)(hgT:Gl X T)(hmT:X.mg T=none)(h:PF X a fa)
   (hn:T≠"__name__":=by decide) (hd:(T==("__debug__":Str))=false:=by decide) (hs:starEach [a,.Name T p1] X.env=[(false,eval a X.env),(false,eval (.Name T p1) X.env)]:=by rfl):PF X (.Call (.Name "isinstance" p) [a,.Name T p1] [] pos) (zV3 q fa):=by
 have hcall:CallR X (.builtin "isinstance") (fun xs H Q=>∃x G d,xs=[x,.ty TT]/\Same G H/\Rep X.K G d x/\(tyD d).isSome=true/\Q (.bl (q d)) H):=by
   intro pins s σ H xs us Q I r hh
   obtain⟨x,G,d,rfl,sub,rx,ht,qq⟩:=hh
   obtain⟨u,u',rfl,ru,ru'⟩:=zSa r
   cases ru'
   obtain⟨t,ht⟩:=Rr.mp ht
   exact zQn I ru sub rx ht (hq _ d t ht) fun tk=>⟨.bl (q d),H,I.tok tk,rfl,qq⟩
 refine PE.to (rX hcall hg hm (by rfl) (yM h (yM (zSv (v:=.ty TT) hgT hmT hT rfl hn hd) xT) (by rw[hs];rfl)) (by decide) (by decide) (by rw[hs];rfl) (by rfl)) ?_
 rintro σ H Q ⟨G0,H0,G,ρ,d,good,hf,k⟩
 unfold zV3 at hf
 obtain⟨x,h1,hf⟩:=Qq.mp hf
 refine⟨G0,H0,G,ρ,_,good,h1,fun v H1 G1 s1 r1=>?_⟩
 have hx:(tyD x).isSome=true/\d = .bl (q x):=by
   cases x<;>first
     | (cases hf;exact⟨rfl,rfl⟩)
     | cases hf
 obtain⟨hx,rfl⟩:=hx
 exact⟨v,G1,x,rfl,s1.sub,r1,hx,k _ _ G1 s1 (yG.mpr rfl)⟩
theorem zRN (K:PySem.W.Frag)(d:D)(t:String)(h:tyD d=some t):PySem.W.kitOne K (.type t) (.type "int")=some (isInt d):=by
 rw[zS2 K t (zZS h)];cases d<;>cases h<;>simp[isInt,fR,zUm,zUH,bI]
theorem zST (K:PySem.W.Frag)(d:D)(t:String)(h:tyD d=some t):PySem.W.kitOne K (.type t) (.type "bool")=some (fR d):=by
 rw[zUF K t (zZS h)];cases d<;>cases h<;>simp[isInt,fR,zUm,zUH,bI]
theorem zRo (K:PySem.W.Frag)(d:D)(t:String)(h:tyD d=some t):PySem.W.kitOne K (.type t) (.type "list")=some (bI d):=by
 rw[zUI K t (zZS h)];cases d<;>cases h<;>simp[isInt,fR,zUm,zUH,bI]
def zYD:List D->Option (List Bool)
 | []=>some []
 | .bl k::r=>(zYD r).map fun ks=>k::ks
 | _=>none
def zXi (f:Ef):Ef:=fun ρ=>(f ρ).bind fun d=>match d with | .lst ds=>(zYD ds).map fun ks=>.bl (ks.all id) | _=>none
theorem zVu (hc:X.calm=true):CallR X (.builtin "all") (fun xs H Q=>∃(p:Addr) (ks:List Bool),xs=[V.ref p]/\SqL X.K H p (ks.map V.bl)/\Q (.bl (ks.all id)) H):=by
 intro pins s σ H xs us Q I r h
 obtain⟨p,ks,rfl,hq,q⟩:=h
 obtain⟨u,rfl,ru⟩:=rF r
 cases ru
 obtain⟨its,rv,pl,hz⟩:=I.list hq
 have hks:∀(i:Nat) (v:Value),its[i]?=some v->∃k,ks[i]?=some k/\v=Value.bool k:=fun i v e=>by
   have hi:i < ks.length:=by have:=rv.length;rw[Qo] at this;rw[this];exact(Ql.mp e).1
   obtain⟨u,e1,r1⟩:=rv.get (i:=i) (x:=.bl ks[i]) (by rw[Wt,Qu hi];rfl)
   rw[e] at e1;cases e1
   exact⟨ks[i],Qu hi,r1⟩
 have hlen:its.length=ks.length:=by have:=rv.length;rw[Qo] at this;exact this.symm
 refine call_all_walk (Yd pl.isList ?_)
 have hne:p≠s.heap.objs.size:=by obtain⟨o,_,e,_⟩:=pl;exact Qv (Qs e)
 refine⟨s.heap.objs.size,_,_,_,_,_,fun i=>(ks[i]?).getD true,rfl,Walks.list (A:=X.A.in1) (I.ok.hd hc) s.heap.objs.size p hne its.toArray,⟨⟨_,Qp _ rfl,rfl,rfl⟩,pl.isList.push _⟩,?_,fun h' tk hk=>?_⟩
 · intro i v s' Q' E' hv hQ'
   obtain⟨k,e1,rfl⟩:=hks i v (by simpa using hv)
   have hQ2:Q' ((ks[i]?).getD true) s':=hQ'
   rw[e1] at hQ2
   exact Ec hQ2
 · have hI:Inv X pins σ H { s with heap:=h',toks:=tk }:=I.kept fun b o e=>hk b o (by simp;exact Qv (Qs e)) (Qr _ e)
   have e:((List.range its.toArray.size).all fun i=>(ks[i]?).getD true)=ks.all id:=by
     rw[Qi,hlen]
     rw[Tv]
     simp only[Ww,Rj,id]
     constructor
     · intro h x hx
       obtain⟨i,hi,rfl⟩:=List.getElem_of_mem hx
       have:=h i hi
       rw[Qu hi] at this
       exact this
     · intro h i hi
       rw[Qu hi]
       exact h _ (Rc hi)
   rw[e]
   exact⟨.bl (ks.all id),H,hI,rfl,q⟩
theorem zYS {K:PySem.W.Frag}{G:Hp}:∀ {ds:List D} {vs:List V} {ks:List Bool},zYD ds=some ks->Reps K G ds vs->vs=ks.map V.bl
 | [],_,_,h,r=>by cases h;rw[z0] at r;rw[r];rfl
 | d::t,_,_,h,r=>by
   unfold zYD at h
   split at h
   · rename_i h';cases h'
   · rename_i k t' h'
     cases h'
     obtain⟨v,vr,rfl,r1,r2⟩:=zH.mp r
     obtain⟨ks,h1,rfl⟩:=Qt.mp h
     rw[zYS h1 r2,yG.mp r1];rfl
   · cases h
theorem zQC (hc:X.calm=true)(hg:Gl X "all")(hm:X.mg "all"=none)(h:PF X a fa)(hs:starEach [a] X.env=[(false,eval a X.env)]:=by rfl):PF X (.Call (.Name "all" p) [a] [] pos) (zXi fa):=by
 refine PE.to (rX (zVu hc) hg hm (by rfl) (yM h xT (by rw[hs];rfl)) (by decide) (by decide) (by rw[hs];rfl) (by rfl)) ?_
 rintro σ H Q ⟨G0,H0,G,ρ,d,good,hf,k⟩
 unfold zXi at hf
 obtain⟨x,h1,hf⟩:=Qq.mp hf
 cases x with
 | lst ds =>
   dsimp only at hf
   obtain⟨ks,h2,rfl⟩:=Qt.mp hf
   refine⟨G0,H0,G,ρ,_,good,h1,fun v H1 G1 s1 r1=>?_⟩
   obtain⟨p,vs,rfl,q,rs⟩:=y0.mp r1
   have e:=zYS h2 rs
   subst e
   exact⟨p,ks,rfl,s1.sub.seq q,k _ _ G1 s1 (yG.mpr rfl)⟩
 | _=>cases hf
end
theorem Inv.turnedNew {X:Cx}{pins:List (Addr×Obj)}{σ:St}{H:Hp}{s:Shared}{h':Heap}{t':Nat}{fp:List Addr}{T:Addr}{o:HO}(I:Inv X pins σ H s)(k:∀b u,b∉fp->s.heap.get? b=some u->h'.get? b=some u)
   (hf:∀b∈fp,kT X pins H b) (hT:s.heap.objs.size<=T) (new:ObjOk X.prog X.w (upd H T o) h' T o):Inv X pins σ (upd H T o) { s with heap:=h',toks:=t' }:=by
 have fr:H T=none:=I.hok.fresh hT
 have neT:∀b u,s.heap.get? b=some u->b≠T:=fun b u e=>Qv (Qm (Qs e) hT)
 have nfp:∀b u,H b=some u->b∉fp:=fun b u e z=>by have:=(hf b z).1;rw[e] at this;cases this
 refine I.step (g':=s.gens) (d':=s.drawn) (ch:=fp) (fun b hb=>⟨(hf b hb).2.2.2.1,(hf b hb).2.1,(hf b hb).2.2.2.2.1,(hf b hb).2.2.2.2.2⟩) (fun b u _ _ hc e _=>k b u hc e)
   (fun b u _ _ hc e _=>⟨u.slots,k b u hc e⟩) (fun b u _ e n=>by rw[yV (neT b u e)];exact n) (fun b u hc e=>⟨u,k b u hc e⟩)
   (fun b xs e=>by rw[yV (yN e fr)];exact e) (fun b u x e=>by rw[yV (yN e fr)];exact e) (fun b ps e=>⟨#[],by rw[yV (yN e fr),e];simp⟩) (fun m hm=>?_) (fun b u e=>?_) I.bare
 · obtain⟨ob,es,ep,ho,r⟩:=hm
   exact⟨ob,es,ep,k _ ob (fun z=>(hf _ z).2.1 rfl) ho,r⟩
 · by_cases hb:b=T
   · subst hb;rw[zE] at e;cases e;exact new
   · rw[yV hb] at e
     refine(I.hok b u e).stay (fun c v hc q=>k c v ?_ q) (fun c q=>by rw[yV (yN q fr)];exact q) fun c xs q=>by rw[yV (yN q fr)];exact q
     rcases hc with z | z
     · rw[z];exact nfp b u e
     · exact nfp c _ z
theorem Inv.turnedL {X:Cx}{pins:List (Addr×Obj)}{σ:St}{H:Hp}{s:Shared}{h':Heap}{t':Nat}{fp:List Addr}(I:Inv X pins σ H s)(k:∀b u,b∉fp->s.heap.get? b=some u->h'.get? b=some u)
   (hf:∀b∈fp,kT X pins H b):Inv X pins σ H { s with heap:=h',toks:=t' }:=by
 have nfp:∀b u,H b=some u->b∉fp:=fun b u e z=>by have:=(hf b z).1;rw[e] at this;cases this
 refine I.step (g':=s.gens) (d':=s.drawn) (ch:=fp) (fun b hb=>⟨(hf b hb).2.2.2.1,(hf b hb).2.1,(hf b hb).2.2.2.2.1,(hf b hb).2.2.2.2.2⟩) (fun b u _ _ hc e _=>k b u hc e)
   (fun b u _ _ hc e _=>⟨u.slots,k b u hc e⟩) (fun b u _ e n=>n) (fun b u hc e=>⟨u,k b u hc e⟩) (fun b xs e=>e) (fun b u x e=>e) (fun b ps e=>⟨#[],by rw[e];simp⟩) (fun m hm=>?_) (fun b u e=>?_) I.bare
 · obtain⟨ob,es,ep,ho,r⟩:=hm
   exact⟨ob,es,ep,k _ ob (fun z=>(hf _ z).2.1 rfl) ho,r⟩
 · refine(I.hok b u e).stay (fun c v hc q=>k c v ?_ q) (fun c q=>q) fun c xs q=>q
   rcases hc with z | z
   · rw[z];exact nfp b u e
   · exact nfp c _ z
section
variable {X:Cx} {a b e:Expr} {es:List Expr} {fa:Ef} {ga gb:Lf} {pos p:Pos}
def zQs (K:PySem.W.Frag)(f:Lf):TE:=fun σ H Q=>∃G0 H0 G ρ ds,Good K G0 H0 G H σ ρ/\f ρ=some ds/\∀a vs H' G',Step G H G' H'->SqL K G' a vs->Reps K G' ds vs->Q (.ref a) H'
def bX (X:Cx)(e:Expr)(f:Lf):Prop:=PE X e (zQs X.K f)
theorem zYt (h:PFr X e ga):bX X e ga:=fun pins s σ H Q I q=>h pins s σ H Q I (by
 obtain⟨G0,H0,G,ρ,ds,good,hf,k⟩:=q
 exact⟨G0,H0,G,ρ,ds,good,hf,fun p vs H' G' s hn hp gp rs=>k p vs H' (upd G' p (.lst vs)) (s.frz hn hp gp) (.of zE) (rs.mono (Same.new gp))⟩)
theorem hV (h:PF X e fa):bX X e (iL fa):=fun pins s σ H Q I q=>h pins s σ H Q I (by
 obtain⟨G0,H0,G,ρ,ds,good,hf,k⟩:=q
 unfold iL at hf
 obtain⟨d,h1,hf⟩:=Qq.mp hf
 cases d with
 | lst es =>
   cases hf
   refine⟨G0,H0,G,ρ,_,good,h1,fun x H1 G1 s1 r1=>?_⟩
   obtain⟨p,vs,rfl,q,rs⟩:=y0.mp r1
   exact k p vs H1 G1 s1 q rs
 | _=>cases hf)
def gM (f g:Lf):Lf:=fun ρ=>(f ρ).bind fun xs=>(g ρ).bind fun ys=>okL (xs++ys)
theorem zUW (ha:PFr X a ga)(hb:PFr X b gb):PFr X (.BinOp a .Add b pos) (gM ga gb):=by
 refine PE.toR (dI zRD ha hb) ?_
 rintro σ H Q ⟨G0,H0,G,ρ,d,good,hf,k⟩
 unfold gM at hf
 obtain⟨xs,h1,hf⟩:=Qq.mp hf
 obtain⟨ys,h2,hf⟩:=Qq.mp hf
 obtain⟨rfl,h3⟩:=jN hf
 refine⟨G0,H0,G,ρ,_,good,h1,fun p vs H1 G1 s1 hn hp gp rs=>⟨G0,H0,G1,ρ,_,good.step s1,h2,fun q us H2 G2 s2 hn2 hq gq rs2=>?_⟩⟩
 refine⟨p,q,vs,us,rfl,rfl,s2.hh _ _ hp,hq,?_,fun l hl=>?_⟩
 · rw[←rs.length,←rs2.length,←Wp];exact Wz (vH h3)
 · have s3:=Step.own (o:=.lst (vs++us)) s2.sub hl
   exact k l _ _ G2 ((s1.trans s2).trans s3) ((s1.trans s2).hh.free hl) zE (s2.sub.free hl) ((rs.mono s2.gg).append rs2)
abbrev Of:=List B->Option (Option Int)
def tFO (K:PySem.W.Frag)(f:Of):TO:=fun σ H Q=>∃G0 H0 G ρ o,Good K G0 H0 G H σ ρ/\f ρ=some o/\∀H' G',Step G H G' H'->Q o H'
def PFO (X:Cx)(e:Option Expr)(f:Of):Prop:=PO X e (tFO X.K f)
def oNo:Of:=fun _=>some none
def lQ (f:Ef):Of:=fun ρ=>(f ρ).bind fun d=>match d with | .int i=>some (some i) | _=>none
theorem zUA:PFO X none oNo:=fun pins s σ H Q I h=>zTb pins s σ H Q I (by
 obtain⟨G0,H0,G,ρ,o,good,hf,k⟩:=h
 cases hf
 exact k H G (.refl good.sub))
theorem zWk (h:PF X e fa):PFO X (some e) (lQ fa):=fun pins s σ H Q I q=>zSV h pins s σ H Q I (by
 obtain⟨G0,H0,G,ρ,o,good,hf,k⟩:=q
 unfold lQ at hf
 obtain⟨d,h1,hf⟩:=Qq.mp hf
 cases d with
 | int i=>cases hf;exact⟨G0,H0,G,ρ,_,good,h1,fun v H' G' s r=>⟨i,zG.mp r,k H' G' s⟩⟩
 | _=>cases hf)
def zZF (xs:List D)(lo hi:Option Int):List D:=(xs.drop (HT.sIx xs.length 0 lo)).take (HT.sIx xs.length xs.length hi - HT.sIx xs.length 0 lo)
def lD (f:Ef)(lo hi:Of):Lf:=fun ρ=>(f ρ).bind fun d=>(lo ρ).bind fun l=>(hi ρ).bind fun u=>match d with | .lst ds=>some (zZF ds l u) | _=>none
theorem zT0 {lo hi:Option Expr}{fl fh:Of}{p2:Pos}(ha:PF X a fa)(hl:PFO X lo fl)(hh:PFO X hi fh):PFr X (.Subscript a (.Slice lo hi none p2) pos) (lD fa fl fh):=by
 refine PE.toR (zYN zS9 ha hl hh) ?_
 rintro σ H Q ⟨G0,H0,G,ρ,d,good,hf,k⟩
 unfold lD at hf
 obtain⟨x,h1,hf⟩:=Qq.mp hf
 obtain⟨l,h2,hf⟩:=Qq.mp hf
 obtain⟨u,h3,hf⟩:=Qq.mp hf
 cases x with
 | lst ds =>
   cases hf
   refine⟨G0,H0,G,ρ,_,good,h1,fun v H1 G1 s1 r1=>⟨G0,H0,G1,ρ,_,good.step s1,h2,fun H2 G2 s2=>⟨G0,H0,G2,ρ,_,(good.step s1).step s2,h3,fun H3 G3 s3=>?_⟩⟩⟩
   obtain⟨q,vs,rfl,hq,rs⟩:=y0.mp r1
   have s23:=s2.trans s3
   refine⟨q,vs,rfl,s23.hh |> fun z=>(s1.sub.trans z).seq hq,fun p hp=>?_⟩
   have s4:=Step.own (o:=.lst (dQ vs l u)) s23.sub hp
   refine k p _ _ G3 ((s1.trans s23).trans s4) ((s1.trans s23).hh.free hp) zE (s23.sub.free hp) ?_
   unfold dQ zZF
   rw[←rs.length]
   exact((rs.mono s23.gg).drop _).take _
 | _=>cases hf
end
section
variable {prog:Program} {w:World} {A:Around} {E:Value->Shared->Prop} {s:Shared}
theorem kZ {it t:Addr}{i:Nat}{items:Array Value}{x:Value}{Q:Value->Shared->Prop}(hit:s.heap.IsTupleIter it t i)(ht:s.heap.IsTuple t items)(hx:items[i]?=some x)
   (hQ:∀h',h'.IsTupleIter it t (i+1)->Heap.SameBut it s.heap h'->Q x { s with heap:=h' }):wpAny (model prog w) A (Builtin.SmallTypes.nextOf (.ref it)) Q E s:=by
 obtain⟨o,h1,h2,h3⟩:=id hit
 obtain⟨ot,t1,_,n,t2⟩:=ht
 unfold Builtin.SmallTypes.nextOf
 refine Qw (Ey (name:=Str.ofString "__next__") hit.typeIs F.slot_tuple_iterator_next (Ei F.slot_tuple_iterator_next hit.typeIs F.entry_tuple_iterator_next ?_ (F.args_tuple_iterator_next_1 _)))
 change wpAny _ _ (field (.ref it) 0 >>= _) _ _ s
 refine Qw (Ep h1 h3 (x:=.ref t) rfl ?_)
 change wpAny _ _ (if (Value.ref t==Value.none)=true then _ else _) _ _ s
 rw[Wd (by exact Qn)]
 change wpAny _ _ (field (.ref it) 1 >>= _) _ _ s
 refine Qw (Ep h1 h3 (x:=.int i 0) rfl ?_)
 change wpAny _ _ (seqItems? (.ref t) >>= _) _ _ s
 refine Qw (Ex t1 t2 ?_)
 simp only[Wb,hx]
 refine Qw (wpAny_setField h1 h3 (by simp) (Qy ⟨x,rfl,Qy (hQ _ ⟨_,En _ h1 (Obj.isFreed_of_fields (Obj.data_mapFields h3 _)),(Obj.cls_mapFields ..).trans h2,?_⟩ (Yw ..))⟩))
 rw[Obj.data_mapFields h3]
 simp[rawInt]
theorem bK {it t:Addr}{i:Nat}{items:Array Value}{Q:Value->Shared->Prop}(hh:A.handled=none)(hit:s.heap.IsTupleIter it t i)(ht:s.heap.IsTuple t items)(hx:items[i]?=none)
   (hE:∀h' e,Heap.ExtBut it s.heap h'->(∃o,h'.get? e=some o/\o.cls = .type "StopIteration")->E (.ref e) { s with heap:=h' }):wpAny (model prog w) A (Builtin.SmallTypes.nextOf (.ref it)) Q E s:=by
 obtain⟨o,h1,h2,h3⟩:=id hit
 obtain⟨ot,t1,_,n,t2⟩:=ht
 unfold Builtin.SmallTypes.nextOf
 refine Qw (Ey (name:=Str.ofString "__next__") hit.typeIs F.slot_tuple_iterator_next (Ei F.slot_tuple_iterator_next hit.typeIs F.entry_tuple_iterator_next ?_ (F.args_tuple_iterator_next_1 _)))
 change wpAny _ _ (field (.ref it) 0 >>= _) _ _ s
 refine Qw (Ep h1 h3 (x:=.ref t) rfl ?_)
 change wpAny _ _ (if (Value.ref t==Value.none)=true then _ else _) _ _ s
 rw[Wd (by exact Qn)]
 change wpAny _ _ (field (.ref it) 1 >>= _) _ _ s
 refine Qw (Ep h1 h3 (x:=.int i 0) rfl ?_)
 change wpAny _ _ (seqItems? (.ref t) >>= _) _ _ s
 refine Qw (Ex t1 t2 ?_)
 simp only[Wb,hx]
 refine Qw (Yj (Qw (wpAny_setField h1 h3 (by simp) ?_)))
 change wpAny _ _ (newExc (.type "StopIteration") [] >>= _) _ _ _
 refine Qw ?_
 simp only[newExc,newTuple]
 refine Qw (Wf ?_ (by size_fits))
 refine Qw (m:=firstArgMember _ _) (wpAny_of_eq (a:=Value.none) (by first | rfl | (simp only[firstArgMember];rfl)) ?_)
 refine Wf ?_ (by size_fits)
 simp only[raiseNew]
 refine Qw (wpAny_handled ?_)
 first | rw[show A.in1.handled=none from hh] | rw[hh]
 refine Qw (Qy (wpAny_throw ?_))
 exact hE _ _ (((Yw ..).extBut.push _).push _) ⟨_,Qp _ rfl,rfl⟩
structure ZApart (z TI TO i1 i2 l1 l2:Addr):Prop where
 a1:TI≠z
 a2:TO≠z
 a3:i1≠z
 a4:i2≠z
 a5:TI≠TO
 a6:TI≠i1
 a7:TI≠i2
 a8:TO≠i1
 a9:TO≠i2
 b1:i1≠i2
 b2:l1≠z
 b3:l1≠TO
 b4:l1≠i1
 b5:l1≠i2
 b6:l2≠z
 b7:l2≠TO
 b8:l2≠i1
 b9:l2≠i2
abbrev zT1 (h:Heap)(l1:Addr):Heap:=h.push { cls:=.type "tuple_iterator",data:=.fields #[.ref l1,.int 0 0] }
theorem zne {n:Nat}(i j:Nat)(h:i≠j):n+i≠n+j:=fun z=>h (Nat.add_left_cancel z)
def kN:List D->List D->List D
 | x::xs,y::ys=>.tup [x,y]::kN xs ys
 | _,_=>[]
theorem zYf:∀ {xs ys:List D} {i:Nat} {d:D},(kN xs ys)[i]?=some d->∃x y,xs[i]?=some x/\ys[i]?=some y/\d = .tup [x,y]
 | [],_,_,_,h=>by simp[kN] at h
 | _::_,[],_,_,h=>by simp[kN] at h
 | x::xs,y::ys,0,d,h=>by simp[kN] at h;exact⟨x,y,rfl,rfl,h.symm⟩
 | x::xs,y::ys,i+1,d,h=>by
   simp only[kN,Qx] at h
   obtain⟨a,b,h1,h2,h3⟩:=zYf h
   exact⟨a,b,by simpa using h1,by simpa using h2,h3⟩
theorem zYR:∀(xs ys:List D),(kN xs ys).length=min xs.length ys.length
 | [],_=>by simp[kN]
 | _::_,[]=>by simp[kN]
 | x::xs,y::ys=>by rw[kN,Qa,zYR xs ys,Qa,Qa];omega
def zTO (f g:Ef):Lf:=fun ρ=>(f ρ).bind fun x=>(g ρ).bind fun y=>match x,y with | .tup xs,.tup ys=>some (kN xs ys) | _,_=>none
end
end L2
set_option maxHeartbeats 4000000
namespace L2
open PySem PySem.Spec PyProof.Rows
def kM (f:D->D->Option Bool):List D->List D->Option Bool
 | x::xs,y::ys=>(f x y).bind fun a=>(kM f xs ys).map fun b=>a&&b
 | _,_=>some true
def eqD:Nat->D->D->Option Bool
 | _+1,.int i,.int j=>some (i==j)
 | _+1,.bl i,.bl j=>some (i==j)
 | _+1,.str i,.str j=>some (i==j)
 | _+1,.non,.non=>some true
 | n+1,.tup xs,.tup ys=>(kM (eqD n) xs ys).map fun b=>b&&xs.length==ys.length
 | n+1,.lst xs,.lst ys=>if xs.length=ys.length then kM (eqD n) xs ys else some false
 | _,_,_=>none
def pI (f:D->D->Option Bool)(xs ys:List D)(j:Nat):Bool:=match xs[j]?,ys[j]? with | some a,some c=>(f a c).getD true | _,_=>true
theorem eS {f:D->D->Option Bool}:∀ {xs ys:List D} {b:Bool},kM f xs ys=some b->b=(List.range (min xs.length ys.length)).all (pI f xs ys)/\∀(j:Nat) (a c:D),xs[j]?=some a->ys[j]?=some c->f a c=some (pI f xs ys j)
 | [],_,_,h=>by cases h;exact⟨by simp,fun j a c e=>by simp at e⟩
 | _::_,[],_,h=>by cases h;exact⟨by simp,fun j a c _ e=>by simp at e⟩
 | x::xs,y::ys,b,h=>by
   unfold kM at h
   obtain⟨a,h1,h⟩:=Qq.mp h
   obtain⟨b',h2,rfl⟩:=Qt.mp h
   obtain⟨e1,e2⟩:=eS h2
   constructor
   · rw[Qa,Qa,Nat.succ_min_succ,List.range_succ_eq_map,List.all_cons,List.all_map,e1]
     congr 1
     simp[pI,h1]
   · intro j p q hp hq
     cases j with
     | zero =>
       simp at hp hq
       subst hp;subst hq
       simp[pI,h1]
     | succ j =>
       have:=e2 j p q (by simpa using hp) (by simpa using hq)
       simpa [pI] using this
section
variable {X:Cx} {pins:List (Addr×Obj)} {σ:St} {H G:Hp} {s:Shared}
theorem zYM (I:Inv X pins σ H s)(sub:Same G H):∀(n:Nat) (d d':D) (x:V) (k:Bool),eqD n d d'=some k->Rep X.K G d x->Rep X.K G d' x->k=true:=by
 intro n
 induction n with
 | zero=>intro d d' x k h;cases d<;>cases d'<;>cases h
 | succ n ih =>
   have many:∀(ds es:List D) (vs:List V) (b:Bool),kM (eqD n) ds es=some b->Reps X.K G ds vs->Reps X.K G es vs->b=true:=by
     intro ds
     induction ds with
     | nil=>intro es vs b h _ _;cases h;rfl
     | cons d r ihr =>
       intro es vs b h r1 r2
       cases es with
       | nil=>cases h;rfl
       | cons e t =>
         unfold kM at h
         obtain⟨a,h1,h⟩:=Qq.mp h
         obtain⟨b',h2,rfl⟩:=Qt.mp h
         obtain⟨v,vr,rfl,q1,q2⟩:=zH.mp r1
         obtain⟨v',vr',e',q3,q4⟩:=zH.mp r2
         cases e'
         rw[ih d e v a h1 q1 q3,ihr t vr b' h2 q2 q4];rfl
   intro d d' x k h r1 r2
   cases d with
   | int i =>
     cases d' with
     | int j=>cases h;rw[zG] at r1 r2;rw[r1] at r2;cases r2;simp
     | _=>cases h
   | bl i =>
     cases d' with
     | bl j=>cases h;rw[yG] at r1 r2;rw[r1] at r2;cases r2;simp
     | _=>cases h
   | str i =>
     cases d' with
     | str j=>cases h;rw[xD] at r1 r2;rw[r1] at r2;cases r2;simp
     | _=>cases h
   | non =>
     cases d' with
     | non=>cases h;rfl
     | _=>cases h
   | tup ds =>
     cases d' with
     | tup es =>
       unfold eqD at h
       obtain⟨b,h1,rfl⟩:=Qt.mp h
       obtain⟨p,vs,e1,q1,q2⟩:=yW.mp r1
       obtain⟨p',vs',e2,q3,q4⟩:=yW.mp r2
       rw[e1] at e2;cases e2
       have ev:=I.tuple_inj (sub.tup q1) (sub.tup q3)
       subst ev
       rw[many ds es vs b h1 q2 q4,q2.length,q4.length];simp
     | _=>cases h
   | lst ds =>
     cases d' with
     | lst es =>
       unfold eqD at h
       obtain⟨p,vs,e1,q1,q2⟩:=y0.mp r1
       obtain⟨p',vs',e2,q3,q4⟩:=y0.mp r2
       rw[e1] at e2;cases e2
       have ev:=I.list_inj (sub.seq q1) (sub.seq q3)
       subst ev
       rw[Qc (by rw[q2.length,q4.length])] at h
       exact many ds es vs k h q2 q4
     | _=>cases h
   | obj C ns ds=>cases d'<;>cases h
   | exc C ns ds=>cases d'<;>cases h
theorem zQP (I:Inv X pins σ H s)(sub:Same G H):∀(n:Nat) (A:Around) (d d':D) (x y:V) (u v:Value) (k:Bool),A.units+n < cLine->eqD n d d'=some k->Rep X.K G d x->Rep X.K G d' y->RelV x u->RelV y v ->
   SeqAt.RcAt A s u v k/\SeqAt.RcNeAt A s u v (!k)/\SeqAt.EqAt A s u v k:=by
 intro n
 induction n with
 | zero=>intro A d d' x y u v k _ h;cases d<;>cases d'<;>cases h
 | succ n ih =>
   intro A d d' x y u v k hu h r1 r2 ru rv
   have hu1:A.units < cLine:=by omega
   have hin:A.in1.units+n < cLine:=by show A.units+1+n < cLine;omega
   cases d with
   | int i =>
     cases d' with
     | int j=>cases h;rw[zG] at r1 r2;subst r1;subst r2;obtain⟨t,rfl⟩:=ru;obtain⟨t',rfl⟩:=rv;exact⟨SeqAt.RcAt.int_int _ _ _ _,SeqAt.RcNeAt.int_int _ _ _ _,SeqAt.EqAt.int_int _ _ _ _⟩
     | _=>cases h
   | bl i =>
     cases d' with
     | bl j=>cases h;rw[yG] at r1 r2;subst r1;subst r2;cases ru;cases rv;exact⟨SeqAt.RcAt.bool_bool _ _,SeqAt.RcNeAt.bool_bool _ _,SeqAt.EqAt.bool_bool _ _⟩
     | _=>cases h
   | str i =>
     cases d' with
     | str j=>cases h;rw[xD] at r1 r2;subst r1;subst r2;obtain⟨t,rfl⟩:=ru;obtain⟨t',rfl⟩:=rv;exact⟨SeqAt.RcAt.str_str _ _ _ _,SeqAt.RcNeAt.str_str _ _ _ _,SeqAt.EqAt.str_str _ _ _ _⟩
     | _=>cases h
   | non =>
     cases d' with
     | non=>cases h;rw[vL] at r1 r2;subst r1;subst r2;cases ru;cases rv;exact⟨SeqAt.RcAt.none_none,SeqAt.RcNeAt.none_none,Ip _⟩
     | _=>cases h
   | tup ds =>
     cases d' with
     | tup es =>
       have h0:=h
       unfold eqD at h
       obtain⟨b,h1,rfl⟩:=Qt.mp h
       obtain⟨p,vs,rfl,q1,q2⟩:=yW.mp r1
       obtain⟨p',vs',rfl,q3,q4⟩:=yW.mp r2
       cases ru;cases rv
       obtain⟨its,w1,t1,_⟩:=I.tuple (sub.tup q1)
       obtain⟨jts,w2,t2,_⟩:=I.tuple (sub.tup q3)
       obtain⟨e1,e2⟩:=eS h1
       have l1:ds.length=its.length:=q2.length.trans w1.length
       have l2:es.length=jts.length:=q4.length.trans w2.length
       have he:∀j (a1:j < its.toArray.size) (a2:j < jts.toArray.size),SeqAt.EqAt A.in1 s its.toArray[j] jts.toArray[j] (pI (eqD n) ds es j):=fun j a1 a2=>by
         have b1:j < ds.length:=by rw[l1];simpa using a1
         have b2:j < es.length:=by rw[l2];simpa using a2
         obtain⟨v1,f1,g1⟩:=q2.get (Qu b1)
         obtain⟨v2,f2,g2⟩:=q4.get (Qu b2)
         obtain⟨u1,f3,g3⟩:=w1.get f1
         obtain⟨u2,f4,g4⟩:=w2.get f2
         have x1:its.toArray[j]=u1:=by
           have:=(Ql.mp f3).2
           simpa using this
         have x2:jts.toArray[j]=u2:=by
           have:=(Ql.mp f4).2
           simpa using this
         rw[x1,x2]
         exact(ih A.in1 _ _ v1 v2 u1 u2 _ hin (e2 j _ _ (Qu b1) (Qu b2)) g1 g2 g3 g4).2.2
       have ek:((List.range (min its.toArray.size jts.toArray.size)).all (pI (eqD n) ds es)&&its.toArray.size==jts.toArray.size)=(b&&ds.length==es.length):=by
         rw[Qi,Qi,←l1,←l2,e1]
       have R1:=SeqAt.RcAt.tuples t1 t2 hu1 he
       have R2:=SeqAt.RcNeAt.tuples t1 t2 hu1 he
       rw[ek] at R1 R2
       refine⟨R1,R2,?_⟩
       by_cases hp:p=p'
       · subst hp
         have hk:=zYM I sub (n+1) (.tup ds) (.tup es) (.ref p) _ h0 r1 r2
         rw[hk]
         exact Ip _
       · exact .of_refs hp R1
     | _=>cases h
   | lst ds =>
     cases d' with
     | lst es =>
       have h0:=h
       unfold eqD at h
       obtain⟨p,vs,rfl,q1,q2⟩:=y0.mp r1
       obtain⟨p',vs',rfl,q3,q4⟩:=y0.mp r2
       cases ru;cases rv
       obtain⟨its,w1,t1,_⟩:=I.list (sub.seq q1)
       obtain⟨jts,w2,t2,_⟩:=I.list (sub.seq q3)
       have l1:ds.length=its.length:=q2.length.trans w1.length
       have l2:es.length=jts.length:=q4.length.trans w2.length
       have fin:SeqAt.RcAt A s (.ref p) (.ref p') k/\SeqAt.RcNeAt A s (.ref p) (.ref p') (!k):=by
         split at h
         · rename_i hl
           obtain⟨e1,e2⟩:=eS h
           have he:∀j (a1:j < its.toArray.size) (a2:j < jts.toArray.size),SeqAt.EqAt A.in1 s its.toArray[j] jts.toArray[j] (pI (eqD n) ds es j):=fun j a1 a2=>by
             have b1:j < ds.length:=by rw[l1];simpa using a1
             have b2:j < es.length:=by rw[l2];simpa using a2
             obtain⟨v1,f1,g1⟩:=q2.get (Qu b1)
             obtain⟨v2,f2,g2⟩:=q4.get (Qu b2)
             obtain⟨u1,f3,g3⟩:=w1.get f1
             obtain⟨u2,f4,g4⟩:=w2.get f2
             have x1:its.toArray[j]=u1:=by
               have:=(Ql.mp f3).2
               simpa using this
             have x2:jts.toArray[j]=u2:=by
               have:=(Ql.mp f4).2
               simpa using this
             rw[x1,x2]
             exact(ih A.in1 _ _ v1 v2 u1 u2 _ hin (e2 j _ _ (Qu b1) (Qu b2)) g1 g2 g3 g4).2.2
           have hsz:its.toArray.size=jts.toArray.size:=by rw[Qi,Qi,←l1,←l2,hl]
           have ek:(List.range its.toArray.size).all (pI (eqD n) ds es)=k:=by
             rw[e1,Qi,←l1,←hl,Nat.min_self]
           have R1:=SeqAt.RcAt.lists t1.isList t2.isList hsz hu1 he
           have R2:=SeqAt.RcNeAt.lists t1.isList t2.isList hsz hu1 he
           rw[ek] at R1 R2
           exact⟨R1,R2⟩
         · rename_i hl
           cases h
           have hsz:(its.toArray.size != jts.toArray.size)=true:=by
             rw[Qi,Qi,←l1,←l2]
             simpa using hl
           exact⟨SeqAt.RcAt.lists_lengths t1.isList t2.isList hsz hu1,Ix t1.isList t2.isList hsz hu1⟩
       refine⟨fin.1,fin.2,?_⟩
       by_cases hp:p=p'
       · subst hp
         have hk:=zYM I sub (n+1) (.lst ds) (.lst es) (.ref p) _ h0 r1 r2
         rw[hk]
         exact Ip _
       · exact .of_refs hp fin.1
     | _=>cases h
   | obj C ns ds=>cases d'<;>cases h
   | exc C ns ds=>cases d'<;>cases h
variable {a b e:Expr} {ga:Lf} {pos p:Pos} {k:Nat}
def zXv (x y:D):Option Bool:=(eqD 8 x y).map (!·)
theorem zTJ (hr:Room k X.A):CmR X .NotEq zXv:=by
 refine⟨fun x y H Q=>∃G d d' b,Same G H/\Rep X.K G d x/\Rep X.K G d' y/\eqD 8 d d'=some b/\Q (.bl (!b)) H,?_,fun d d' k G H x y Q h s rx ry q=>?_⟩
 · intro pins s σ H x y v u Q I rx ry ⟨G,d,d',b,sub,r1,r2,h,q⟩
   have hu:=hr.units
   exact(zQP I sub 8 X.A d d' x y v u b (by omega) h r1 r2 rx ry).2.1 X.prog X.w X.xe _ ⟨.bl (!b),H,I,rfl,q⟩
 · unfold zXv at h
   obtain⟨b,h1,rfl⟩:=Qt.mp h
   exact⟨G,d,d',b,s,rx,ry,h1,q H G (.refl s)⟩
def zXA (x:Int):List Int->List Int
 | []=>[x]
 | y::r=>if x<=y then x::y::r else y::zXA x r
def vT:List Int->List Int
 | []=>[]
 | x::r=>zXA x (vT r)
theorem iN (x:Int):∀l:List Int,(zXA x l).Perm (x::l)
 | []=>.refl _
 | y::r=>by
   unfold zXA
   split
   · exact .refl _
   · exact(List.Perm.cons y (iN x r)).trans (List.Perm.swap x y r)
theorem wR:∀l:List Int,(vT l).Perm l
 | []=>.refl _
 | x::r=>(iN x (vT r)).trans (.cons x (wR r))
theorem iB (x:Int):∀l:List Int,l.Pairwise (· <= ·)->(zXA x l).Pairwise (· <= ·)
 | [],_=>by unfold zXA;simp
 | y::r,h=>by
   unfold zXA
   split
   · rename_i hxy
     refine Ra.mpr ⟨fun z hz=>?_,h⟩
     rcases Qk.mp hz with q | q
     · rw[q];exact hxy
     · exact Int.le_trans hxy ((Ra.mp h).1 z q)
   · rename_i hxy
     refine Ra.mpr ⟨fun z hz=>?_,iB x r (Ra.mp h).2⟩
     rcases Qk.mp ((iN x r).mem_iff.mp hz) with q | q
     · rw[q];omega
     · exact(Ra.mp h).1 z q
theorem uY:∀l:List Int,(vT l).Pairwise (· <= ·)
 | []=>.nil
 | x::r=>iB x _ (uY r)
theorem kW {l m:List Int}(hp:l.Perm m)(hl:l.Pairwise (· <= ·))(hm:m.Pairwise (· <= ·)):l=m:=hp.eq_of_pairwise (fun a b _ _ h1 h2=>Int.le_antisymm h1 h2) hl hm
def lG:List D->Option (List Int)
 | []=>some []
 | .int i::r=>(lG r).map fun is=>i::is
 | _=>none
theorem mJ {K:PySem.W.Frag}{G:Hp}:∀ {ds:List D} {is:List Int} {vs:List V},lG ds=some is->Reps K G ds vs->vs=is.map V.int
 | [],_,_,h,r=>by cases h;rw[z0] at r;rw[r];rfl
 | d::t,_,_,h,r=>by
   unfold lG at h
   split at h
   · rename_i h';cases h'
   · rename_i k t' h'
     cases h'
     obtain⟨v,vr,rfl,r1,r2⟩:=zH.mp r
     obtain⟨ks,h1,rfl⟩:=Qt.mp h
     rw[mJ h1 r2,zG.mp r1];rfl
   · cases h
theorem zZE:CallR X (.builtin "sorted") (fun xs H Q=>∃(q:Addr) (ns:List Int),xs=[V.ref q]/\SqL X.K H q (ns.map V.int)/\ns.length < 64/\∀l,H l=none->Q (.ref l) (upd H l (.lst ((vT ns).map V.int)))):=by
 intro pins s σ H xs us Q I r h
 obtain⟨q,ns,rfl,hq,hl,k⟩:=h
 obtain⟨u,rfl,ru⟩:=rF r
 cases ru
 obtain⟨its,rv,pl,hz⟩:=I.list hq
 have hi:=dA rv
 have hlen:its.length < 64:=by rw[←rv.length,Qo];exact hl
 refine sorted_ints pl.isList hi hlen fun out ns' a1 a2 a3=>?_
 obtain⟨e,he⟩:=sortedAll_at s.heap its out
 have en:ns'=vT ns:=kW (a2.trans (wR ns).symm) a3 (uY ns)
 subst en
 have hsz:s.heap.objs.size<=s.heap.objs.size+1:=Ta _
 refine⟨.ref (s.heap.objs.size+1),_,I.laid (t':=s.toks) (o:=.lst ((vT ns).map V.int)) (fun b o e=>sortedAll_old e) hsz ?_,rfl,k _ (I.hok.fresh hsz)⟩
 refine⟨?_,out.toList,e,mM a1,by simpa [seqObj] using he⟩
 rw[Qo,(wR ns).length_eq]
 exact Wz (vH (by show ns.length<=100000;omega))
theorem iG {K:PySem.W.Frag}{G:Hp}:∀ns:List Int,Reps K G (ns.map .int) (ns.map V.int)
 | []=>z0.mpr rfl
 | n::r=>zH.mpr ⟨_,_,rfl,zG.mpr rfl,iG r⟩
def gF (g:Lf):Lf:=fun ρ=>(g ρ).bind fun ds=>(lG ds).bind fun ns=>if ns.length < 64 then some ((vT ns).map .int) else none
theorem zVQ (hg:Gl X "sorted")(hm:X.mg "sorted"=none)(h:bX X a ga)(hs:starEach [a] X.env=[(false,eval a X.env)]:=by rfl):PFr X (.Call (.Name "sorted" p) [a] [] pos) (gF ga):=by
 refine PE.toR (rX zZE hg hm (by rfl) (yM h xT (by rw[hs];rfl)) (by decide) (by decide) (by rw[hs];rfl) (by rfl)) ?_
 rintro σ H Q ⟨G0,H0,G,ρ,d,good,hf,k⟩
 unfold gF at hf
 obtain⟨ds,h1,hf⟩:=Qq.mp hf
 obtain⟨ns,h2,hf⟩:=Qq.mp hf
 split at hf
 · rename_i hl
   cases hf
   refine⟨G0,H0,G,ρ,_,good,h1,fun q vs H1 G1 s1 hq rs=>?_⟩
   have e:=mJ h2 rs
   subst e
   refine⟨q,ns,rfl,s1.sub.seq hq,hl,fun l hl'=>?_⟩
   exact k l _ _ G1 (s1.trans (Step.own s1.sub hl')) (s1.hh.free hl') zE (s1.sub.free hl') (iG _)
 · cases hf
end
section
variable {X:Cx} {a b c:Expr} {fa fb fc:Ef} {pos:Pos}
def eB3 (g g':D->D->Option Bool)(fa fb fc:Ef):Tf:=fun ρ=>(fa ρ).bind fun x=>(fb ρ).bind fun y=>(g x y).bind fun k=>if k=true then(fc ρ).bind fun z=>g' y z else some false
theorem zUq {op op':CmpOp}{g g':D->D->Option Bool}(hc1:CmR X op g)(hc2:CmR X op' g')(ha:PF X a fa)(hb:PF X b fb)(hc:PF X c fc)(hm:lastMarks [op,op'] [b,c]=false:=by with_unfolding_all rfl):PF X (.Compare a [op,op'] [b,c] pos) (wF (eB3 g g' fa fb fc)):=by
 obtain⟨r,ho,hr⟩:=hc1
 obtain⟨r',ho',hr'⟩:=hc2
 refine PE.to (zTQ ho ho' ha hb hc hm) ?_
 rintro σ H Q ⟨G0,H0,G,ρ,d,good,hf,k⟩
 obtain⟨b',hf2,rfl⟩:=dO hf
 unfold eB3 at hf2
 obtain⟨x,h1,hf2⟩:=Qq.mp hf2
 obtain⟨y,h2,hf2⟩:=Qq.mp hf2
 obtain⟨kk,h3,hf2⟩:=Qq.mp hf2
 refine⟨G0,H0,G,ρ,_,good,h1,fun u H1 G1 s1 r1=>⟨G0,H0,G1,ρ,_,good.step s1,h2,fun v H2 G2 s2 r2=>?_⟩⟩
 refine hr x y kk G2 H2 u v _ h3 s2.sub (r1.mono s2.gg) r2 fun H3 G3 s3=>⟨kk,rfl,?_⟩
 split at hf2
 · rename_i hk
   rw[Qc hk]
   obtain⟨z,h4,hf3⟩:=Qq.mp hf2
   refine⟨G0,H0,G3,ρ,_,((good.step s1).step s2).step s3,h4,fun w' H4 G4 s4 r4=>?_⟩
   exact hr' y z b' G4 H4 v w' Q hf3 s4.sub ((r2.mono s3.gg).mono s4.gg) r4 fun H5 G5 s5=>k _ _ G5 ((((s1.trans s2).trans s3).trans s4).trans s5) (yG.mpr rfl)
 · rename_i hk
   rw[Wd hk];cases hf2
   exact k _ _ G3 ((s1.trans s2).trans s3) (yG.mpr rfl)
end
section
variable {X:Cx} {a b e:Expr} {fa:Ef} {ga gb:Lf} {pos p:Pos}
theorem zVs:CallR X (.type "int") (fun xs H Q=>∃x n,xs=[.str x]/\x.length<=640/\PySem.intText? x=some n/\Q (.int n) H):=by
 intro pins s σ H xs us Q I r h
 obtain⟨x,n,rfl,hl,hn,q⟩:=h
 obtain⟨u,rfl,t,rfl⟩:=rF r
 exact PySem.W.KIN.call_text hn hl ⟨.int n,H,I.tok _,⟨_,rfl⟩,q⟩
def zPG:D->Option D
 | .int i=>some (.int i)
 | .bl k=>some (.int (if k then 1 else 0))
 | .str x=>if x.length<=640 then(PySem.intText? x).map .int else none
 | _=>none
def zZh (f:Ef):Ef:=fun ρ=>(f ρ).bind zPG
theorem zT5 (hg:Gl X "int")(hm:X.mg "int"=none)(h:PF X a fa)(hs:starEach [a] X.env=[(false,eval a X.env)]:=by rfl):PF X (.Call (.Name "int" p) [a] [] pos) (zZh fa):=by
 refine PE.to (iX (zVZ.or zVs) hg hm (by rfl) (yM h xT (by rw[hs];rfl)) (by decide) (by decide) (by rw[hs];rfl) (by rfl)) ?_
 rintro σ H Q ⟨G0,H0,G,ρ,d,good,hf,k⟩
 unfold zZh at hf
 obtain⟨x,h1,hf⟩:=Qq.mp hf
 refine⟨G0,H0,G,ρ,_,good,h1,fun v H1 G1 s1 r1=>?_⟩
 unfold zPG at hf
 split at hf
 · cases hf;exact .inl (.inl ⟨_,by rw[zG.mp r1],k _ _ G1 s1 (zG.mpr rfl)⟩)
 · cases hf;exact .inl (.inr ⟨_,by rw[yG.mp r1],k _ _ G1 s1 (zG.mpr rfl)⟩)
 · split at hf
   · rename_i hz
     obtain⟨n,h2,rfl⟩:=Qt.mp hf
     exact .inr ⟨_,n,by rw[xD.mp r1],hz,h2,k _ _ G1 s1 (zG.mpr rfl)⟩
   · cases hf
 · cases hf
theorem zS3:OpR X (binaryOp .Mult) (rI IntMulOk fun i j=>.int (i*j)):=opI fun _ _ _ _ _ _ _ hc q=>mul_int q hc
theorem zSq:OpR X (binaryOp .Add) (fun x y H Q=>∃l b xs zs,x = .ref l/\y = .ref b/\SqL X.K H l xs/\SqL X.K H b zs/\xs.length+zs.length<=sizeLine/\∀p,H p=none->Q (.ref p) (upd H p (.lst (xs++zs)))):=by
 intro pins s σ H x y v u Q I rx ry h
 obtain⟨l,b,xs,zs,rfl,rfl,hH,hB,hz,q⟩:=h
 cases rx
 cases ry
 obtain⟨its,r,pl,_⟩:=I.list hH
 obtain⟨its2,r2,pl2,_⟩:=I.list hB
 obtain⟨⟨cls,dd,data,sl⟩,ho,hc,n,hd⟩:=pl.isList
 obtain⟨⟨cls2,dd2,data2,sl2⟩,ho2,hc2,n2,hd2⟩:=pl2.isList
 simp only at hc hd hc2 hd2
 subst hc hd hc2 hd2
 have hl:=r.length
 have hl2:=r2.length
 have e:its.toArray++its2.toArray=(its++its2).toArray:=by simp
 refine Uz ⟨_,ho,rfl⟩ ⟨_,ho2,rfl⟩ noFill_list_add seq_list_add PySem.F.slot_list_add PySem.F.entry_list_add (PySem.F.args_list_add_2 _ _) (list_addW l b its.toArray its2.toArray n n2 dd dd2 sl sl2 (by rw[Qi,Qi];omega)) ⟨ho,ho2,?_⟩
 rw[e]
 exact⟨.ref _,_,I.lnew (t':=s.toks) (r.append r2) (by rw[Wp];omega),rfl,q _ I.fresh⟩
theorem zZm (ha:bX X a ga)(hb:bX X b gb):PFr X (.BinOp a .Add b pos) (gM ga gb):=by
 refine PE.toR (dI zSq ha hb) ?_
 rintro σ H Q ⟨G0,H0,G,ρ,d,good,hf,k⟩
 unfold gM at hf
 obtain⟨xs,h1,hf⟩:=Qq.mp hf
 obtain⟨ys,h2,hf⟩:=Qq.mp hf
 obtain⟨rfl,h3⟩:=jN hf
 refine⟨G0,H0,G,ρ,_,good,h1,fun p vs H1 G1 s1 hq rs=>⟨G0,H0,G1,ρ,_,good.step s1,h2,fun q us H2 G2 s2 hq2 rs2=>?_⟩⟩
 refine⟨p,q,vs,us,rfl,rfl,(s1.sub.trans s2.hh).seq hq,s2.sub.seq hq2,?_,fun l hl=>?_⟩
 · rw[←rs.length,←rs2.length,←Wp];exact Wz (vH h3)
 · have s3:=Step.own (o:=.lst (vs++us)) s2.sub hl
   exact k l _ _ G2 ((s1.trans s2).trans s3) ((s1.trans s2).hh.free hl) zE (s2.sub.free hl) ((rs.mono s2.gg).append rs2)
end
structure FunD (K:PySem.W.Frag)(x qual:Str)(st:Stmt)(f:Addr)(fd:FuncData):Prop where
 ex:∃(oc:Value) (od:Option Addr) (dV kV doc pm:Value) (an:Option Addr) (cdv ct:Value) (osl:Array (Option Value)),
   fd=PySem.W.fnOf x qual (uW st) (wP st) (zT st) dV kV doc pm an cdv ct/\K.lookup f=some ⟨oc,od,.func fd,osl⟩/\PySem.W.codeIn K cdv qual=true
 kp:PySem.W.keepIn K (.ref f)=true
theorem fU {K:PySem.W.Frag}{G:Hp}{f:Str}{d:D}:∀ {ns:List Str} {ds:List D} {vs:List V},ns.length=ds.length->Reps K G ds vs->(ns.zip ds).lookup f=some d->∃u,(ns.zip vs).lookup f=some u/\Rep K G d u
 | [],_,_,_,_,h=>by simp at h
 | n::ns,[],_,hl,_,_=>by simp at hl
 | n::ns,e::ds,_,hl,r,h=>by
   obtain⟨v,vr,rfl,r1,r2⟩:=zH.mp r
   rw[List.zip_cons_cons,Eb] at h ⊢
   cases hq:f==n with
   | true=>rw[hq] at h;cases h;exact⟨v,rfl,r1⟩
   | false=>rw[hq] at h;exact fU (by simpa using hl) r2 h
section
variable {X:Cx} {a c e:Expr} {fa:Ef} {pos p:Pos} {st:Stmt}
def xA (c f:Str)(fa:Ef):Ef:=fun ρ=>(fa ρ).bind fun d=>match d with | .obj c' ns ds=>if c'=c then(ns.zip ds).lookup f else none | _=>none
theorem vP {C:Addr}{c f:Str}(hC:ClsAt X.K c C)(hcl:Cls X.K C)(hn:NoAttr X.K C f)(ha:PF X a fa)(hb:attributeBase a f X.env (eval a X.env)=eval a X.env:=by rfl):PF X (.Attribute a f pos) (xA c f fa):=by
 refine PE.to (zRT ha hb) ?_
 rintro σ H Q ⟨G0,H0,G,ρ,d,good,hf,k⟩
 unfold xA at hf
 obtain⟨x,h1,hf2⟩:=Qq.mp hf
 cases x with
 | obj c' ns ds =>
   dsimp only at hf2
   by_cases hc:c'=c
   · rw[Qc hc] at hf2
     subst hc
     refine⟨G0,H0,G,ρ,_,good,h1,fun v H1 G1 s1 r1=>?_⟩
     obtain⟨C',q,dx,vs,e0,rfl,e1,e2,e3⟩:=gL.mp r1
     have ec:=hC.one e0
     subst ec
     obtain⟨u,e4,e5⟩:=fU e2 e3 hf2
     exact⟨q,_,dx,ns.zip vs,u,rfl,s1.sub _ _ e1,hcl,hn,e4,k _ _ G1 s1 e5⟩
   · rw[Wd hc] at hf2;cases hf2
 | _=>cases hf2
theorem zYo {f:Str}{y:V}:∀ {ns:List Str} {vs:List V},ns.length=vs.length->f∉ns->oC f y (ns.zip vs)=(ns++[f]).zip (vs++[y])
 | [],[],_,_=>rfl
 | [],_::_,h,_=>by simp at h
 | _::_,[],h,_=>by simp at h
 | n::ns,v::vs,h,hf=>by
   show(if n=f then _ else(n,v)::oC f y (ns.zip vs))=_
   rw[Wd (fun z=>hf (by rw[z];exact Qj)),zYo (by simpa using h) (fun z=>hf (Qd _ z))]
   rfl
def zS6 (K:PySem.W.Frag)(C:Addr)(ns:List Str)(g:Lf):TS:=fun DD σ H=>∃(G0 H0 G:Hp) (ρ:List B) (p dx:Addr) (pre:List Str) (us:List V) (xs ds:List D),
 Good K G0 H0 G H σ ρ/\bZ ρ/\σ[0]?=some (some (.ref p))/\H p=some (.ins C dx (pre.zip us))/\G p=none/\H0 p=none/\pre.length=us.length/\(pre++ns).Nodup/\(pre++ns).length<=900/\Reps K G xs us/\g ρ=some ds /\
 ∀H' G' vs,Step G0 H0 G' H'->H' p=some (.ins C dx ((pre++ns).zip vs))->G' p=none->Reps K G' (xs++ds) vs->DD.nx σ H'
theorem zWi {C:Addr}:PSs X [] (zS6 X.K C [] zS):=by
 intro pins s σ H D I h
 refine zWq pins s σ H D I ?_
 obtain⟨G0,H0,G,ρ,p,dx,pre,us,xs,ds,good,now,hs,hp,gp,h0,hl,nd,hz,rs,hg,k⟩:=h
 cases hg
 rw[Et] at k
 exact k H G us good.st (by rw[Et] at *;exact hp) gp (by rw[Et];exact rs)
theorem sB {C:Addr}{f x:Str}{ns:List Str}{g:Lf}{rest:List Stmt}{pos' p1:Pos}(hcl:Cls X.K C)(hn:NoAttr X.K C f)(hself:X.N[0]?=some x)(hvis:Vis X.env.scope x)(he:PF X e fa)(hr:PSs X rest (zS6 X.K C ns g))(hd:(x==("__debug__":Str))=false:=by decide)(hcd:(x==("__classdict__":Str))=false:=by decide)
   (hs:swapsWith e (some (.Attribute (.Name x p1) f pos')) pos.line X.env=pure false:=by rfl):PSs X (.Assign [.Attribute (.Name x p1) f pos'] e pos::rest) (zS6 X.K C (f::ns) (zY fa g)):=by
 intro pins s σ H D I h
 refine zYb (zRj (nQ hself hvis hd hcd) he hs) hr pins s σ H D I ?_
 obtain⟨G0,H0,G,ρ,p,dx,pre,us,xs,ds,good,now,hself,hp,gp,h0,hl,nd,hz,rs,hg,k⟩:=h
 obtain⟨d,dr,h1,h2,rfl⟩:=aS hg
 have hlp:pre.length < 1000:=by rw[Wp] at hz;omega
 have hnp:f∉pre:=fun z=>(List.nodup_append.mp nd).2.2 f z f Qj rfl
 have e1:pre++f::ns=(pre++[f])++ns:=by simp
 refine⟨G0,H0,G,ρ,d,good,h1,fun v H1 G1 s1 r1=>⟨.ref p,hself,p,C,dx,pre.zip us,rfl,s1.hh _ _ hp,hcl,hn,?_,?_⟩⟩
 · rw[List.length_zip];omega
 · have hne:H p≠none:=by rw[hp];exact fun z=>nomatch z
   have gp1:G1 p=none:=(s1.new p hne).trans gp
   refine⟨G0,H0,G1,ρ,p,dx,pre++[f],us++[v],xs++[d],dr,(good.step s1).wrX now gp1 h0,now,hself,?_,gp1,h0,by rw[Wp,Wp,hl];rfl,by rw[←e1];exact nd,by rw[←e1];exact hz,(rs.mono s1.gg).snoc r1,h2,fun H' G' vs st q1 q2 q3=>?_⟩
   · rw[zE,zYo hl hnp]
   · refine k H' G' vs st (by rw[e1];exact q1) q2 ?_
     rw[show xs++d::dr=(xs++[d])++dr by simp]
     exact q3
end
def spI (K:PySem.W.Frag)(C:Addr)(ns:List Str)(n:Nat)(f:List D->Option (List D)):Sp:=fun vs H Q _=>∃(p dx:Addr) (rest:List V) (G H0:Hp) (ds xs:List D),vs = .ref p::rest/\H=upd (upd H0 dx (.own p)) p (.ins C dx [])/\H0 p=none/\H0 dx=none/\dx≠p/\Same G H0/\Reps K G ds rest/\ds.length=n/\f ds=some xs /\
 ∀H' G' us,Step G H0 G' H'->H' p=some (.ins C dx (ns.zip us))->G' p=none->Reps K G' xs us->Q .non H'
theorem bU {K:PySem.W.Frag}{G H0 H:Hp}(m:Nat):∀ {ds:List D} {vs:List V},Reps K G ds vs->Paired (RB K H0 G H) (vs.map some++List.replicate m none) (ds.map .fz++List.replicate m .no)
 | [],_,h=>by
   rw[z0] at h;subst h
   show Paired _ (List.replicate m none) (List.replicate m B.no)
   induction m with
   | zero=>exact .nil
   | succ n ih=>rw[Ws,Ws];exact .cons .no ih
 | d::r,_,h=>by
   obtain⟨v,vr,rfl,h1,h2⟩:=zH.mp h
   exact .cons (.fz h1) (bU m h2)
theorem zWm (m:Nat)(ds:List D):bZ (.no::(ds.map B.fz++List.replicate m B.no)):=by
 constructor
 all_goals
   intro j es h
   cases j with
   | zero=>cases h
   | succ j =>
     rw[Qx] at h
     by_cases hi:j < ds.length
     · rw[Es (by simpa using hi),Wt] at h
       obtain⟨k,_,h⟩:=Qt.mp h
       cases h
     · rw[Wm (by simpa using hi),Ez] at h
       split at h<;>cases h
def fL (N:Nat)(ds:List D):List B:=.no::(ds.map .fz++List.replicate (N - (ds.length+1)) .no)
section
variable {P:Program} {w:World} {K:PySem.W.Frag} {mg:Str->Option Value} {base:Heap} {x qual:Str} {st:Stmt} {f C:Addr} {fd:FuncData} {N ps ns:List Str} {k:Nat} {sf:Str}
theorem zWh {g:Lf}(F:Fun K x qual st f fd)(S:FnScope N (sf::ps) (zT st))(hnd:ns.Nodup)(hlen:ns.length<=900)
   (hb:∀(cdv:Value) (A:Around) (outer:List Env) (s:Shared) (H:Hp) (E:XK),Room k (A.deeper (envOfC qual (zT st) s.heap.objs.size f cdv))->PSs (zZH CX0 P w K mg base N qual (zT st) f cdv A outer s H E).nox (wP st) (zS6 K C ns g)) :
   FnOk P w K mg base CX0 (k+1) f fd (sf::ps) (spI K C ns ps.length fun ds=>g (fL N.length ds)):=by
 refine F.ok S (fun vs H Q E h=>?_) (fun cdv A outer s H vs Q E hr h=>⟨_,hb cdv A outer s H E hr,?_⟩)
 · obtain⟨p,dx,rest,G,H0,ds,xs,rfl,_,_,_,_,_,rs,hl,_⟩:=h
   rw[Qa,Qa,←rs.length,hl]
 · obtain⟨p,dx,rest,G,H0,ds,xs,rfl,rfl,h1,h2,h3,sub,rs,hl,hf,k⟩:=h
   have hne:p≠dx:=h3.symm
   have hp1:(upd H0 dx (.own p)) p=none:=by rw[yV hne];exact h1
   have st1:Step G H0 G (upd H0 dx (.own p)):=Step.own sub h2
   have st2:Step G H0 G (upd (upd H0 dx (.own p)) p (.ins C dx [])):=st1.trans (Step.own st1.sub hp1)
   have good:Good K G H0 G (upd (upd H0 dx (.own p)) p (.ins C dx [])) (oK N (.ref p::rest)) (fL N.length ds):=by
     refine⟨st2,?_,fun i j a es es' q1=>absurd q1 ((zWm _ ds).1 i es)⟩
     unfold oK fL
     rw[Qb,Qa,Ie,←rs.length]
     exact .cons .no (bU _ rs)
   refine⟨G,H0,G,_,p,dx,[],[],[],xs,good,zWm _ ds,rfl,zE,sub.free h1,h1,rfl,hnd,hlen,z0.mpr rfl,hf,fun H' G' us s' q1 q2 q3=>k H' G' us s' q1 q2 q3⟩
variable {X:Cx} {a b c e:Expr} {es:List Expr} {fb:Ef} {ga:Lf} {pos p:Pos}
def lP (c:Str)(ns:List Str)(n:Nat)(f:List D->Option (List D))(g:Lf):Ef:=fun ρ=>(g ρ).bind fun ds=>if ds.length=n then(f ds).bind fun xs=>if ns.length=xs.length then some (.obj c ns xs) else none else none
theorem zWw {k n:Nat}{C fI:Addr}{fd:FuncData}{ps ns:List Str}{c:Str}{f:List D->Option (List D)}(hC:ClsAt X.K c C)(M:Mk X.K C fI)(F:FnOk X.prog X.w X.K X.mg X.base CX0 k fI fd ps (spI X.K C ns n f))(hr:Room (k+1) X.A)(hm:X.mg c=some (.ref C))(hb:Binds X.K fd ps [])(hg:Gl X c)
   (ha:PFA X (e::es) ga) (hdb:(c==("__debug__":Str))=false:=by decide) (he:starEach (e::es) X.env=(false,eval e X.env)::starEach es X.env:=by rfl) (hpl:(backTo pos (starEach es X.env)).any (·.1)=false:=by rfl) :
   PF X (.Call (.Name c p) (e::es) [] pos) (lP c ns n f ga):=by
 refine PE.to (zSH (E:=E0) M F hr hg hm hb .nil zUb ha hdb he hpl) ?_
 rintro σ H Q ⟨G0,H0,G,ρ,d,good,hf,k⟩
 unfold lP at hf
 obtain⟨ds,h1,hf⟩:=Qq.mp hf
 split at hf
 · rename_i hl
   obtain⟨xs,h2,hf⟩:=Qq.mp hf
   split at hf
   · rename_i hn
     cases hf
     refine⟨G0,H0,G,ρ,_,good,h1,fun vs H1 G1 s1 r1 x dx hx hdx hne=>?_⟩
     refine⟨x,dx,vs++[],G1,H1,ds,xs,rfl,rfl,hx,hdx,hne,s1.sub,by rw[Et];exact r1,hl,h2,fun H' G' us s' q1 q2 q3=>⟨rfl,?_⟩⟩
     exact k _ _ _ (s1.trans (s'.frz hx q1 q2)) (gL.mpr ⟨C,x,dx,us,hC,rfl,zE,hn,q3.mono (Same.new q2)⟩)
   · cases hf
 · cases hf
def zPP:D->D->Option Bool
 | d,.non=>some (lR d)
 | .bl x,.bl y=>some (x==y)
 | .non,.bl _=>some false
 | .int _,.bl _=>some false
 | .str _,.bl _=>some false
 | .tup _,.bl _=>some false
 | .lst _,.bl _=>some false
 | .obj _ _ _,.bl _=>some false
 | .exc _ _ _,.bl _=>some false
 | _,_=>none
theorem zRx:OpR X (compareOp .Is) (fun x y H Q=>∃k,y = .bl k/\Q (.bl (decide (x = .bl k))) H):=by
 intro pins s σ H x y v u Q I rx ry h
 obtain⟨k,rfl,q⟩:=h
 cases ry
 cases x with
 | bl z=>cases rx;refine is_bool (yT I q ?_);rw[zZ3]
 | non=>cases rx;refine Rk (by rfl) (by intro z;cases z) (yT I q (by simp))
 | int i=>obtain⟨t,rfl⟩:=rx;refine Rk (by rfl) (by intro z;cases z) (yT I q (by simp))
 | str i=>obtain⟨t,rfl⟩:=rx;refine Rk (by rfl) (by intro z;cases z) (yT I q (by simp))
 | byt i=>obtain⟨t,rfl⟩:=rx;refine Rk (by rfl) (by intro z;cases z) (yT I q (by simp))
 | flt i=>obtain⟨t,rfl⟩:=rx;refine Rk (by rfl) (by intro z;cases z) (yT I q (by simp))
 | ref i=>cases rx;refine Rk (by rfl) (by intro z;cases z) (yT I q (by simp))
 | ty i=>cases rx;refine Rk (by rfl) (by intro z;cases z) (yT I q (by simp))
theorem zQX:CmR X .Is zPP:=⟨_,zQ7.or zRx,fun d d' k G H x y Q h s rx ry q=>by
 have fin:∀(z:Bool) (v:V),d' = .bl z->x=v->k=decide (v = .bl z)->(fun x y H Q=>y=V.non/\Q (.bl (decide (x = .non))) H) x y H Q∨(∃k,y = .bl k/\Q (.bl (decide (x = .bl k))) H):=fun z v e1 e2 e3=>by
   subst e1;subst e2
   exact .inr ⟨z,yG.mp ry,by rw[←e3];exact q H G (.refl s)⟩
 cases d' with
 | non =>
   have hk:lR d=k:=by cases d<;>(cases h;rfl)
   refine .inl ⟨vL.mp ry,?_⟩
   rw[zVT rx,hk];exact q H G (.refl s)
 | bl z =>
   cases d with
   | bl w=>cases h;exact fin z _ rfl (yG.mp rx) (by rw[zZ3])
   | non=>cases h;exact fin z _ rfl (vL.mp rx) (by simp)
   | int i=>cases h;exact fin z _ rfl (zG.mp rx) (by simp)
   | str i=>cases h;exact fin z _ rfl (xD.mp rx) (by simp)
   | tup ds=>cases h;obtain⟨p,_,e,_⟩:=yW.mp rx;exact fin z _ rfl e (by simp)
   | lst ds=>cases h;obtain⟨p,_,e,_⟩:=y0.mp rx;exact fin z _ rfl e (by simp)
   | obj _ _ ds=>cases h;obtain⟨_,p,_,_,_,e,_⟩:=gL.mp rx;exact fin z _ rfl e (by simp)
   | exc _ _ ds=>cases h;obtain⟨_,p,_,_,_,e,_⟩:=zW3.mp rx;exact fin z _ rfl e (by simp)
 | _=>cases d<;>cases h⟩
def zSB (g:Lf)(f:Ef):Lf:=fun ρ=>(g ρ).bind fun ds=>(f ρ).bind fun n=>match n with | .int k=>if decide (0<=k)&&decide (k<=1000)&&decide (ds.length<=90) then some (List.replicate k.toNat ds).flatten else none | _=>none
theorem fZ {K:PySem.W.Frag}{G:Hp}{ds:List D}{vs:List V}(h:Reps K G ds vs):∀k:Nat,Reps K G (List.replicate k ds).flatten (List.replicate k vs).flatten
 | 0=>z0.mpr rfl
 | k+1=>by
   rw[Ws,Ws,Rg,Rg]
   exact h.append (fZ h k)
theorem zTt (ha:PFr X a ga)(hb:PF X b fb):PFr X (.BinOp a .Mult b pos) (zSB ga fb):=by
 refine PE.toR (dI zQO ha hb) ?_
 rintro σ H Q ⟨G0,H0,G,ρ,d,good,hf,k⟩
 unfold zSB at hf
 obtain⟨xs,h1,hf⟩:=Qq.mp hf
 obtain⟨n,h2,hf⟩:=Qq.mp hf
 cases n with
 | int m =>
   dsimp only at hf
   split at hf
   · rename_i hc
     cases hf
     simp only[Qh,Qz] at hc
     refine⟨G0,H0,G,ρ,_,good,h1,fun p vs H1 G1 s1 hn hp gp rs=>⟨G0,H0,G1,ρ,_,good.step s1,h2,fun q H2 G2 s2 r2=>?_⟩⟩
     have hne:H1 p≠none:=by rw[hp];exact fun z=>nomatch z
     refine⟨p,m,vs,rfl,zG.mp r2,s2.hh _ _ hp,by omega,by omega,?_,fun l hl=>?_⟩
     · rw[←rs.length]
       have:xs.length*m.toNat<=90*1000:=Uy hc.2 (by omega)
       exact Wh this (by decide)
     · have s3:=Step.own (o:=.lst (List.replicate m.toNat vs).flatten) s2.sub hl
       exact k l _ _ G2 ((s1.trans s2).trans s3) ((s1.trans s2).hh.free hl) zE (s2.sub.free hl) (fZ (rs.mono s2.gg) _)
   · cases hf
 | _=>cases hf
def jB (i:Nat):Tf:=fun ρ=>match ρ[i]? with | some (.ow ds)=>some (!ds.isEmpty) | _=>none
theorem zU0 (hu:X.A.units < cLine):OpR X (compareOp .NotEq) (fun x y H Q=>∃l m xs,x = .ref l/\y = .ref m/\SqL X.K H l xs/\SqL X.K H m []/\Q (.bl (!xs.isEmpty)) H):=by
 intro pins s σ H x y v u Q I rx ry h
 obtain⟨l,m,xs,rfl,rfl,hl,hm,q⟩:=h
 cases rx
 cases ry
 obtain⟨its,w1,t1,_⟩:=I.list hl
 obtain⟨jts,w2,t2,_⟩:=I.list hm
 cases w2
 cases xs with
 | nil =>
   cases w1
   have R:=SeqAt.RcNeAt.lists (A:=X.A) (s:=s) (e:=fun _=>true) t1.isList t2.isList rfl hu (fun j h1=>absurd h1 (by simp))
   exact R X.prog X.w X.xe _ ⟨.bl false,H,I,rfl,q⟩
 | cons x r =>
   cases w1 with
   | cons r1 r2 =>
     have R:=Ix (A:=X.A) (s:=s) t1.isList t2.isList (by simp) hu
     exact R X.prog X.w X.xe _ ⟨.bl true,H,I,rfl,q⟩
theorem zUY {k:Nat}(i:Nat)(hr:Room k X.A){x:Str}{p1 p2:Pos}(hN:X.N[i]?=some x:=by rfl)(hv:Vis X.env.scope x:=by first | exact Or.inl rfl | exact Or.inr (Or.inl rfl) | exact Or.inr (Or.inr rfl))(hd:(x==("__debug__":Str))=false:=by decide)(hcd:(x==("__classdict__":Str))=false:=by decide) :
   PFT X (.Compare (.Name x p1) [.NotEq] [.List [] p2] pos) (jB i):=by
 refine PT.to (zWg (zU0 hr.units0) (nQ hN hv hd hcd) (zT2 xT) (zX2 _)) ?_
 rintro σ H Q ⟨G0,H0,G,ρ,b,good,hf,k⟩
 unfold jB at hf
 split at hf
 · rename_i ds hi
   cases hf
   obtain⟨q,vs,e1,e2,e3,e4,e5⟩:=good.addr hi
   refine⟨.ref q,e1,Ri _,fun z hz=>⟨q,z,vs,rfl,rfl,.of (by rw[yV (yN e2 hz)];exact e2),.of zE,_,rfl,?_⟩⟩
   have e:(!vs.isEmpty) = !ds.isEmpty:=by
     have hl:=e5.length
     cases vs with
     | nil=>cases ds with
       | nil=>rfl
       | cons _ _=>simp at hl
     | cons _ _=>cases ds with
       | nil=>simp at hl
       | cons _ _=>rfl
   rw[e]
   exact k _ G (Step.own good.sub hz)
 · cases hf
variable {l:Addr} {its:Array Value} {n:Nat} {dd:Option Addr} {sl:Array (Option Value)} {y:Value} {q:Nat->Bool} {top:Int} {j:Nat}
theorem zWU (hj:j < its.size)(ht:(j:Int) < top)(hq:q j=true):∀(k i:Nat),j - i=k->i<=j->(∀m,i<=m->m < j->q m=false)->Meets (Builtin.«list.index.loop» ⟨[.ref l,y,rawInt i,rawInt top],[]⟩)
   (fun A R s=>s.heap.get? l=some { cls:=.type "list",dict:=dd,data:=.seq its n,slots:=sl }/\(∀m (h:m < its.size),SeqAt.EqAt A.in1 s its[m] y (q m))/\R (.ok (.ret (.int j s.toks))) { s with toks:=s.toks+1 })
 | 0,i,hk,hi,_=>by
   have e:i=j:=by omega
   subst e
   intro P w A R s hyp
   obtain⟨hp,g,d,tk,os⟩:=s
   obtain⟨at_,eqs,fin⟩:=hyp
   wp_walk using wpAny_loadPart' at_
   rw[show(if (i:Int) < top then its[((i:Nat):Int).toNat]? else none)=some its[i] by simp[ht,hj]]
   refine Qw (eqs i hj P w _ _ ?_)
   rw[hq]
   wp_walk
   exact fin
 | k+1,i,hk,hi,hno=>by
   intro P w A R s hyp
   obtain⟨hp,g,d,tk,os⟩:=s
   obtain⟨at_,eqs,fin⟩:=hyp
   have lt:i < its.size:=by omega
   have lt2:(i:Int) < top:=by omega
   wp_walk using wpAny_loadPart' at_
   rw[show(if (i:Int) < top then its[((i:Nat):Int).toNat]? else none)=some its[i] by simp[lt2,lt]]
   refine Qw (eqs i lt P w _ _ ?_)
   rw[hno i (Qf _) (by omega)]
   wp_walk
   rw[show((i:Int)+1)=((i+1:Nat):Int) by push_cast;rfl]
   exact⟨Tt Rl _,Ru Im (by
     rw[Ek Rl _]
     exact zWU hj ht hq k (i+1) (by omega) (by omega) (fun m h1 h2=>hno m (by omega) h2) P w A R _ ⟨at_,eqs,fin⟩)⟩
theorem zTB (hj:j < its.size)(hs:(j:Int) < 2^63 - 1)(hq:q j=true)(hno:∀m,m < j->q m=false):Meets (Builtin.«list.index» ⟨[.ref l,y],[]⟩)
   (fun A R s=>s.heap.get? l=some { cls:=.type "list",dict:=dd,data:=.seq its n,slots:=sl }/\(∀m (h:m < its.size),SeqAt.EqAt A.in1 s its[m] y (q m))/\R (.ok (.ret (.int j s.toks))) { s with toks:=s.toks+1 }):=by
 intro P w A R s hyp
 obtain⟨hp,g,d,tk,os⟩:=s
 obtain⟨at_,eqs,fin⟩:=hyp
 wp_walk using wpAny_loadPart' at_
 rw[show((fun i:Int=>if i < 0 then max 0 (i+(its.size:Int)) else i) ((none:Option Int).getD 0))=((0:Nat):Int) by simp,
   show((fun i:Int=>if i < 0 then max 0 (i+(its.size:Int)) else i) ((none:Option Int).getD (2^63 - 1)))=2^63 - 1 by simp]
 exact⟨Tt Rl _,Ru Im (by
   rw[Ek Rl _]
   exact zWU hj hs hq _ 0 rfl (Ri _) (fun m _ h2=>hno m h2) P w A R _ ⟨at_,eqs,fin⟩)⟩
end
def ixD (d:D):List D->Option Nat
 | []=>none
 | x::r=>(eqD 8 x d).bind fun b=>if b=true then(if (r.all fun z=>(eqD 8 z d).isSome) then some 0 else none) else(ixD d r).map (· + 1)
theorem zYu {d:D}:∀ {ds:List D} {j:Nat},ixD d ds=some j->j < ds.length/\(∀(m:Nat) (x:D),ds[m]?=some x->∃b,eqD 8 x d=some b/\(m < j->b=false)/\(m=j->b=true))
 | [],_,h=>by cases h
 | x::r,j,h=>by
   unfold ixD at h
   obtain⟨b,h1,h⟩:=Qq.mp h
   split at h
   · rename_i hb
     split at h
     · rename_i ha
       cases h
       refine⟨by simp,fun m z hz=>?_⟩
       cases m with
       | zero=>cases hz;exact⟨b,h1,fun q=>absurd q (Wv _),fun _=>hb⟩
       | succ m =>
         rw[Qx] at hz
         have:=Ww.mp ha z (Ej hz)
         obtain⟨b',hb'⟩:=Rr.mp this
         exact⟨b',hb',fun q=>by omega,fun q=>by omega⟩
     · cases h
   · rename_i hb
     obtain⟨i,h2,rfl⟩:=Qt.mp h
     obtain⟨h3,h4⟩:=zYu h2
     refine⟨by rw[Qa];omega,fun m z hz=>?_⟩
     cases m with
     | zero=>cases hz;exact⟨b,h1,fun _=>by simpa using hb,fun q=>by omega⟩
     | succ m =>
       rw[Qx] at hz
       obtain⟨b',q1,q2,q3⟩:=h4 m z hz
       exact⟨b',q1,fun q=>q2 (by omega),fun q=>q3 (by omega)⟩
section
variable {X:Cx} {b c:Expr} {fb:Ef} {ga:Lf}
def zUD (X:Cx):V->List V->Hp->VK->Prop:=fun x vs H Q=>∃l y G ds ws d j,x = .ref l/\vs=[y]/\Same G H/\SqL X.K H l ws/\Reps X.K G ds ws/\Rep X.K G d y/\ixD d ds=some j/\ds.length<=100000/\Q (.int (j:Nat)) H
theorem zUo {k:Nat}(hr:Room k X.A):MtR X "list.index" (zUD X):=by
 intro pins s σ H x xs v us Q I rx rv h
 obtain⟨l,y,G,ds,ws,d,j,rfl,rfl,sub,hq,rs,rd,hj,hl,q⟩:=h
 cases rx
 obtain⟨u,rfl,ru⟩:=rv.one
 obtain⟨its,r,pl,_⟩:=I.list hq
 obtain⟨⟨cls,dd,data,sl⟩,ho,hc,n,hd⟩:=pl.isList
 simp only at hc hd
 subst hc hd
 obtain⟨h1,h2⟩:=zYu hj
 have l1:=rs.length
 have l2:=r.length
 have hun:=hr.units
 have bs:∀m,∃b:Bool,(m < j->b=false)/\(m=j->b=true)/\∀(h:m < its.toArray.size),SeqAt.EqAt X.A.in1 s its.toArray[m] u b:=fun m=>by
   by_cases hm:m < ds.length
   · obtain⟨b,q1,q2,q3⟩:=h2 m _ (Qu hm)
     refine⟨b,q2,q3,fun h=>?_⟩
     obtain⟨v1,f1,g1⟩:=rs.get (Qu hm)
     obtain⟨u1,f3,g3⟩:=r.get f1
     have x1:its.toArray[m]=u1:=by
       have:=(Ql.mp f3).2
       simpa using this
     rw[x1]
     exact(zQP I sub 8 X.A.in1 _ _ v1 y u1 u _ (by show X.A.units+1+8 < cLine;omega) q1 g1 rd g3 ru).2.2
   · exact⟨decide (m=j),fun z=>Wr (by omega),fun z=>Qg z,fun h=>absurd h (by rw[Qi,←l2,←l1];exact hm)⟩
 have hjs:j < its.toArray.size:=by rw[Qi,←l2,←l1];exact h1
 refine Yh F.slot_list_index ⟨_,ho,rfl⟩ F.entry_list_index (F.args_list_index_2 _ _) (zTB (l:=l) (its:=its.toArray) (n:=n) (dd:=dd) (sl:=sl) (y:=u) (q:=fun m=>(bs m).choose) (j:=j) hjs (by omega) ((bs j).choose_spec.2.1 rfl) (fun m hm=>(bs m).choose_spec.1 hm)) ⟨ho,fun m h=>(bs m).choose_spec.2.2 h,?_⟩
 exact⟨.int (j:Nat),H,I.tok _,⟨_,rfl⟩,q⟩
def dY (g:Lf)(f:Ef):Ef:=fun ρ=>(g ρ).bind fun ds=>(f ρ).bind fun d=>if ds.length<=100000 then(ixD d ds).map fun j=>.int (j:Nat) else none
theorem zUP {k:Nat}(hr:Room k X.A)(ht:PE X c (tBM X.K "list" (zUD X) (zQs X.K ga) (zW2 (tF X.K fb) zSr))):PF X c (dY ga fb):=by
 refine PE.to ht ?_
 rintro σ H Q ⟨G0,H0,G,ρ,d,good,hf,k⟩
 unfold dY at hf
 obtain⟨ds,h1,hf⟩:=Qq.mp hf
 obtain⟨y,h2,hf⟩:=Qq.mp hf
 split at hf
 · rename_i hl
   obtain⟨j,h3,rfl⟩:=Qt.mp hf
   refine⟨G0,H0,G,ρ,_,good,h1,fun q vs H1 G1 s1 hq rs=>⟨.inl ⟨rfl,vs,s1.sub.seq hq⟩,G0,H0,G1,ρ,_,good.step s1,h2,fun v H2 G2 s2 r2=>?_⟩⟩
   exact⟨q,v,G2,ds,vs,y,j,rfl,rfl,s2.sub,(s1.sub.trans s2.hh).seq hq,rs.mono s2.gg,r2,h3,hl,k _ _ G2 (s1.trans s2) (zG.mpr rfl)⟩
 · cases hf
end
end L2
namespace L2
open PySem PySem.Spec PyProof.Rows
open PySem.W
end L2
namespace L2
open PySem PySem.Spec PySem.W
end L2
namespace L2
open PySem PySem.Spec PySem.W
open Builtin Builtin.ObjectAttr
def zYZ:List Value->Bool
 | []=>false
 | v::r=>(v::r)==[.type "ValueError",.type "Exception",.type "BaseException",.type "object"]||match v with | .ref _=>zYZ r | _=>false
end L2
namespace L2
open PySem PySem.Spec PyProof.Rows
structure XKit (K:PySem.W.Frag)(C:Addr):Prop where
 cl:(PySem.W.clsIn K C).isSome=true
 ga:PySem.W.findIn K (.ref C) "__getattribute__"=some (some (.builtin "BaseException.__getattribute__"))
 gt:PySem.W.findIn K (.ref C) "__getattr__"=some none
 gc:PySem.W.findIn K (.ref C) "__class__"=some (some (.builtin "object.__class__"))
 so:PySem.W.subIn K (.ref C) (.type "object")=some true
 sb:PySem.W.subIn K (.ref C) (.type "BaseException")=some true
def zQa (K:PySem.W.Frag)(C:Addr):Prop:=∃nm q N bs bm sn sub ab col dd k0 k1 k2 k3 k5,K.lookup C=some (excClassObj nm q C N bs bm true sn sub ab col dd k0 k1 k2 k3 k5 "ValueError.__new__")/\zYZ bm=true
section
structure XSt (K:PySem.W.Frag)(C:Addr):Prop where
 kit:XKit K C
 ob:zQa K C
 sa:PySem.W.findIn K (.ref C) "__setattr__"=some (some (.builtin "object.__setattr__"))
end
structure XMk (K:PySem.W.Frag)(C f:Addr):Prop where
 ob:zQa K C
 init:PySem.W.findIn K (.ref C) "__init__"=some (some (.ref f))
 fn:PySem.W.isFn K (.ref f)=true
 kp:PySem.W.keepIn K (.ref C)=true
def zTx (h:Heap)(e:Addr)(v:Value):Prop:=v = .none∨∃T oT ts,v = .ref T/\T≠e/\h.get? T=some oT/\oT.data = .fields ts/\ts[3]?=some .none
structure Flew (fs:List Addr)(e:Addr)(c:Value)(od:Option Addr)(vs:Array Value)(sl:Array (Option Value))(h h':Heap):Prop where
 obj:h'.get? e=some { cls:=c,dict:=od,data:=.fields (vs.setIfInBounds 1 (.ref h.objs.size)),slots:=sl }
 ne:h.objs.size≠e
 head:∃oT ts,h'.get? h.objs.size=some oT/\oT.data = .fields ts/\ts[3]?=some .none
 keep:∀b o,h.get? b=some o->b≠e->b∉fs->some (Value.ref b)≠vs[1]?->h'.get? b=some o
 slot:∀b o,h.get? b=some o->b≠e->b∈fs->some (Value.ref b)≠vs[1]?->∃z,h'.get? b=some { o with slots:=z }
structure Fly (h:Heap)(H:Hp)(h0:Heap)(C a:Addr):Prop where
 ob:∃vs v,h.get? a=some { cls:=.ref C,dict:=none,data:=.fields vs,slots:=#[] }/\vs[1]?=some v/\zTx h a v/\∀T,v = .ref T->H T=none/\h0.get? T=none
 free:H a=none
 new:h0.get? a=none
section
structure Z3 (z TI TO i1 i2 i3 l1 l2 l3:Addr):Prop where
 TIz:TI≠z
 TOz:TO≠z
 i1z:i1≠z
 i2z:i2≠z
 i3z:i3≠z
 TITO:TI≠TO
 TIi1:TI≠i1
 TIi2:TI≠i2
 TIi3:TI≠i3
 TOi1:TO≠i1
 TOi2:TO≠i2
 TOi3:TO≠i3
 i12:i1≠i2
 i13:i1≠i3
 i23:i2≠i3
 a1:l1≠z
 a2:l1≠TO
 a3:l1≠i1
 a4:l1≠i2
 a5:l1≠i3
 b1:l2≠z
 b2:l2≠TO
 b3:l2≠i1
 b4:l2≠i2
 b5:l2≠i3
 c1:l3≠z
 c2:l3≠TO
 c3:l3≠i1
 c4:l3≠i2
 c5:l3≠i3
end
end L2
namespace L2
open PySem PySem.Spec PyProof.Rows
section
variable {p:Pos}
theorem aU:∀ {ns:List Int} {its:List Value},Vals (ns.map V.int) its->∃ps:List (Int×Tok),its=ps.map (fun p=>Value.int p.1 p.2)/\ps.map (·.1)=ns
 | [],_,h=>by cases h;exact⟨[],rfl,rfl⟩
 | n::ns,_,h=>by
   cases h with
   | cons h1 h2 =>
     obtain⟨t,rfl⟩:=h1
     obtain⟨ps,rfl,rfl⟩:=aU h2
     exact⟨(n,t)::ps,rfl,rfl⟩
end
section
variable {prog:Program} {w:World} {A:Around} {E:Value->Shared->Prop} {s:Shared}
theorem zTU {t b:Addr}{vs ws:List Value}{Q:Value->Shared->Prop}(ht:IsTup s.heap t vs.toArray)(hb:IsTup s.heap b ws.toArray)(hv:vs=[])(h:Q (.ref b) s):wpAny (model prog w) A (binaryOp .Add (.ref t) (.ref b)) Q E s:=by
 obtain⟨⟨cls,dd,data,sl⟩,ho,hc,n,hd⟩:=id ht
 obtain⟨⟨cls2,dd2,data2,sl2⟩,ho2,hc2,n2,hd2⟩:=id hb
 simp only at hc hd hc2 hd2
 subst hc hd hc2 hd2
 exact Uz ⟨_,ho,rfl⟩ ⟨_,ho2,rfl⟩ Um seq_tuple_add Yv Yk (Yg _ _)
     (tuple_addW0 t b vs.toArray ws.toArray n n2 dd dd2 sl sl2 (by simp[hv])) ⟨ho,ho2,h⟩
open HT in
theorem mE {t sl:Addr}{items:Array Value}{vl vu:Value}{lo hi:Option Int}{Q:Value->Shared->Prop}(ht:IsTup s.heap t items)(hs:s.heap.IsSliceOf sl vl vu .none)(pl:IsPart vl lo)(pu:IsPart vu hi)
   (hw:sIx items.size 0 lo=0/\sIx items.size items.size hi=items.size)
   (h:Q (.ref t) s):wpAny (model prog w) A (getItem (.ref t) (.ref sl)) Q E s:=by
 obtain⟨os,hos,hcs,hds⟩:=id hs
 have hTs:s.TypeIs (.ref sl) "slice":=⟨os,hos,hcs⟩
 unfold getItem
 try with_reducible refine El ?_
 first | refine Qw (Qy ?_) | skip
 refine Qw (wpAny_sequenceKey ht.typeIs (by decide) ?_)
 refine Qw (Ey (name:=Str.ofString "__getitem__") ht.typeIs Ry
   (Ei Ry ht.typeIs entry_tuple_getitem ?_ (args_tuple_getitem _ _)))
 show wpAny _ _ (Builtin.Tuple.tupleItemsOf (.ref t) >>= _) _ _ s
 refine Qw (tupleItemsOf_ ht ?_)
 refine Qw (Yi hTs ?_)
 rw[Qc (by decide)]
 refine Qw (pL hs pl pu ?_)
 show wpAny _ _ (if (((sIx items.size 0 lo:Nat):Int)==0&&(1:Int)==1&&(sIx items.size items.size hi - sIx items.size 0 lo)==items.size)=true then _ else _) _ _ s
 rw[Qc (by rw[hw.1,hw.2];simp)]
 unfold Builtin.Tuple.tupleIsExact
 refine Qw (Qw (Yi ht.typeIs (Qy ?_)))
 rw[Qc (by decide)]
 refine Qw (Yj ?_)
 exact Qy ⟨_,rfl,Qy h⟩
end
section
variable {X:Cx} {a b e:Expr} {fa fb:Ef} {pos p:Pos}
theorem zSY:OpR X (binaryOp .Add) (fun x y H Q=>∃a b ys,x = .ref a/\y = .ref b/\SqT X.K H a []/\SqT X.K H b ys/\Q (.ref b) H):=by
 intro pins s σ H x y v u Q I rx ry h
 obtain⟨a,b,ys,rfl,rfl,ha,hb,q⟩:=h
 cases rx
 cases ry
 obtain⟨its,r1,p1,_⟩:=I.tuple ha
 obtain⟨its2,r2,p2,_⟩:=I.tuple hb
 exact zTU p1 p2 (r1.nil_iff.mpr rfl) ⟨.ref b,H,I,rfl,q⟩
def zWJ (fa fb:Ef):Ef:=fun ρ=>(fa ρ).bind fun x=>(fb ρ).bind fun y=>match x,y with | .tup xs,.tup ys=>if xs.length+ys.length<=1000 then some (.tup (xs++ys)) else none | _,_=>none
theorem zW5 (ha:PF X a fa)(hb:PF X b fb):PF X (.BinOp a .Add b pos) (zWJ fa fb):=by
 refine PE.to (dI (zSX.or zSY) ha hb) ?_
 rintro σ H Q ⟨G0,H0,G,ρ,d,good,hf,k⟩
 unfold zWJ at hf
 obtain⟨x,h1,hf⟩:=Qq.mp hf
 obtain⟨y,h2,hf⟩:=Qq.mp hf
 split at hf
 · rename_i xs ys _h
   split at hf
   · rename_i hl
     cases hf
     refine⟨G0,H0,G,ρ,_,good,h1,fun v H1 G1 s1 r1=>⟨G0,H0,G1,ρ,_,good.step s1,h2,fun u H2 G2 s2 r2=>?_⟩⟩
     obtain⟨q,vs,rfl,q1,q2⟩:=yW.mp (r1.mono s2.gg)
     obtain⟨t,us,rfl,t1,t2⟩:=yW.mp r2
     have s3:=s1.trans s2
     cases xs with
     | nil =>
       rw[z0] at q2
       subst q2
       exact .inr ⟨q,t,us,rfl,rfl,s2.sub.tup q1,s2.sub.tup t1,k _ _ G2 s3 (yW.mpr ⟨t,us,rfl,t1,t2⟩)⟩
     | cons d0 xr =>
       have hsl:1001<=sizeLine:=Wz (vH (by decide))
       have e1:=q2.length
       have e2:=t2.length
       refine .inl ⟨q,t,vs,us,rfl,rfl,s2.sub.tup q1,s2.sub.tup t1,fun z=>by rw[z] at e1;simp at e1,by rw[←e1,←e2];omega,fun z=>?_,fun z p hp=>?_⟩
       · subst z
         have z2:ys=[]:=Tu.mp (by rw[e2];rfl)
         subst z2
         rw[Et] at k
         exact k _ _ G2 s3 (yW.mpr ⟨q,vs,rfl,q1,q2⟩)
       · have s4:=Step.laid (o:=.tup (vs++us)) s2.sub hp
         exact k _ _ _ (s3.trans s4) (yW.mpr ⟨p,_,rfl,.of zE,(q2.mono s4.gg).append (t2.mono s4.gg)⟩)
   · cases hf
 · cases hf
theorem zSn:SlR X (fun x lo hi H Q=>∃a xs,x = .ref a/\SqT X.K H a xs/\(HT.sIx xs.length 0 lo=0/\HT.sIx xs.length xs.length hi=xs.length)/\Q (.ref a) H):=by
 intro pins s σ H x v vl vu lo hi sl Q I rx hs pl pu h
 obtain⟨a,xs,rfl,hx,hw,q⟩:=h
 cases rx
 obtain⟨its,r,ht,hz⟩:=I.tuple hx
 have hlen:its.toArray.size=xs.length:=by rw[Qi];exact r.length.symm
 refine⟨"tuple",_,Ry.lookup,ht.typeIs,?_⟩
 exact mE ht hs pl pu (by rw[hlen];exact hw) ⟨.ref a,H,I,rfl,q⟩
def zWf (f:Ef)(lo hi:Of):Ef:=fun ρ=>(f ρ).bind fun d=>(lo ρ).bind fun l=>(hi ρ).bind fun u=>match d with | .tup ds=>some (.tup (zZF ds l u)) | _=>none
theorem zWQ {lo hi:Option Expr}{fl fh:Of}{p2:Pos}(ha:PF X a fa)(hl:PFO X lo fl)(hh:PFO X hi fh):PF X (.Subscript a (.Slice lo hi none p2) pos) (zWf fa fl fh):=by
 refine PE.to (zYN (zRK.or zSn) ha hl hh) ?_
 rintro σ H Q ⟨G0,H0,G,ρ,d,good,hf,k⟩
 unfold zWf at hf
 obtain⟨x,h1,hf⟩:=Qq.mp hf
 obtain⟨l,h2,hf⟩:=Qq.mp hf
 obtain⟨u,h3,hf⟩:=Qq.mp hf
 cases x with
 | tup ds =>
   cases hf
   refine⟨G0,H0,G,ρ,_,good,h1,fun v H1 G1 s1 r1=>⟨G0,H0,G1,ρ,_,good.step s1,h2,fun H2 G2 s2=>⟨G0,H0,G2,ρ,_,(good.step s1).step s2,h3,fun H3 G3 s3=>?_⟩⟩⟩
   obtain⟨q,vs,rfl,hq,rs⟩:=yW.mp r1
   have s23:=s2.trans s3
   have hqq:SqT X.K H3 q vs:=(s1.sub.trans s23.hh).tup hq
   by_cases hw:HT.sIx vs.length 0 l=0/\HT.sIx vs.length vs.length u=vs.length
   · refine .inr ⟨q,vs,rfl,hqq,hw,?_⟩
     have e:zZF ds l u=ds:=by
       unfold zZF
       rw[rs.length,hw.1,hw.2,List.drop_zero,Uc,←rs.length,List.take_length]
     rw[e] at k
     exact k _ _ G3 (s1.trans s23) (yW.mpr ⟨q,vs,rfl,s23.gg.tup hq,rs.mono s23.gg⟩)
   · refine .inl ⟨q,vs,rfl,hqq,hw,fun p hp=>?_⟩
     have s4:=Step.laid (o:=.tup (dQ vs l u)) s23.sub hp
     have e:Reps X.K G3 (zZF ds l u) (dQ vs l u):=by
       unfold dQ zZF
       rw[←rs.length]
       exact((rs.mono s23.gg).drop _).take _
     exact k _ _ _ ((s1.trans s23).trans s4) (yW.mpr ⟨p,_,rfl,.of zE,e.mono s4.gg⟩)
 | _=>cases hf
def zYq (i:Nat)(fb:Ef):Ef:=fun ρ=>match ρ[i]? with | some (.ow ds)=>(fb ρ).bind (fun y=>match y with | .int k=>atI ds k | _=>none) | _=>none
theorem zXU (i:Nat){x:Str}{p1:Pos}(hb:PF X b fb)(hN:X.N[i]?=some x:=by rfl)(hv:Vis X.env.scope x:=by first | exact Or.inl rfl | exact Or.inr (Or.inl rfl) | exact Or.inr (Or.inr rfl))(hd:(x==("__debug__":Str))=false:=by decide)(hcd:(x==("__classdict__":Str))=false:=by decide)(hs:zZL b:=by exact fun _ _=>rfl) :
   PF X (.Subscript (.Name x p1) b pos) (zYq i fb):=by
 refine PE.to (zRZ zWM (nQ hN hv hd hcd) hb hs) ?_
 rintro σ H Q ⟨G0,H0,G,ρ,d,good,hf,k⟩
 unfold zYq at hf
 split at hf
 · rename_i ds hi
   obtain⟨q,vs,e1,e2,e3,e4,e5⟩:=good.addr hi
   obtain⟨y,h2,hf⟩:=Qq.mp hf
   cases y with
   | int m =>
     refine⟨.ref q,e1,G0,H0,G,ρ,_,good,h2,fun v H2 G2 s2 r2=>?_⟩
     obtain⟨w,e,rw'⟩:=fP (e5.mono s2.gg) hf
     exact⟨q,vs,m,w,rfl,zG.mp r2,.of (s2.hh _ _ e2),e,k _ _ G2 s2 rw'⟩
   | _=>cases hf
 · cases hf
end
end L2
namespace L2
open PySem PySem.Spec PyProof.Rows
section
variable {prog:Program} {w:World} {A:Around} {E:Value->Shared->Prop} {s:Shared}
theorem zXz:typeLookup (.type "list_reverseiterator") "__len__"=pure none:=by rw[Ti,Em];kernel_rfl
theorem zTN:typeLookup (.type "list_reverseiterator") "__length_hint__"=pure (some (.builtin "list_reverseiterator.__length_hint__")):=by rw[Ti,Em];kernel_rfl
theorem zU1 {it l:Addr}{i:Int}{Q:Bool->Shared->Prop}(hit:s.heap.IsRevIter it l i)(h:Q false s):wpAny (model prog w) A (Builtin.List.listLengthHint (.ref it)) Q E s:=by
 unfold Builtin.List.listLengthHint
 refine Qw (Ia hit.typeIs zXz ?_)
 refine Eu (fun hab=>absurd hab (by decide)) (fun _=>?_)
 refine Eu (fun hab=>absurd hab (by decide)) (fun _=>?_)
 refine Qw (Ia hit.typeIs zTN ?_)
 generalize hid:("list_reverseiterator.__length_hint__":String)=id0
 wp_delta
 rw[show splitId id0=some ("list_reverseiterator","__length_hint__") from by subst hid;decide +kernel]
 subst hid
 refine Qw (Yx (T:="list_reverseiterator") (b:=true) hit.typeIs (by rw[Oq];kernel_rfl) ?_)
 refine Eu (fun hab=>absurd hab (by decide)) (fun _=>?_)
 refine Eu (fun _=>?_) (fun hab=>absurd (by decide +kernel) hab)
 refine Eu (fun hab=>absurd hab (by decide +kernel)) (fun _=>?_)
 exact Qy h
theorem zX8 {R:Result->Shared->Prop}{it l S:Addr}{items:Array Value}{res:Value}{c₀:Nat}(hh:A.handled=none)(hit:s.heap.IsRevIter it l ((items.size:Int) - 1))(hl:s.heap.IsList l items)(hli:l≠it)(hSi:S≠it)(hSl:S≠l)(hlen:items.size<=sizeLine)
   (hS:s.heap.get? S=some { cls:=.type "list",data:=.seq #[] c₀ })
   (hR:∀h' tk acc' c',(∀b o,b≠S->b≠it->s.heap.get? b=some o->h'.get? b=some o)->h'.get? S=some { cls:=.type "list",dict:=none,data:=.seq acc' c',slots:=#[] } ->
     ItemsOf (fun i v=>items[items.size - 1 - i]?=some v) acc' items.size->R (.ok (.ret res)) { s with heap:=h',toks:=tk }) :
   wpAny (model prog w) A.in1 (Builtin.List.listExtendWith (.ref S) (.ref it) res)
     (fun fin s'=>match fin with | .done f=>R (.ok f) s' | .again c'=>c'.quiet=true/\codeAny (model prog w) A c' R s') (fun e s'=>R (.error e) s') s:=by
 have hSf:S∉[it,l]:=fun hm=>by
   rcases Qk.mp hm with e | hm
   · exact hSi e
   · exact hSl (To.mp hm)
 have W:=(Walks.listRev (prog:=prog) (w:=w) (A:=A.in1) hh it l hli items).toS
 unfold Builtin.List.listExtendWith
 refine Qw (Yi hit.typeIs ?_)
 have h1:Builtin.List.listSameRef (.ref S) (.ref it)=false:=by simp[Builtin.List.listSameRef,hSi]
 have h2:(Value.type "list_reverseiterator"==Value.type "list")=false:=by decide
 have h3:(Value.type "list_reverseiterator"==Value.type "tuple")=false:=by decide
 simp only[h1,h2,h3,Bool.or_false,Wa,Yu]
 refine Qw (Ur hit ?_)
 refine Qw (El (zU1 hit ?_))
 refine Eu (fun hab=>absurd hab (by decide +kernel)) (fun _=>Qy ⟨Tt F.plain_extend_loop _,?_⟩)
 refine codeAny_extend_loopS W hlen S hSf res items.size 0 _ #[] c₀ rfl (Ri _) ⟨Ri _,by simpa using hit,hl⟩ hS (ItemsOf.nil _) fun s' acc' c' hm hS' hacc=>?_
 rw[Moved.eq_with hm]
 refine hR s'.heap s'.toks acc' c' (fun b o hb hb' e=>hm.heap b o (fun hmem=>?_) e) hS' hacc
 rcases Qk.mp hmem with e' | hmem
 · exact hb e'
 · exact hb' (To.mp hmem)
theorem cP {R:Result->Shared->Prop}{it l S:Addr}{items:Array Value}(hh:A.handled=none)(hit:s.heap.IsRevIter it l ((items.size:Int) - 1))(hl:s.heap.IsList l items)(hli:l≠it)(hSi:S≠it)(hSl:S≠l)(hlen:items.size<=sizeLine)
   (hS:s.heap.get? S=some { cls:=.type "list",data:=.seq #[] })
   (hR:∀h' tk acc' c',(∀b o,b≠S->b≠it->s.heap.get? b=some o->h'.get? b=some o)->h'.get? S=some { cls:=.type "list",dict:=none,data:=.seq acc' c',slots:=#[] } ->
     ItemsOf (fun i v=>items[items.size - 1 - i]?=some v) acc' items.size->R (.ok (.ret .none)) { s with heap:=h',toks:=tk }) :
   wpAny (model prog w) A.in1 (Builtin.«list.__init__» ⟨[.ref S,.ref it],[]⟩)
     (fun fin s'=>match fin with | .done f=>R (.ok f) s' | .again c'=>c'.quiet=true/\codeAny (model prog w) A c' R s') (fun e s'=>R (.error e) s') s:=by
 show wpAny _ _ (do let old ←Builtin.List.listItems (.ref S);Builtin.List.listUpdate (.ref S) (fun _=>#[]);letGo old.toList.reverse;Builtin.List.listExtendWith (.ref S) (.ref it) .none) _ _ s
 refine Qw ?_
 unfold Builtin.List.listItems
 refine Qw (Ex hS rfl (Qy ?_))
 show wpAny _ _ (updateSeq S (fun _=>#[]) >>= fun _=>letGo (#[]:Array Value).toList.reverse >>= fun _=>Builtin.List.listExtendWith (.ref S) (.ref it) .none) _ _ s
 refine Qw (Ig hS rfl ?_)
 have hS₂:=En (Obj.mapSeq (fun _=>(#[]:Array Value))) hS rfl
 have oth:∀b o,b≠S->s.heap.get? b=some o->(s.heap.update S (Obj.mapSeq (fun _=>(#[]:Array Value)))).get? b=some o :=
   fun b o hb e=>(Rp _ _ (Ne.symm hb)).trans e
 refine Qw (Ih ?_)
 refine zX8 hh (hit.at fun o e=>oth _ _ (Ne.symm hSi) e) (hl.at fun o e=>oth _ _ (Ne.symm hSl) e) hli hSi hSl hlen hS₂ fun h' tk acc' c' hk hS' hacc=>?_
 exact hR h' tk acc' c' (fun b o hb hb' e=>hk b o hb hb' (oth b o hb e)) hS' hacc
theorem cZ {Q:Value->Shared->Prop}{it l:Addr}{items:Array Value}(hh:A.handled=none)(hit:s.heap.IsRevIter it l ((items.size:Int) - 1))(hl:s.heap.IsList l items)(hli:l≠it)(hlen:items.size<=sizeLine)
   (hQ:∀h' tk acc' c',(∀b o,b≠it->s.heap.get? b=some o->h'.get? b=some o) ->
     h'.get? s.heap.objs.size=some { cls:=.type "list",dict:=none,data:=.seq acc' c',slots:=#[] }->ItemsOf (fun i v=>items[items.size - 1 - i]?=some v) acc' items.size->Q (.ref s.heap.objs.size) { s with heap:=h',toks:=tk }) :
   wpAny (model prog w) A (call (.type "list") [.ref it]) Q E s:=by
 refine callType_codes (Q₁:=fun obj s₁=>obj = .ref s.heap.objs.size/\s₁={ s with heap:=s.heap.push { cls:=.type "list",data:=.seq #[] } }) F.called_list (F.typeCall_list_1 _) F.entry_list_init
   (code_list_new _ ⟨rfl,rfl⟩) fun obj s₁ h₁=>?_
 obtain⟨rfl,rfl⟩:=h₁
 have hS:(s.heap.push { cls:=.type "list",data:=.seq #[] }).get? s.heap.objs.size=some { cls:=.type "list",data:=.seq #[] }:=Qp _ rfl
 have n1:s.heap.objs.size≠it:=fun z=>by obtain⟨o,e,_⟩:=hit;exact absurd (Qs e) (by rw[z];exact Wv _)
 have n2:s.heap.objs.size≠l:=fun z=>by obtain⟨o,e,_⟩:=hl;exact absurd (Qs e) (by rw[z];exact Wv _)
 refine⟨⟨_,hS,rfl⟩,F.args_list_init_2 _ _,cP (A:=A.in1) hh (hit.at fun o e=>Qr _ e) (hl.at fun o e=>Qr _ e) hli n1 n2 hlen hS fun h' tk acc' c' hk hS' hacc=>?_⟩
 exact⟨rfl,hQ h' tk acc' c' (fun b o hb e=>hk b o (Qv (Qs e)) hb (Qr _ e)) hS' hacc⟩
theorem zVq {its acc:List Value}(h:ItemsOf (fun i v=>its.toArray[its.toArray.size - 1 - i]?=some v) acc.toArray its.toArray.size):acc=its.reverse:=by
 obtain⟨h1,h2⟩:=h
 simp only[Qi] at h1 h2
 refine Rv (by rw[h1,Ee]) fun i hi hi'=>?_
 have q:=h2 i acc[i] (by simp[hi])
 rw[List.getElem_reverse]
 simp only[List.getElem?_toArray] at q
 rw[Qu (by omega)] at q
 exact(Wk q).symm
theorem Reps.reverse {K:PySem.W.Frag}{G:Hp}:∀ {ds:List D} {vs:List V},Reps K G ds vs->Reps K G ds.reverse vs.reverse
 | [],_,h=>by rw[z0] at h;subst h;exact z0.mpr rfl
 | d::r,_,h=>by
   obtain⟨v,vr,rfl,h1,h2⟩:=zH.mp h
   rw[Ts,Ts]
   exact h2.reverse.snoc h1
variable {X:Cx} {a b c e tg:Expr} {es:List Expr} {fa fb:Ef} {ga:Lf} {pos p:Pos}
def nD (g:Lf):Lf:=fun ρ=>(g ρ).map List.reverse
theorem zWW {p2 pos':Pos}(hc:X.calm=true)(hg:Gl X "list")(hm:X.mg "list"=none)(hg':Gl X "reversed")(hm':X.mg "reversed"=none)(h:bX X a ga)(hs:starEach [a] X.env=[(false,eval a X.env)]:=by rfl)
   (hs3:starEach [Expr.Call (.Name "reversed" p2) [a] [] pos'] X.env=[(false,eval (.Call (.Name "reversed" p2) [a] [] pos') X.env)]:=by rfl) :
   PFr X (.Call (.Name "list" p) [.Call (.Name "reversed" p2) [a] [] pos'] [] pos) (nD ga):=by
 intro pins s σ H Q I q
 obtain⟨G0,H0,G,ρ,es,good,hf,kk⟩:=q
 unfold nD at hf
 obtain⟨ds,h1,rfl⟩:=Qt.mp hf
 have hA:=yM h xT (by rw[hs];rfl) pos' pins s σ H (fun vs H'=>∃l us G',vs=[.ref l]/\Step G H G' H'/\SqL X.K G' l us/\Reps X.K G' ds us) I
   ⟨G0,H0,G,ρ,_,good,h1,fun l us H1 G1 s1 q1 q2=>⟨l,us,G1,rfl,s1,q1,q2⟩⟩
 refine Call_ (pX I hg hm (by rfl) (Wx (rest:=[]) ?_ (by rw[hs3];rfl) (by rfl)))
 rw[hs3]
 refine Ui (Call_ (pX I hg' hm' (by rfl) (Wx (thn hA fun us s1 ⟨vs,H1,I1,r1,l,ws,G1,e1,st1,q1,q2⟩=>?_) (by rw[hs];rfl) (by rfl))))
 subst e1
 obtain⟨u,rfl,ru⟩:=rF r1
 cases ru
 obtain⟨its,rv,p1,hz⟩:=I1.list (st1.sub.seq q1)
 have hll:l < s1.heap.objs.size:=by obtain⟨o,e,_⟩:=p1.isList;exact Qs e
 refine call_reversed_list p1.isList ?_
 refine Ud ?_
 have hrev:(s1.heap.push (revObj l ((its.toArray.size:Int) - 1))).IsRevIter s1.heap.objs.size l ((its.toArray.size:Int) - 1):=⟨_,Qp _ rfl,rfl,rfl⟩
 refine cZ (I.ok.hd hc) hrev (p1.isList.at fun o e=>Qr _ e) (Qv hll) (by rw[Qi];exact rv.length ▸ hz) fun h' tk acc c' hk hS hacc=>?_
 have hsz:(s1.heap.push (revObj l ((its.toArray.size:Int) - 1))).objs.size=s1.heap.objs.size+1:=Wg ..
 have hacc':acc.toList=its.reverse:=zVq (acc:=acc.toList) (by simpa using hacc)
 have hT:s1.heap.objs.size<=(s1.heap.push (revObj l ((its.toArray.size:Int) - 1))).objs.size:=by rw[hsz];exact Ta _
 have fr:H1 (s1.heap.push (revObj l ((its.toArray.size:Int) - 1))).objs.size=none:=I1.hok.fresh hT
 have I3:=I1.laid (t':=tk) (h':=h') (a:=(s1.heap.push (revObj l ((its.toArray.size:Int) - 1))).objs.size) (o:=.lst ws.reverse) (fun b o e=>hk b o (Qv (Qs e)) (Qr _ e)) hT
   (show ObjOk X.prog X.w _ h' _ (.lst ws.reverse) from⟨by rw[Ee];exact hz,acc.toList,c',by rw[hacc'];exact rv.reverse,hS⟩)
 exact⟨.ref _,_,I3,rfl,kk _ ws.reverse _ G1 (st1.trans (Step.own st1.sub fr)) (st1.hh.free fr) zE (st1.sub.free fr) q2.reverse⟩
def zQg (K:PySem.W.Frag)(a:Addr)(n:Nat):It :=
 ⟨fun i H=>∃xs x,SqL K H a xs/\xs.length=n/\i < n/\xs[n - 1 - i]?=some x,fun i H x H'=>H'=H/\∀xs,SqL K H a xs->xs[n - 1 - i]?=some x,fun i _=>n<=i⟩
theorem zTp {P:Program}{w:World}{K:PySem.W.Frag}{tg:Expr}(a it:Addr)(n:Nat):Turn P w K tg (zQg K a n) [it] it (fun i h=>i<=n/\h.IsRevIter it a ((n:Int) - 1 - (i:Int))) where
 mem:=by simp
 obj:=fun i h st b hb=>by
   have e:b=it:=by simpa using hb
   subst e
   obtain⟨_,o,e,c,d⟩:=st
   exact⟨o,e,fun v z=>by rw[d] at z;cases z⟩
 keep:=fun i h h' st k=>⟨st.1,st.2.at fun o e=>k it (by simp) o e⟩
 item:=by
   intro X hP hw hK hc i pins s σ H E I hf st hg
   subst hP hw hK
   obtain⟨xs,x,hq,hn,hi,hx⟩:=hg
   obtain⟨its,rv,p,hz⟩:=I.list hq
   obtain⟨u,hu,ru⟩:=rv.get hx
   obtain⟨f0,f1,f2,f3,f4,f5⟩:=hf it (by simp)
   have st2:=st.2
   have e1:(n:Int) - 1 - (i:Int)=((n - 1 - i:Nat):Int):=by omega
   rw[e1] at st2
   refine wpAny_pyNext_rev_item st2 p.isList (x:=u) (by simpa using hu) fun h' st' sb=>?_
   have I1:Inv X pins σ H { s with heap:=h' }:=I.turned (t':=s.toks) (fun b o hb e=>(sb.2 b hb).trans e) f0 f1 f3 f4 f5
   have e2:((n - 1 - i:Nat):Int) - 1=(n:Int) - 1 - ((i+1:Nat):Int):=by omega
   rw[e2] at st'
   obtain⟨o,e,c,d⟩:=id st'
   exact⟨u,rfl,zW7 (s:={ s with heap:=h' }) e c d (by decide) ⟨x,H,I1,ru,⟨rfl,fun ys hy=>by rw[I.list_inj hy hq];exact hx⟩,⟨hi,st'⟩,fun b hb=>(hf b hb).1⟩⟩
 done:=by
   intro X hP hw hK hc i pins s σ H E I hf st hg
   subst hP hw hK
   have hg:n<=i:=hg
   obtain⟨f0,f1,f2,f3,f4,f5⟩:=hf it (by simp)
   have st2:=st.2
   have e1:(n:Int) - 1 - (i:Int) = -1:=by have:=st.1;omega
   rw[e1] at st2
   exact wpAny_pyNext_rev_end (I.ok.hd hc) st2 fun h' eb=>⟨rfl,I.turned (t':=s.toks) (fun b o hb e=>eb b o hb e) f0 f1 f3 f4 f5⟩
 self:=fun _ _ _ _ _ st h=>Ur st.2 h
theorem zXG {K:PySem.W.Frag}{G:Hp}{a:Addr}{vs:List V}{ds:List D}(h:SqL K G a vs)(r:Reps K G ds vs):iM K (zQg K a vs.length) G ds.reverse:=by
 intro i G2 H2 s1 s2
 have q:SqL K H2 a vs:=(s1.trans s2).seq h
 have hl:=r.length
 refine⟨fun d hd=>?_,fun hi=>by rw[Ee] at hi;show vs.length<=i;omega⟩
 have hi:i < ds.length:=by have:=(Ql.mp hd).1;rwa[Ee] at this
 rw[List.getElem?_reverse hi,hl] at hd
 obtain⟨v,e,rv⟩:=r.get hd
 refine⟨⟨vs,v,q,rfl,by omega,e⟩,fun x H3 y=>?_⟩
 obtain⟨rfl,y⟩:=y
 have:=y vs q
 rw[e] at this;cases this
 exact⟨G2,.refl s2,rv.mono s1⟩
theorem zQN (hg':Gl X "reversed")(hm':X.mg "reversed"=none)(h:bX X a ga)(hs:starEach [a] X.env=[(false,eval a X.env)]:=by rfl):PFI X tg (.Call (.Name "reversed" p) [a] [] pos) (nD ga):=by
 intro pins s σ H R I q
 obtain⟨G0,H0,G,ρ,es,good,hf,kk⟩:=q
 unfold nD at hf
 obtain⟨ds,h1,rfl⟩:=Qt.mp hf
 have hA:=yM h xT (by rw[hs];rfl) pos pins s σ H (fun vs H'=>∃l us G',vs=[.ref l]/\Step G H G' H'/\SqL X.K G' l us/\Reps X.K G' ds us) I
   ⟨G0,H0,G,ρ,_,good,h1,fun l us H1 G1 s1 q1 q2=>⟨l,us,G1,rfl,s1,q1,q2⟩⟩
 refine Call_ (pX I hg' hm' (by rfl) (Wx (thn hA fun us s1 ⟨vs,H1,I1,r1,l,ws,G1,e1,st1,q1,q2⟩=>?_) (by rw[hs];rfl) (by rfl)))
 subst e1
 obtain⟨u,rfl,ru⟩:=rF r1
 cases ru
 obtain⟨its,rv,p1,hz⟩:=I1.list (st1.sub.seq q1)
 have hlen:=rv.length
 refine call_reversed_list p1.isList ?_
 have I2:Inv X pins σ H1 { s1 with heap:=s1.heap.push (revObj l ((its.toArray.size:Int) - 1)) }:=I1.kept (t':=s1.toks) fun b o e=>Qr _ e
 have hrev:(s1.heap.push (revObj l ((its.toArray.size:Int) - 1))).IsRevIter s1.heap.objs.size l ((ws.length:Int) - 1 - ((0:Nat):Int)):=⟨_,Qp _ rfl,rfl,by unfold revObj;rw[Qi,←hlen];simp⟩
 refine Ur hrev ?_
 refine⟨_,[s1.heap.objs.size],_,_,H1,rfl,I2,zTp l s1.heap.objs.size ws.length,⟨Ri _,hrev⟩,fun b hb=>?_,kk _ H1 G1 st1 (zXG q1 q2)⟩
 have e:b=s1.heap.objs.size:=by simpa using hb
 have hb':s1.heap.objs.size<=b:=by rw[e];exact Qf _
 exact I1.fpOk hb' (I1.hok.fresh hb')
def zWc (_ j:Int):Bool:=decide (0 < j)&&decide (j.natAbs.log2 < 9000)
abbrev jC:=eI zWc (fun i j=>i / j)
theorem zUC:OpR X (binaryOp .FloorDiv) (rI (fun _ j=>0 < j/\j.natAbs.log2 < 9000) fun i j=>.int (i / j)):=opI fun i j _ _ _ _ _ hc q=>by
 have h1:(0:Int) < j:=hc.1
 exact floordiv_int (by omega) (by rw[Il i (by omega)];exact q) (.inl (PyProof.noPylong_of_log2 hc.2))
theorem aG (ha:PF X a fa)(hb:PF X b fb):PF X (.BinOp a .FloorDiv b pos) (jC fa fb):=zVn zUC (fun i j h=>by
 unfold zWc at h
 simp only[Qh,Qz] at h
 exact h) ha hb
def zWK (i j:Int):Bool:=decide (Builtin.Int.intBits i<=2097152)&&decide (Builtin.Int.intBits j<=2097152)
abbrev bR:=eI zWK (fun i j=>i*j)
theorem zWA (ha:PF X a fa)(hb:PF X b fb):PF X (.BinOp a .Mult b pos) (bR fa fb):=zVn zS3 (fun i j h=>by
 unfold zWK at h
 simp only[Qh,Qz] at h
 exact mulOk_of_bits h.1 h.2 (by decide)) ha hb
end
end L2
namespace L2
open PySem PySem.Spec PyProof.Rows
theorem iI:fillsNumberSlot (.type "tuple") "mul"=pure false :=
 PySem.fillsNumberSlot_seq (id:="tuple.__mul__") (r:=some (.builtin "tuple.__rmul__")) F.slot_tuple_mul.lookup (by decide +kernel) (by rw[Ti,Em];kernel_rfl) (by decide +kernel)
theorem gX:typeLookup (.type "tuple") "__rmul__"=pure (some (.builtin "tuple.__rmul__")):=by rw[Ti,Em];kernel_rfl
theorem zZk:seqRepeat? (.type "tuple")=pure (some (.builtin "tuple.__mul__")):=by
 unfold seqRepeat?
 rw[PySem.seqSlot_of (T:="tuple") (name:="__mul__") (id:="tuple.__mul__") F.slot_tuple_mul.lookup (by decide +kernel),PySem.seqSlot_of (T:="tuple") (name:="__rmul__") (id:="tuple.__rmul__") gX (by decide +kernel)]
 rfl
theorem fV (a:Int)(t:Tok)(l:Addr)(items:Array Value)(n:Nat)(dd:Option Addr)(sl:Array (Option Value)) :
   Meets (Builtin.«int.__rmul__» ⟨[.int a t,.ref l],[]⟩) (fun _ R s=>s.heap.get? l=some { cls:=.type "tuple",dict:=dd,data:=.seq items n,slots:=sl }/\R (.ok (.ret Value.notImplemented)) s) :=
 .of_wp fun prog w A R s h=>by obtain⟨hp,g,d,tk,os⟩:=s;obtain⟨hl,h⟩:=h;wp_walk;exact⟨_,rfl,h⟩
open AutoSeq1 (wpAny_loadPart') in
theorem zXN (l:Addr)(items:Array Value)(n:Nat)(dd:Option Addr)(sl:Array (Option Value))(x:Int)(u:Tok)(c1:¬((decide (x < -2^63)||decide (x≥2^63))=true))(c2:¬((items.isEmpty||x==1)=true))(c3:¬((decide (x<=0)||items.isEmpty)=true))
   (c4:¬(items.size:Int)*x > (2^63 - 1) / 8) (c5:¬Builtin.Tuple.tupleTooMany ((items.size:Int)*x)=true) (hsz:(List.foldl (fun x1 x2=>x1++x2) #[] (List.replicate x.toNat items)).size<=sizeLine) :
   Meets (Builtin.«tuple.__mul__» ⟨[.ref l,.int x u],[]⟩) (fun _ R s=>s.heap.get? l=some { cls:=.type "tuple",dict:=dd,data:=.seq items n,slots:=sl }/\R (.ok (.ret (Value.ref s.heap.objs.size))) { s with heap:=s.heap.push { cls:=Value.type "tuple",data:=Data.seq (List.foldl (fun x1 x2=>x1++x2) #[] (List.replicate x.toNat items)) },toks:=s.toks }) :=
 .of_wp fun prog w A R s h=>by
   obtain⟨hp,g,d,tk,os⟩:=s;obtain⟨hl,h⟩:=h
   have f1:=AutoSeq1.idx_int
   have f2:=AutoSeq1.sub_tuple_tuple
   wp_walk using wpAny_loadPart' hl
   have ht:IsTup (Shared.heap ⟨hp,g,d,tk,os⟩) l items:=⟨_,hl,rfl,n,rfl⟩
   refine Eu (fun hab=>absurd hab c1) (fun _=>?_)
   refine Qw (tupleItemsOf_ ht ?_)
   refine Eu (fun hab=>absurd hab c2) (fun _=>?_)
   refine Eu (fun hab=>absurd hab c3) (fun _=>?_)
   refine Eu (fun hab=>absurd hab c4) (fun _=>?_)
   refine Eu (fun hab=>absurd hab c5) (fun _=>?_)
   exact Qw (m:=Builtin.Tuple.tupleExact _) (Wf (Qy ⟨_,rfl,h⟩) hsz)
section
variable {X:Cx} {a b:Expr} {es:List Expr} {fa fb:Ef} {ga:Lf} {pos p:Pos}
def zQ0 (K:PySem.W.Frag):R2:=fun x y H Q=>∃l k xs,x = .ref l/\y = .int k/\SqT K H l xs/\xs≠[]/\2<=k/\k<=1000/\xs.length<=90/\∀p,H p=none->Q (.ref p) (upd H p (.tup (List.replicate k.toNat xs).flatten))
theorem zSE:OpR X (binaryOp .Mult) (zQ0 X.K):=by
 intro pins s σ H x y v u Q I rx ry h
 obtain⟨l,k,xs,rfl,rfl,hx,hne,h1,h2,hl,q⟩:=h
 cases rx
 obtain⟨t,rfl⟩:=ry
 obtain⟨its,r,ht,hz⟩:=I.tuple hx
 have hlen:=r.length
 have hne':its≠[]:=fun z=>hne (r.nil_iff.mp z)
 obtain⟨⟨cls,dd,data,sl⟩,ho,hc,n,hd⟩:=id ht
 simp only at hc hd
 subst hc hd
 have hnew:List.foldl (fun x1 x2=>x1++x2) #[] (List.replicate k.toNat its.toArray)=(List.replicate k.toNat its).flatten.toArray:=by
   have:=iW its k.toNat []
   rw[Ev] at this
   exact this
 have hsl:100000 < sizeLine:=vH (by decide)
 have hb:its.length*k.toNat<=90*1000:=Uy (by omega) (by omega)
 have hb2:(its.toArray.size:Int)*k=((its.length*k.toNat:Nat):Int):=by
   rw[Qi,Uq,Int.toNat_of_nonneg (by omega)]
 have hfl:(List.replicate k.toNat its).flatten.length=k.toNat*its.length:=by simp
 refine Iv (T:="tuple") (U:="int") (by decide) ⟨_,ho,rfl⟩ (fun s'=>Uf s' k t) iI F.fills_int_mul F.slot_int_rmul zZk F.slot_int_index.lookup
   (Yh F.slot_int_rmul (Uf s k t) F.entry_int_rmul (F.args_int_rmul_2 _ _) (fV k t l its.toArray n dd sl)
     ⟨ho,rfl,⟨_,ho,rfl⟩,Yh F.slot_tuple_mul ⟨_,ho,rfl⟩ F.entry_tuple_mul (F.args_tuple_mul_2 _ _) (zXN l its.toArray n dd sl k t ?_ ?_ ?_ ?_ ?_ ?_) ⟨ho,?_⟩⟩)
 · simp;omega
 · simp[hne'];omega
 · simp[hne'];omega
 · rw[hb2]
   generalize its.length*k.toNat=m at hb
   omega
 · unfold Builtin.Tuple.tupleTooMany
   rw[hb2,Qz]
   generalize its.length*k.toNat=m at hb
   omega
 · rw[hnew,Qi,hfl,Rf];omega
 · rw[hnew]
   have hw:(List.replicate k.toNat xs).flatten.length<=sizeLine:=by
     have:(List.replicate k.toNat xs).flatten.length=k.toNat*xs.length:=by simp
     rw[this,Rf,hlen];omega
   refine⟨.ref s.heap.objs.size,_,I.laid (t':=s.toks) (o:=.tup (List.replicate k.toNat xs).flatten) (fun b ob q=>Qr _ q) (Qf _) ?_,rfl,q _ (I.hok.fresh (Qf _))⟩
   exact⟨hw,_,r.rep k.toNat,IsTup.new _ _⟩
def zWd (fa fb:Ef):Ef:=fun ρ=>(fa ρ).bind fun x=>(fb ρ).bind fun y=>match x,y with | .tup xs,.int k=>if xs≠[]/\2<=k/\k<=1000/\xs.length<=90 then some (.tup (List.replicate k.toNat xs).flatten) else none | _,_=>none
theorem zSG (ha:PF X a fa)(hb:PF X b fb):PF X (.BinOp a .Mult b pos) (zWd fa fb):=by
 refine PE.to (dI zSE ha hb) ?_
 rintro σ H Q ⟨G0,H0,G,ρ,d,good,hf,k⟩
 unfold zWd at hf
 obtain⟨x,h1,hf1⟩:=Qq.mp hf
 obtain⟨y,h2,hf2⟩:=Qq.mp hf1
 cases x with
 | tup xs =>
   cases y with
   | int m =>
     dsimp only at hf2
     split at hf2
     · rename_i hc
       obtain⟨c0,c1,c2,c3⟩:=hc
       cases hf2
       refine⟨G0,H0,G,ρ,_,good,h1,fun v H1 G1 s1 r1=>⟨G0,H0,G1,ρ,_,good.step s1,h2,fun u H2 G2 s2 r2=>?_⟩⟩
       obtain⟨q,vs,rfl,q1,q2⟩:=yW.mp (r1.mono s2.gg)
       have e1:=q2.length
       refine⟨q,m,vs,rfl,zG.mp r2,s2.sub.tup q1,fun z=>c0 (Tu.mp (by rw[e1,z];rfl)),c1,c2,by omega,fun p hp=>?_⟩
       have s4:=Step.laid (o:=.tup (List.replicate m.toNat vs).flatten) s2.sub hp
       exact k _ _ _ ((s1.trans s2).trans s4) (yW.mpr ⟨p,_,rfl,.of zE,(fZ q2 m.toNat).mono s4.gg⟩)
     · cases hf2
   | _=>cases hf2
 | _=>cases hf2
theorem zTw {α β:Type}{f:α->Option β}{g:α->β}:∀ {l:List α},(∀x∈l,f x=some (g x))->l.filterMap f=l.map g
 | [],_=>rfl
 | x::r,h=>by rw[Tz,h x Qj,Qb,zTw fun y hy=>h y (Qd _ hy)]
theorem cC (its:List Value):slicePick its.toArray none none (some (-1))=its.reverse.toArray:=by
 unfold slicePick
 have hb:sliceBounds none none (some (-1)) its.toArray.size=((its.length:Int) - 1,-1,-1):=by simp[sliceBounds]
 rw[hb]
 congr 1
 have hr:sliceRange ((its.length:Int) - 1) (-1) (-1)=(List.range its.length).map fun k=>its.length - 1 - k:=by
   unfold sliceRange
   have hc:(if (-1:Int) > 0 then(if (its.length:Int) - 1 < -1 then(-1 - ((its.length:Int) - 1) + -1 - 1) / -1 else 0) else if (its.length:Int) - 1 > -1 then((its.length:Int) - 1 - -1 - -1 - 1) / (- -1) else 0).toNat=its.length:=by
     rw[Wd (by decide)]
     by_cases h:its.length=0
     · rw[Wd (by omega),h];rfl
     · rw[Qc (by omega),show(- -1:Int)=1 from rfl,Int.ediv_one];omega
   simp only[hc]
   refine List.map_congr_left fun k hk=>?_
   have:=Rj.mp hk
   omega
 rw[hr,List.filterMap_map]
 rw[zTw (g:=fun k=>its.reverse.getD k .none) fun k hk=>by
   have hk:=Rj.mp hk
   show its.toArray[its.length - 1 - k]?=some (its.reverse.getD k .none)
   rw[List.getElem?_toArray,Wu,List.getElem?_reverse hk,Qu (by omega)]
   rfl]
 refine Rv (by simp) fun i hi hi'=>?_
 rw[Ir,List.getElem_range,Wu,Qu hi']
 rfl
def zUM (g:Lf)(fs:Ef):Lf:=fun ρ=>(g ρ).bind fun ds=>(lQ fs ρ).bind fun k=>if k=some (-1) then some ds.reverse else none
theorem zSt {st:Expr}{fs:Ef}{p2:Pos}(h:bX X a ga)(hst:PF X st fs):PFr X (.Subscript a (.Slice none none (some st) p2) pos) (zUM ga fs):=by
 intro pins s σ H Q I q
 obtain⟨G0,H0,G,ρ,es,good,hf,kk⟩:=q
 unfold zUM at hf
 obtain⟨ds,h1,hf1⟩:=Qq.mp hf
 obtain⟨k,h2,hf2⟩:=Qq.mp hf1
 by_cases hk:k=some (-1)
 · rw[Qc hk] at hf2
   subst hk
   cases hf2
   refine Subscript_ (thn (h pins s σ H (fun v H1=>∃l us G1,v = .ref l/\Step G H G1 H1/\SqL X.K G1 l us/\Reps X.K G1 ds us) I ⟨G0,H0,G,ρ,_,good,h1,fun l us H1 G1 s1 q1 q2=>⟨l,us,G1,rfl,s1,q1,q2⟩⟩) fun v s1 ⟨x,H1,I1,r1,l,us,G1,e1,st1,q1,q2⟩=>?_)
   subst e1
   cases r1
   refine wpAny_Slice ?_
   rw[evalPart_none]
   refine Qy ?_
   refine Qy (thn (zWk hst pins s1 σ H1 (fun o H3=>∃G3,Step G1 H1 G3 H3/\o=some (-1)) I1 ⟨G0,H0,G1,ρ,_,good.step st1,h2,fun H3 G3 s3=>⟨G3,s3,rfl⟩⟩) fun vk s3 ⟨k',H3,I3,pk,G3,st3,e3⟩=>?_)
   subst e3
   have I4:Inv X pins σ H3 { s3 with heap:=s3.heap.push { cls:=.type "slice",data:=.fields #[.none,.none,vk] } }:=I3.kept (t':=s3.toks) fun b ob q=>Qr _ q
   have st13:=st1.trans st3
   obtain⟨its,rv,p1,hz⟩:=I4.list (st3.sub.seq (st3.gg.seq q1))
   have hlen:=rv.length
   show wpAny (model X.prog X.w) X.A (subscriptTail a (.Slice none none (some st) p2) (.ref l) (.ref s3.heap.objs.size)) (EP X pins σ Q) X.xe _
   refine tail_any (ops:=[.ref l,.ref s3.heap.objs.size]) (T:="list") p1.isList.typeIs slot_list_getitem.lookup ?_ (by with_unfolding_all rfl)
   refine wpAny_getItem_list_slice (lo:=none) (hi:=none) (st:=some (-1)) p1.isList ⟨_,Qp _ rfl,rfl,rfl⟩ .none .none pk (by simp) ?_ (by rw[Qi];omega)
   rw[cC]
   have fr:H3 (s3.heap.push { cls:=.type "slice",data:=.fields #[.none,.none,vk] }).objs.size=none:=I4.hok.fresh (Qf _)
   refine⟨.ref _,_,I4.laid (t':=s3.toks) (o:=.lst us.reverse) (fun b ob q=>Qr _ q) (Qf _) ?_,rfl,kk _ us.reverse _ G3 (st13.trans (Step.own st13.sub fr)) (st13.hh.free fr) zE (st13.sub.free fr) (q2.mono st3.gg).reverse⟩
   exact⟨by rw[Ee];exact hz,_,0,rv.reverse,Qp _ rfl⟩
 · rw[Wd hk] at hf2;cases hf2
theorem zYr {st:Stmt}:PFS X st (fun _=>none):=by
 intro pins s σ H D I q
 obtain⟨G0,H0,G,ρ,o,good,hf,k⟩:=q
 cases hf
end
end L2
namespace Att
open PySem PySem.W PySem.Spec PyProof.Rows
theorem zYk {ns:List Int}(h:WData.layableAll [WData.list (ns.map WData.int)]=true):∀n∈ns,Builtin.Int.intBits n<=1048576:=by
 unfold WData.layableAll WData.layable at h
 rw[List.all_cons,List.all_nil,Bool.and_true,Qh,Qz] at h
 have hw:=h.2
 unfold WData.weight at hw
 have key:∀l:List Int,∀n∈l,Builtin.Int.intBits n<=WData.weightAll (l.map WData.int):=by
   intro l
   induction l with
   | nil=>intro n hn;cases hn
   | cons x r ih =>
     intro n hn
     rw[Qb]
     unfold WData.weightAll
     rcases Qk.mp hn with e | e
     · subst e
       have:WData.weight (WData.int n)=Builtin.Int.intBits n:=by unfold WData.weight Builtin.Int.intBits;rfl
       omega
     · have:=ih n e
       omega
 intro n hn
 have:=key ns n hn
 have e:(2:Nat)^20=1048576:=by decide
 omega
end Att
namespace Att
open PySem PySem.W PySem.Calls PyProof.Rows
theorem attach_bits {l:OpenLaw}{n:Nat}{q:Program}{loose:List Str}{XP:(Str->Option Value)->Heap->Prop}{YP:World->Heap->Prop}{d:DefRec}
   (hn:l.most=some n) (hdf:d.params.defaults=[])
   (run:∀(w:World) (s₀ s₁:Shared) (mg mb:Str->Option Value) (fa:Addr) (o:Obj) (pm cd doc:Value) (a:Addr) (vs:List Value) (ns:List Int),
     Ground q loose [] XP w s₀ mg mb s₁.heap->YP w s₁.heap ->
     s₁.heap.get? fa=some o->o.data = .func (docDef d.name d.params d.body d.scope pm cd doc)->s₁.heap.CodeRec cd d.name->mg d.name=some (.ref fa) ->
     s₁.heap.get? a=some { cls:=.type "list",data:=.seq vs.toArray }->IntsAre vs ns->ns.length<=n->(∀n∈ns,Builtin.Int.intBits n<=1048576)->s₁.gens=#[] ->
     codeAny (model l.prog w) callerA (.call (.ref fa) ⟨[.ref a],[]⟩) (fun r s'=>r = .ok (.ret (.bool true))/\OldK s₁.heap s'.heap/\s'.os=s₁.os/\AllBare s'.gens) s₁) :
   WalkO q loose XP YP l.row.toRowW d [] (fun f vs=>PySem.call f vs):=by
 intro w s₀ s₁ mg mb G Y fa o pm cd doc dV kV ho hd hcd hD hmg hg args vals as hpre hlay hrd hwl hlo
 obtain rfl:dV = .none:=Dflts.none hD hdf
 obtain rfl:kV = .none:=Dflts.noKw hD
 obtain⟨a,vs,ns,rfl,rfl,hobj,hints,hlen⟩:=zVK hn hpre hwl
 refine enter_call (Yt (run w s₀ s₁ mg mb fa o pm cd doc a vs ns G Y ho (fd_plain hd) hcd hmg hobj hints hlen (zYk hlay) hg) fun r s' hq=>?_)
 obtain⟨rfl,h2,h3,h4⟩:=hq
 exact⟨.inl ⟨.bool true,.bool true,[],rfl,fun _=>rfl,.bool true,zVp l _,fun _=>⟨List.Pairwise.nil,fun _ hm=>(nomatch hm)⟩⟩,h2,h3,h4⟩
end Att
namespace L2
open PySem PySem.Spec PyProof.Rows
theorem zVl {l:PySem.W.OpenLaw}{n k:Nat}{q:Program}{loose:List Str}{XP:(Str->Option Value)->Heap->Prop}{YP:World->Heap->Prop}{d:DefRec}{K:Params->PySem.W.Frag}{CX:World->CXT}{sp:World->Sp}{x:Str}
   (hn:l.most=some n) (hn2:n<=sizeLine) (hdf:d.params.defaults=[]) (hr:Room k callerA)
   (hY:∀(w:World) (h:Heap),YP w h->(K w.params).In h)
   (F:∀(w:World) (mg:Str->Option Value) (fa:Addr) (h:Heap),(K w.params).In h->h.Ns mainGlobals mg->mg d.name=some (.ref fa) ->
     ∃fd:FuncData,(∀(s:Shared) (u:Value),BindsTo s fd ⟨[u],[]⟩ [(x,u)]) /\
       ∀base:Heap,(K w.params).In base->base.Ns mainGlobals mg->FnOk l.prog w (K w.params) mg base (CX w) k fa fd [x] (sp w))
   (hsp:∀(w:World) (H:Hp) (a:Addr) (ns:List Int),ns.length<=n->(∀n∈ns,Builtin.Int.intBits n<=1048576)->zRq H->SqL (K w.params) H a (ns.map V.int)->sp w [.ref a] H (fun v _=>v = .bl true) fun _ _ _=>False)
   (hCX:∀(w:World) (H:Hp) (s:Shared) (e:Value) (s':Shared),CX w [] H s (fun _ _ _=>False) e s'->False) :
   PySem.W.WalkO q loose XP YP l.row.toRowW d [] (fun f vs=>PySem.call f vs):=by
 refine Att.attach_bits hn hdf fun w s₀ s₁ mg mb fa o pm cd doc a vs ns G Y ho hd hcd hmg hobj hints hlen hbits hg=>?_
 have KX:=hY w _ Y
 obtain⟨fd,hb,hF⟩:=F w mg fa _ KX G.T.g hmg
 exact zUw KX G.T.g G.T.b G.T.builtins G.T.nolimit hg hobj hints (Wh hlen hn2) hr hF hb (fun H hO hS=>hsp w H a ns hlen hbits hO hS) fun H e s'=>hCX w H s₁ e s'
section
variable {X:Cx} {a b c:Expr} {fa fb fc:Ef} {pos:Pos}
theorem bO {op op':CmpOp}{g g':D->D->Option Bool}(hc1:CmR X op g)(hc2:CmR X op' g')(ha:PF X a fa)(hb:PF X b fb)(hc:PF X c fc)(hm:lastMarks [op,op'] [b,c]=false:=by with_unfolding_all rfl):PFT X (.Compare a [op,op'] [b,c] pos) (eB3 g g' fa fb fc):=by
 obtain⟨r,ho,hr⟩:=hc1
 obtain⟨r',ho',hr'⟩:=hc2
 refine PT.to (zUO ho ho' ha hb hc hm) ?_
 rintro σ H Q ⟨G0,H0,G,ρ,b',good,hf2,k⟩
 unfold eB3 at hf2
 obtain⟨x,h1,hf2⟩:=Qq.mp hf2
 obtain⟨y,h2,hf2⟩:=Qq.mp hf2
 obtain⟨kk,h3,hf2⟩:=Qq.mp hf2
 refine⟨G0,H0,G,ρ,_,good,h1,fun u H1 G1 s1 r1=>⟨G0,H0,G1,ρ,_,good.step s1,h2,fun v H2 G2 s2 r2=>?_⟩⟩
 refine hr x y kk G2 H2 u v _ h3 s2.sub (r1.mono s2.gg) r2 fun H3 G3 s3=>⟨kk,rfl,?_⟩
 split at hf2
 · rename_i hk
   rw[Qc hk]
   obtain⟨z,h4,hf3⟩:=Qq.mp hf2
   refine⟨G0,H0,G3,ρ,_,((good.step s1).step s2).step s3,h4,fun w' H4 G4 s4 r4=>?_⟩
   exact hr' y z b' G4 H4 v w' _ hf3 s4.sub ((r2.mono s3.gg).mono s4.gg) r4 fun H5 G5 s5=>⟨b',rfl,k _ G5 ((((s1.trans s2).trans s3).trans s4).trans s5)⟩
 · rename_i hk
   rw[Wd hk];cases hf2
   exact⟨false,rfl,k _ G3 ((s1.trans s2).trans s3)⟩
end
structure FlyV (h:Heap)(H:Hp)(h0:Heap)(C a:Addr)(od:Option Addr):Prop where
 ob:∃vs v,h.get? a=some { cls:=.ref C,dict:=od,data:=.fields vs,slots:=#[] }/\vs[1]?=some v/\zTx h a v/\∀T,v = .ref T->H T=none/\h0.get? T=none
 tr:H a=some (.ext (Xe C a od))
 new:h0.get? a=none
theorem zVw {X:Cx}{st:Stmt}{rest:List Stmt}{B f g:Sf}(e:B=zI f g)(h1:PFS X st f)(h2:lE X rest g):lE X (st::rest) B:=by
 subst e
 exact vW h1 h2
theorem zV {X:Cx}{st:Stmt}{rest:List Stmt}(B:Sf){f g:Sf}(e:B=zI f g)(h1:PFS X st f)(h2:lE X rest g):lE X (st::rest) B:=zVw e h1 h2
structure FnT (K:PySem.W.Frag)(mg:Str->Option Value)(x:Str)(st:Stmt)(ps:List Str) where
 f:Addr
 fd:FuncData
 F:Fun K x x st f fd
 b:Binds K fd ps []
 m:mg x=some (.ref f)
def wN (K:PySem.W.Frag)(x:Str)(st:Stmt):Prop:=∃(f:Addr) (od an:Option Addr) (sl:Array (Option Value)) (oc kV dc pm cd ct:Value),PySem.W.nsIn K mainGlobals x=some (some (.ref f))/\K.lookup f=some ⟨oc,od,.func (PySem.W.fnOf x x (uW st) (wP st) (zT st) .none kV dc pm an cd ct),sl⟩/\PySem.W.codeIn K cd x=true/\PySem.W.keepIn K (.ref f)=true
abbrev fnQ (x:Str)(st:Stmt)(kV dc pm:Value)(an:Option Addr)(cd ct:Value):FuncData:=PySem.W.fnOf x x (uW st) (wP st) (zT st) .none kV dc pm an cd ct
def Bd (x:Str)(st:Stmt)(ps:List Str):Prop:=∀(kV doc pm:Value) (an:Option Addr) (cdv ct:Value) (us:List Value),us.length=ps.length->bindArgs (fnQ x st kV doc pm an cdv ct) ⟨us,[]⟩=pure (ps.zip us)
section
variable {x a b c d:Str} {st:Stmt}
theorem bd1 (h:∀kV dc pm an cd ct u,bindArgs (fnQ x st kV dc pm an cd ct) ⟨[u],[]⟩=pure [(a,u)]):Bd x st [a]:=fun _ _ _ _ _ _ us hl=>match us,hl with | [_],_=>h _ _ _ _ _ _ _
theorem bd2 (h:∀kV dc pm an cd ct u v,bindArgs (fnQ x st kV dc pm an cd ct) ⟨[u,v],[]⟩=pure [(a,u),(b,v)]):Bd x st [a,b]:=fun _ _ _ _ _ _ us hl=>match us,hl with | [_,_],_=>h _ _ _ _ _ _ _ _
theorem bd3 (h:∀kV dc pm an cd ct u v z,bindArgs (fnQ x st kV dc pm an cd ct) ⟨[u,v,z],[]⟩=pure [(a,u),(b,v),(c,z)]):Bd x st [a,b,c]:=fun _ _ _ _ _ _ us hl=>match us,hl with | [_,_,_],_=>h _ _ _ _ _ _ _ _ _
theorem bd4 (h:∀kV dc pm an cd ct u v z w,bindArgs (fnQ x st kV dc pm an cd ct) ⟨[u,v,z,w],[]⟩=pure [(a,u),(b,v),(c,z),(d,w)]):Bd x st [a,b,c,d]:=fun _ _ _ _ _ _ us hl=>match us,hl with | [_,_,_,_],_=>h _ _ _ _ _ _ _ _ _ _
variable {K:PySem.W.Frag} {h:Heap} {mg:Str->Option Value} {ps:List Str}
def wL (X:K.In h)(G:h.Ns mainGlobals mg)(g:wN K x st)(hb:Bd x st ps):FnT K mg x st ps:=Classical.choice (by
 obtain⟨f,od,an,sl,oc,kV,dc,pm,cd,ct,a,l,c,k⟩:=g
 exact⟨⟨f,_,zZ1 l c k,(zZ1 l c k).binds hb,PySem.W.mg_of X G a⟩⟩)
theorem zRc {P:Program}{w:World}{k:Nat}{sp:Sp}{p:Str}{fa:Addr}(t:FnT K mg x st [p])(hb:Bd x st [p])(hfa:mg x=some (.ref fa))(ok:∀base:Heap,FnOk P w K mg base CX0 k t.f t.fd [p] sp) :
   ∃fd:FuncData,(∀(s:Shared) (v:Value),BindsTo s fd ⟨[v],[]⟩ [(p,v)])/\∀base:Heap,K.In base->base.Ns mainGlobals mg->FnOk P w K mg base CX0 k fa fd [p] sp:=by
 have e:=hfa.symm.trans t.m
 cases e
 refine⟨t.fd,fun s v=>?_,fun base _ _=>ok base⟩
 obtain⟨oc,od,kV,doc,pm,an,cdv,ct,osl,e,lk,hcd⟩:=t.F.ex
 rw[e]
 exact .of_eq (hb kV doc pm an cdv ct [v] rfl)
end
abbrev OkT (P:Program)(w:World)(base:Heap){K:PySem.W.Frag}{mg:Str->Option Value}{x:Str}{st:Stmt}{ps:List Str}(t:FnT K mg x st ps)(k n:Nat)(d:List D->Option D):Prop:=FnOk P w K mg base CX0 k t.f t.fd ps (spF K n d)
abbrev aN (P:Program)(w:World)(base:Heap){K:PySem.W.Frag}{mg:Str->Option Value}{x:Str}{st:Stmt}{ps:List Str}(t:FnT K mg x st ps)(k n:Nat)(d:List D->Option (List D)):Prop:=FnOk P w K mg base CX0 k t.f t.fd ps (spL K n d)
section
variable {X:Cx} {e:Expr} {es:List Expr} {ga:Lf} {pos p:Pos} {x:Str} {st:Stmt} {ps:List Str}
theorem xR {j k n:Nat}{t:FnT X.K X.mg x st ps}{fD:List D->Option D}(F:FnOk X.prog X.w X.K X.mg X.base CX0 j t.f t.fd ps (spF X.K n fD))(hr:Room k X.A)(ha:PFA X (e::es) ga)(hj:j<=k:=by omega)(hg:Gl X x:=by rfl)(hdb:(x==("__debug__":Str))=false:=by decide)(he:starEach (e::es) X.env=(false,eval e X.env)::starEach es X.env:=by rfl)(hpl:(backTo pos (starEach es X.env)).any (·.1)=false:=by rfl) :
   PF X (.Call (.Name x p) (e::es) [] pos) (zF n fD ga):=zSM F (hr.mono hj) t.m t.F.kp t.b hg ha hdb he hpl
theorem cH {j k n:Nat}{t:FnT X.K X.mg x st ps}{fD:List D->Option (List D)}(F:FnOk X.prog X.w X.K X.mg X.base CX0 j t.f t.fd ps (spL X.K n fD))(hr:Room k X.A)(ha:PFA X (e::es) ga)(hj:j<=k:=by omega)(hg:Gl X x:=by rfl)(hdb:(x==("__debug__":Str))=false:=by decide)(he:starEach (e::es) X.env=(false,eval e X.env)::starEach es X.env:=by rfl)(hpl:(backTo pos (starEach es X.env)).any (·.1)=false:=by rfl) :
   PFr X (.Call (.Name x p) (e::es) [] pos) (wE n fD ga):=zSC F (hr.mono hj) t.m t.F.kp t.b hg ha hdb he hpl
end
theorem yI {N P:List Str}{sc:Scope}(h:(sc.kind == .function && !sc.isCoroutine && !sc.isGenerator&&decide (N.take P.length=P)&&decide N.Nodup&&decide (∀x∈P,sc.names.lookup x=some .local∨sc.names.lookup x=some .cell)&&decide (∀y∈sc.names,y.2 ≠ .free))=true):FnScope N P sc:=by
 simp only[Qh,Qz,Bool.not_eq_true'] at h
 obtain⟨⟨⟨⟨⟨⟨h1,h2⟩,h3⟩,h4⟩,h5⟩,h6⟩,h7⟩:=h
 refine⟨?_,h2,h3,h5,h4,h6,h7⟩
 generalize sc.kind=k at h1
 cases k<;>first | rfl | cases h1
section
variable {X:Cx} {a e:Expr} {fa:Ef} {ga:Lf} {pos p:Pos}
theorem zVR:CallR X (.builtin "abs") (fun xs H Q=>∃i,xs=[.int i]/\Q (.int (if i < 0 then -i else i)) H):=by
 intro pins s σ H xs us Q I r h
 obtain⟨i,rfl,q⟩:=h
 obtain⟨u,rfl,t,rfl⟩:=rF r
 exact call_abs_int fun u tk=>⟨.int _,H,I.kept (fun _ _ e=>e),⟨u,rfl⟩,q⟩
def zQY (fa:Ef):Ef:=fun ρ=>(fa ρ).bind fun x=>match x with | .int i=>some (.int (if i < 0 then -i else i)) | _=>none
theorem zRB (hg:Gl X "abs")(hm:X.mg "abs"=none)(h:PF X a fa)(hs:starEach [a] X.env=[(false,eval a X.env)]:=by rfl):PF X (.Call (.Name "abs" p) [a] [] pos) (zQY fa):=by
 refine PE.to (rX zVR hg hm (by rfl) (yM h xT (by rw[hs];rfl)) (by decide) (by decide) (by rw[hs];rfl) (by rfl)) ?_
 rintro σ H Q ⟨G0,H0,G,ρ,d,good,hf,k⟩
 unfold zQY at hf
 obtain⟨x,h1,hf⟩:=Qq.mp hf
 split at hf
 · rename_i i
   cases hf
   exact⟨G0,H0,G,ρ,_,good,h1,fun v H1 G1 s1 r1=>⟨i,by rw[zG.mp r1],k _ _ G1 s1 (zG.mpr rfl)⟩⟩
 · cases hf
theorem zVt (hc:X.calm=true):CallR X (.builtin "sum") (fun xs H Q=>∃(q:Addr) (ns:List Int),xs=[V.ref q]/\SqL X.K H q (ns.map V.int)/\Q (.int ns.sum) H):=by
 intro pins s σ H xs us Q I r h
 obtain⟨l,ns,rfl,hq,q⟩:=h
 obtain⟨u,rfl,ru⟩:=rF r
 cases ru
 obtain⟨its,rv,pl,hz⟩:=I.list hq
 obtain⟨ps,rfl,rfl⟩:=aU rv
 have hit:s.heap.IsList l (intItems ps.toArray):=by
   have:=pl.isList
   unfold intItems
   rw[List.map_toArray]
   exact this
 refine sum_intListG (I.ok.hd hc) hit fun h' tk t' hk=>⟨.int _,H,I.kept hk,⟨t',rfl⟩,?_⟩
 have e:preSum (numAt ps.toArray) ps.toArray.size=(ps.map (·.1)).sum:=by
   have:=preSum_eq ps.toArray ps.toArray.size
   rw[this,List.take_of_length_le (by simp)]
 rw[e]
 exact q
theorem zSm:OpR X (compareOp .IsNot) (fun x y H Q=>∃z k,x = .bl z/\y = .bl k/\Q (.bl (z != k)) H):=by
 intro pins s σ H x y v u Q I rx ry h
 obtain⟨z,k,rfl,rfl,q⟩:=h
 cases rx
 cases ry
 refine wpAny_isNot_plain (by rfl) (yT I q ?_)
 cases z<;>cases k<;>rfl
def zW4:D->D->Option Bool | .bl x,.bl y=>some (x != y) | _,_=>none
theorem zTk:CmR X .IsNot zW4:=⟨_,zSm,fun d d' k G H x y Q h s rx ry q=>by
 unfold zW4 at h
 split at h
 · cases h
   exact⟨_,_,yG.mp rx,yG.mp ry,q H G (.refl s)⟩
 · cases h⟩
def zTq (g:Lf):Ef:=fun ρ=>(g ρ).bind fun ds=>(lG ds).bind fun ns=>some (.int ns.sum)
theorem zSS (hcm:X.calm=true)(hg:Gl X "sum")(hm:X.mg "sum"=none)(h:bX X a ga)(hs:starEach [a] X.env=[(false,eval a X.env)]:=by rfl):PF X (.Call (.Name "sum" p) [a] [] pos) (zTq ga):=by
 refine PE.to (rX (zVt hcm) hg hm (by rfl) (yM h xT (by rw[hs];rfl)) (by decide) (by decide) (by rw[hs];rfl) (by rfl)) ?_
 rintro σ H Q ⟨G0,H0,G,ρ,d,good,hf,k⟩
 unfold zTq at hf
 obtain⟨ds,h1,hf⟩:=Qq.mp hf
 obtain⟨ns,h2,hf⟩:=Qq.mp hf
 cases hf
 refine⟨G0,H0,G,ρ,ds,good,h1,fun q vs H1 G1 s1 e1 r1=>?_⟩
 rw[mJ h2 r1] at e1
 exact⟨q,ns,rfl,s1.sub.seq e1,k _ _ G1 s1 (zG.mpr rfl)⟩
end
inductive All2 {α β:Type}(R:α->β->Prop):List α->List β->Prop
 | nil:All2 R [] []
 | cons {a b l m}:R a b->All2 R l m->All2 R (a::l) (b::m)
mutual
def sW:D->Bool
 | .non=>true
 | .bl _=>true
 | .int _=>true
 | .str _=>true
 | .tup ds=>sT ds
 | _=>false
def sT:List D->Bool
 | []=>true
 | d::r=>sW d&&sT r
end
theorem zUQ {x y:V}{v:Value}(h1:RelV x v)(h2:RelV y v):x=y:=by
 cases x<;>cases y<;>simp_all [RelV]<;>(obtain⟨t,rfl⟩:=h1;obtain⟨t',e⟩:=h2;cases e;try rfl)
section
variable {X:Cx} {pins:List (Addr×Obj)} {σ:St} {H G:Hp} {s:Shared}
mutual
theorem zW0 (I:Inv X pins σ H s)(sub:Same G H):∀(d d':D) (x:V),sW d=true->sW d'=true->Rep X.K G d x->Rep X.K G d' x->d=d'
 | .non,d',x,f,f',h,h'=>by
   rw[vL] at h;subst h
   cases d' with
   | non=>rfl
   | bl b=>rw[yG] at h';cases h'
   | int i=>rw[zG] at h';cases h'
   | str y=>rw[xD] at h';cases h'
   | tup es=>obtain⟨a,vs,e,_⟩:=yW.mp h';cases e
   | lst es=>unfold sW at f';cases f'
   | obj c ns es=>unfold sW at f';cases f'
   | exc c ns es=>unfold sW at f';cases f'
 | .bl b,d',x,f,f',h,h'=>by
   rw[yG] at h;subst h
   cases d' with
   | non=>rw[vL] at h';cases h'
   | bl b=>rw[yG] at h';cases h';rfl
   | int i=>rw[zG] at h';cases h'
   | str y=>rw[xD] at h';cases h'
   | tup es=>obtain⟨a,vs,e,_⟩:=yW.mp h';cases e
   | lst es=>unfold sW at f';cases f'
   | obj c ns es=>unfold sW at f';cases f'
   | exc c ns es=>unfold sW at f';cases f'
 | .int i,d',x,f,f',h,h'=>by
   rw[zG] at h;subst h
   cases d' with
   | non=>rw[vL] at h';cases h'
   | bl b=>rw[yG] at h';cases h'
   | int i=>rw[zG] at h';cases h';rfl
   | str y=>rw[xD] at h';cases h'
   | tup es=>obtain⟨a,vs,e,_⟩:=yW.mp h';cases e
   | lst es=>unfold sW at f';cases f'
   | obj c ns es=>unfold sW at f';cases f'
   | exc c ns es=>unfold sW at f';cases f'
 | .str i,d',x,f,f',h,h'=>by
   rw[xD] at h;subst h
   cases d' with
   | non=>rw[vL] at h';cases h'
   | bl b=>rw[yG] at h';cases h'
   | int i=>rw[zG] at h';cases h'
   | str y=>rw[xD] at h';cases h';rfl
   | tup es=>obtain⟨a,vs,e,_⟩:=yW.mp h';cases e
   | lst es=>unfold sW at f';cases f'
   | obj c ns es=>unfold sW at f';cases f'
   | exc c ns es=>unfold sW at f';cases f'
 | .tup ds,d',x,f,f',h,h'=>by
   obtain⟨a,vs,rfl,q,r⟩:=yW.mp h
   cases d' with
   | non=>rw[vL] at h';cases h'
   | bl b=>rw[yG] at h';cases h'
   | int i=>rw[zG] at h';cases h'
   | str y=>rw[xD] at h';cases h'
   | tup es =>
     obtain⟨a',vs',e,q',r'⟩:=yW.mp h'
     cases e
     have ev:=I.tuple_inj (sub.tup q) (sub.tup q')
     subst ev
     unfold sW at f f'
     rw[zYV I sub ds es vs f f' r r']
   | lst es=>unfold sW at f';cases f'
   | obj c ns es=>unfold sW at f';cases f'
   | exc c ns es=>unfold sW at f';cases f'
 | .lst ds,d',x,f,f',h,h'=>by unfold sW at f;cases f
 | .obj _ _ _,d',x,f,f',h,h'=>by unfold sW at f;cases f
 | .exc _ _ _,d',x,f,f',h,h'=>by unfold sW at f;cases f
theorem zYV (I:Inv X pins σ H s)(sub:Same G H):∀(ds es:List D) (xs:List V),sT ds=true->sT es=true->Reps X.K G ds xs->Reps X.K G es xs->ds=es
 | [],es,xs,f,f',h,h'=>by
   rw[z0] at h;subst h
   cases es with
   | nil=>rfl
   | cons e r=>obtain⟨v,vr,z,_⟩:=zH.mp h';cases z
 | d::r,es,xs,f,f',h,h'=>by
   obtain⟨v,vr,rfl,q1,q2⟩:=zH.mp h
   cases es with
   | nil=>rw[z0] at h';cases h'
   | cons e t =>
     obtain⟨v',vr',z,q3,q4⟩:=zH.mp h'
     cases z
     unfold sT at f f'
     rw[Qh] at f f'
     rw[zW0 I sub d e v f.1 f'.1 q1 q3,zYV I sub r t vr f.2 f'.2 q2 q4]
end
def zZM (x:D):List D->Option Bool
 | []=>some false
 | d::r=>(eqD 8 d x).bind fun a=>(zZM x r).map fun b=>a||b
def eOf (K:PySem.W.Frag)(G:Hp)(x:D)(w:Value):Bool:=by
 classical
 exact if h:∃d,sW d=true/\∃z,Rep K G d z/\RelV z w then(eqD 8 h.choose x).getD false else false
theorem zRy (I:Inv X pins σ H s)(sub:Same G H){x d:D}{z:V}{w:Value}(f:sW d=true)(r:Rep X.K G d z)(rv:RelV z w):eOf X.K G x w=(eqD 8 d x).getD false:=by
 unfold eOf
 have h:∃d,sW d=true/\∃z,Rep X.K G d z/\RelV z w:=⟨d,f,z,r,rv⟩
 rw[dif_pos h]
 obtain⟨f',z',r',rv'⟩:=h.choose_spec
 have ez:=zUQ rv' rv
 subst ez
 rw[zW0 I sub _ d z' f' f r' r]
theorem zWl (I:Inv X pins σ H s)(sub:Same G H){x:D}:∀ {ds:List D} {xs:List V} {its:List Value} {b:Bool},sT ds=true->Reps X.K G ds xs->Vals xs its->zZM x ds=some b->its.any (eOf X.K G x)=b/\∀w∈its,∃d z,d∈ds/\Rep X.K G d z/\RelV z w/\eqD 8 d x=some (eOf X.K G x w)
 | [],_,_,b,f,r,v,h=>by
   rw[z0] at r;subst r
   cases v
   cases h
   exact⟨rfl,fun w hw=>nomatch hw⟩
 | d::t,_,_,b,f,r,v,h=>by
   obtain⟨z,zr,rfl,q1,q2⟩:=zH.mp r
   cases v with
   | cons v1 v2 =>
     unfold sT at f
     rw[Qh] at f
     unfold zZM at h
     obtain⟨a,h1,h⟩:=Qq.mp h
     obtain⟨b',h2,rfl⟩:=Qt.mp h
     obtain⟨i1,i2⟩:=zWl I sub f.2 q2 v2 h2
     have e:=zRy (x:=x) I sub f.1 q1 v1
     rw[h1] at e
     refine⟨by rw[List.any_cons,i1,e];rfl,fun w hw=>?_⟩
     rcases Qk.mp hw with rfl | hw
     · exact⟨d,z,Qj,q1,v1,by rw[e];exact h1⟩
     · obtain⟨d',z',m,y⟩:=i2 w hw
       exact⟨d',z',Qd _ m,y⟩
end
section
variable {X:Cx} {k:Nat}
def zVW (x y:D):Option Bool:=match y with
 | .lst ds=>if sT ds then zZM x ds else none
 | .tup ds=>if sT ds then zZM x ds else none
 | _=>none
def gK (x y:D):Option Bool:=(zVW x y).map (!·)
theorem zSs (hr:Room k X.A)(neg:Bool):OpR X (compareOp (if neg then .NotIn else .In)) (fun x y H Q=>∃G d d' b,Same G H/\Rep X.K G d x/\Rep X.K G d' y/\zVW d d'=some b/\Q (.bl (if neg then !b else b)) H):=by
 intro pins s σ H x y v u Q I rx ry h
 obtain⟨G,d,d',b,sub,r1,r2,h,q⟩:=h
 have hu:=hr.units
 have main:∀(ds:List D) (xs:List V) (its:List Value),sT ds=true->Reps X.K G ds xs->Vals xs its->zZM d ds=some b->its.toArray.any (eOf X.K G d)=b/\∀w,w∈its.toArray->SeqAt.EqAt X.A.in1 s w v (eOf X.K G d w):=by
   intro ds xs its f r vv ha
   obtain⟨e1,e2⟩:=zWl I sub f r vv ha
   refine⟨by simpa using e1,fun w hw=>?_⟩
   obtain⟨d1,z,_,q1,q2,q3⟩:=e2 w (by simpa using hw)
   exact(zQP I sub 8 X.A.in1 d1 d z x w v _ (by show X.A.units+1+8 < cLine;omega) q3 q1 r1 q2 rx).2.2
 cases d' with
 | lst ds =>
   unfold zVW at h
   dsimp only at h
   split at h
   · rename_i f
     obtain⟨p,xs,rfl,q1,q2⟩:=y0.mp r2
     cases ry
     obtain⟨its,rv,pl,hz⟩:=I.list (sub.seq q1)
     obtain⟨m1,m2⟩:=main ds xs its f q2 rv h
     cases neg with
     | false=>exact SeqAt.in_listAt (eOf X.K G d) pl.isList m2 ⟨.bl _,H,I,rfl,by rw[m1];exact q⟩
     | true=>exact SeqAt.notIn_listAt (eOf X.K G d) pl.isList m2 ⟨.bl _,H,I,rfl,by rw[m1];exact q⟩
   · cases h
 | tup ds =>
   unfold zVW at h
   dsimp only at h
   split at h
   · rename_i f
     obtain⟨p,xs,rfl,q1,q2⟩:=yW.mp r2
     cases ry
     obtain⟨its,rv,pl,hz⟩:=I.tuple (sub.tup q1)
     obtain⟨m1,m2⟩:=main ds xs its f q2 rv h
     cases neg with
     | false=>exact SeqAt.in_tupleAt (eOf X.K G d) pl m2 ⟨.bl _,H,I,rfl,by rw[m1];exact q⟩
     | true=>exact SeqAt.notIn_tupleAt (eOf X.K G d) pl m2 ⟨.bl _,H,I,rfl,by rw[m1];exact q⟩
   · cases h
 | _=>cases h
theorem zVf (hr:Room k X.A):CmR X .NotIn gK:=⟨_,zSs hr true,fun d d' k G H x y Q h s rx ry q=>by
 unfold gK at h
 obtain⟨b,h1,rfl⟩:=Qt.mp h
 exact⟨G,d,d',b,s,rx,ry,h1,q H G (.refl s)⟩⟩
end
abbrev Jf:=List B->Option Str
end L2
namespace L2
open PySem PySem.Spec PyProof.Rows
open PySem.Builtin PySem.Builtin.Str
end L2
namespace L2
open PySem PySem.Spec PyProof.Rows
open PySem.Builtin PySem.Builtin.Str
end L2
namespace L2
open PySem PySem.Spec PyProof.Rows
def zTe:Value->Option D
 | .none=>some .non
 | .bool b=>some (.bl b)
 | .int i _=>some (.int i)
 | .str x _=>some (.str x)
 | _=>none
def zPO (P:Params)(l:List (Str×Tok×Value)):List DictEntry:=l.map fun p=>⟨PyData.keyHash P p.1,.str p.1 p.2.1,p.2.2⟩
def kvC (l:List (Str×Tok×Value)):List (Str×D):=l.map fun p=>(p.1,(zTe p.2.2).getD .non)
structure DictC (w:World)(K:PySem.W.Frag)(a:Addr)(kvs:List (Str×D)):Prop where
 sys:(a==sysModules)=false
 at':∃(l:List (Str×Tok×Value)) (n:Nat),K.lookup a=some ⟨.type "dict",none,.dict (zPO w.params l).toArray n,#[]⟩/\kvs=kvC l/\(l.all fun p=>(zTe p.2.2).isSome)=true
def zP0 (l:List (Int×Tok×Value)):List DictEntry:=l.map fun p=>⟨hashInt p.1,.int p.1 p.2.1,p.2.2⟩
def kvN (l:List (Int×Tok×Value)):List (Int×D):=l.map fun p=>(p.1,(zTe p.2.2).getD .non)
structure DictN (K:PySem.W.Frag)(a:Addr)(kvs:List (Int×D)):Prop where
 at':∃(l:List (Int×Tok×Value)) (n:Nat),K.lookup a=some ⟨.type "dict",none,.dict (zP0 l).toArray n,#[]⟩/\kvs=kvN l/\(l.all fun p=>(zTe p.2.2).isSome)=true
def zPp (K:PySem.W.Frag)(u:Value)(d:D):Prop:=∃v,RelV v u/\∀G,Rep K G d v
structure DictX (w:World)(K:PySem.W.Frag)(a:Addr)(kvs:List (Str×D)):Prop where
 sys:(a==sysModules)=false
 at':∃(l:List (Str×Tok×Value)) (n:Nat),K.lookup a=some ⟨.type "dict",none,.dict (zPO w.params l).toArray n,#[]⟩/\Paired (fun(p:Str×Tok×Value) (q:Str×D)=>p.1=q.1/\zPp K p.2.2 q.2) l kvs
def IsSq (t:Bool)(h:Heap)(l:Addr)(xs:Array Value):Prop:=∃o,h.get? l=some o/\o.cls = .type (cond t "tuple" "list")/\∃n,o.data = .seq xs n
def IsIr (t:Bool)(h:Heap)(i l:Addr)(k:Nat):Prop:=∃o,h.get? i=some o/\o.cls = .type (cond t "tuple_iterator" "list_iterator")/\o.data = .fields #[.ref l,.int k 0]
theorem IsSq.extBut {t:Bool}{h h':Heap}{a b:Addr}{xs:Array Value}(x:IsSq t h a xs)(e:Heap.ExtBut b h h')(n:a≠b):IsSq t h' a xs:=let ⟨o,q,r⟩:=x;⟨o,e a o n q,r⟩
theorem IsIr.extBut {t:Bool}{h h':Heap}{a b l:Addr}{k:Nat}(x:IsIr t h a l k)(e:Heap.ExtBut b h h')(n:a≠b):IsIr t h' a l k:=let ⟨o,q,r⟩:=x;⟨o,e a o n q,r⟩
def SqB (t:Bool)(K:PySem.W.Frag)(H:Hp)(b:Addr)(ys:List V):Prop:=match t with | true=>SqT K H b ys | false=>SqL K H b ys
theorem zWC {t:Bool}{K:PySem.W.Frag}{H H':Hp}{b:Addr}{ys:List V}(e:Same H H')(h:SqB t K H b ys):SqB t K H' b ys:=by
 cases t
 · exact e.seq h
 · exact e.tup h
section
variable {X:Cx} {pins:List (Addr×Obj)} {σ:St} {H:Hp} {s:Shared} {t:Bool} {b:Addr} {ys zs:List V}
theorem zWZ (I:Inv X pins σ H s)(h:SqB t X.K H b ys):∃its:List Value,Vals ys its/\IsSq t s.heap b its.toArray:=by
 cases t
 · obtain⟨its,v,p,_⟩:=I.list h
   exact⟨its,v,p.isList⟩
 · obtain⟨its,v,p,_⟩:=I.tuple h
   exact⟨its,v,p⟩
theorem zR7 (I:Inv X pins σ H s)(h:SqB t X.K H b ys)(h':SqB t X.K H b zs):ys=zs:=by
 cases t
 · exact I.list_inj h h'
 · exact I.tuple_inj h h'
theorem zTY {c:Addr}(I:Inv X pins σ H s)(hf:kT X pins H c)(hd:SqB t X.K H b ys):b≠c:=fun z=>by
 have e:=hf.1
 cases t<;>(
   rcases hd with(hd | ⟨ob,hd⟩) | hd
   · rw[z,e] at hd;cases hd
   · rw[z,e] at hd;cases hd
   · obtain⟨ob,_,_,hk,_⟩:=hd
     have e3:=I.ok.mod.kin b ob hk
     obtain⟨_,q1,_,q3,_⟩:=hf
     rcases q3 with q3 | q3
     · exact I.ok.noex b ob e3 (z ▸ q3)
     · exact absurd (Qm (Qs (I.ok.bs b ob e3).1) (z ▸ q3)) (Wv _))
variable {prog:Program} {w:World} {A:Around} {E:Value->Shared->Prop}
theorem zXI {it l:Addr}{i:Nat}{items:Array Value}{x:Value}{Q:Value->Shared->Prop}(hit:IsIr t s.heap it l i)(hl:IsSq t s.heap l items)(hx:items[i]?=some x)
   (hQ:∀h',IsIr t h' it l (i+1)->Heap.SameBut it s.heap h'->Q x { s with heap:=h' }):wpAny (model prog w) A (Builtin.SmallTypes.nextOf (.ref it)) Q E s:=by
 cases t
 · exact wpAny_nextOf_list_item hit hl hx hQ
 · exact kZ hit hl hx hQ
theorem zV2 {it l:Addr}{i:Nat}{items:Array Value}{Q:Value->Shared->Prop}(hh:A.handled=none)(hit:IsIr t s.heap it l i)(hl:IsSq t s.heap l items)(hx:items[i]?=none)
   (hE:∀h' e,Heap.ExtBut it s.heap h'->(∃o,h'.get? e=some o/\o.cls = .type "StopIteration")->E (.ref e) { s with heap:=h' }):wpAny (model prog w) A (Builtin.SmallTypes.nextOf (.ref it)) Q E s:=by
 cases t
 · exact wpAny_nextOf_list_end hh hit hl hx hE
 · exact bK hh hit hl hx hE
theorem zVF {t:Bool}{z TI TO i1 i2 l1 l2:Addr}{k:Nat}{xs ys:Array Value}{x y a b:Value}{Q:Value->Shared->Prop}(D:ZApart z TI TO i1 i2 l1 l2)(hz:IsZip s.heap z TI TO .none)(hTI:IsPair s.heap TI (.ref i1) (.ref i2))(hTO:IsPair s.heap TO a b)
   (h1:s.heap.IsTupleIter i1 l1 k) (h2:IsIr t s.heap i2 l2 k) (hl1:s.heap.IsTuple l1 xs) (hl2:IsSq t s.heap l2 ys) (hx:xs[k]?=some x) (hy:ys[k]?=some y)
   (hQ:∀h',IsZip h' z TI TO (rawInt s.heap.objs.size)->IsPair h' TO x y->h'.IsTupleIter i1 l1 (k+1)->IsIr t h' i2 l2 (k+1)->IsPair h' s.heap.objs.size x y ->
     (∀c o,c≠z->c≠TO->c≠i1->c≠i2->s.heap.get? c=some o->h'.get? c=some o)->Q (.ref s.heap.objs.size) { s with heap:=h' }) :
   wpAny (model prog w) A (Builtin.«zip.__next__» ⟨[.ref z],[]⟩) (fun fin s'=>∃v,fin = .done (.ret v)/\Q v s') E s:=by
 change wpAny _ _ (field (.ref z) 2 >>= _) _ _ _
 refine Qw (Ep hz rfl (x:=.bool false) rfl ?_)
 change wpAny _ _ (field (.ref z) 3 >>= _) _ _ _
 refine Qw (Ep hz rfl (x:=.ref TI) rfl (Qw (Ex hTI rfl ?_)))
 change wpAny _ _ (Builtin.SmallTypes.ownedTupleIsFree (.ref z) >>= _) _ _ _
 refine Qw ?_
 unfold Builtin.SmallTypes.ownedTupleIsFree
 refine Qw (Ep hz rfl (x:=.none) rfl (Qy ?_))
 simp only[Rt]
 refine Qw (Yj (Qw (Ep hz rfl (x:=.ref TO) rfl (Qw (Wy hz (by simp) fun g1 z1 t1=>?_)))))
 have z1:IsZip g1 z TI TO .ellipsis:=z1
 refine Qw ?_
 simp only[List.zipIdx_cons,List.zipIdx_nil,Ii,List.forIn_nil]
 refine Qw (Qw (Uo ?_))
 change wpAny _ _ (Builtin.SmallTypes.nextOf (.ref i1) >>= _) _ _ _
 refine Qw (kZ (h1.extBut t1.extBut D.a3) (hl1.extBut t1.extBut D.b2) hx fun g2 u1 t2=>Qy ?_)
 have o2:IsPair g2 TO a b:=t2.extBut _ _ D.a8 (t1.extBut _ _ D.a2 hTO)
 refine Qw (Ex o2 rfl (Qw (Ut o2 fun g3 o3 t3=>?_)))
 have o3:IsPair g3 TO x b:=o3
 refine Qw (Ih (Qy (Qw (Qw (Uo ?_)))))
 change wpAny _ _ (Builtin.SmallTypes.nextOf (.ref i2) >>= _) _ _ _
 refine Qw (zXI (((h2.extBut t1.extBut D.a4).extBut t2.extBut D.b1.symm).extBut t3.extBut D.a9.symm) (((hl2.extBut t1.extBut D.b6).extBut t2.extBut D.b8).extBut t3.extBut D.b7) hy fun g4 u2 t4=>Qy ?_)
 have o4:IsPair g4 TO x b:=t4.extBut _ _ D.a9 o3
 refine Qw (Ex o4 rfl (Qw (Ut o4 fun g5 o5 t5=>?_)))
 have o5:IsPair g5 TO x y:=o5
 refine Qw (Ih (Qy (Qy (Qw (Ex o5 rfl (Qw (wpAny_newTuple ?_)))))))
 have esz:g5.objs.size=s.heap.objs.size:=by rw[t5.1,t4.1,t3.1,t2.1,t1.1]
 have z5:IsZip g5 z TI TO .ellipsis:=t5.extBut _ _ D.a2.symm (t4.extBut _ _ D.a4.symm (t3.extBut _ _ D.a2.symm (t2.extBut _ _ D.a3.symm z1)))
 have k5:∀c o,c≠z->c≠TO->c≠i1->c≠i2->s.heap.get? c=some o->g5.get? c=some o:=fun c o c1 c2 c3 c4 e=>t5.extBut _ _ c2 (t4.extBut _ _ c4 (t3.extBut _ _ c2 (t2.extBut _ _ c3 (t1.extBut _ _ c1 e))))
 have p1:g5.IsTupleIter i1 l1 (k+1):=((u1.extBut t3.extBut D.a8.symm).extBut t4.extBut D.b1).extBut t5.extBut D.a8.symm
 have p2:IsIr t g5 i2 l2 (k+1):=u2.extBut t5.extBut D.a9.symm
 have lz:z < g5.objs.size:=Qs z5
 change wpAny _ _ (Builtin.SmallTypes.ownedTupleHandOut (.ref z) (.ref g5.objs.size) >>= _) _ _ _
 refine Qw ?_
 unfold Builtin.SmallTypes.ownedTupleHandOut
 have z6:IsZip (g5.push { cls:=.type "tuple",data:=.seq #[x,y] }) z TI TO .ellipsis:=Qr _ z5
 refine Qw (Wy z6 (by simp) fun g7 z7 t7=>?_)
 have z7:IsZip g7 z TI TO (rawInt g5.objs.size):=z7
 refine Wy z7 (by simp) fun g8 z8 t8=>?_
 have z8:IsZip g8 z TI TO (rawInt g5.objs.size):=z8
 have up:∀c o,c≠z->g5.get? c=some o->g8.get? c=some o:=fun c o c1 e=>t8.extBut _ _ c1 (t7.extBut _ _ c1 (Qr _ e))
 have n8:IsPair g8 g5.objs.size x y:=t8.extBut _ _ (Rm lz) (t7.extBut _ _ (Rm lz) (Qp _ rfl))
 rw[esz] at z8 n8
 refine Qy ⟨_,rfl,?_⟩
 change Q (.ref g5.objs.size) _
 rw[esz]
 obtain⟨q1,r1,w1⟩:=p1
 obtain⟨q2,r2,w2⟩:=p2
 exact hQ g8 z8 (up _ _ D.a2 o5) ⟨q1,up _ _ D.a3 r1,w1⟩ ⟨q2,up _ _ D.a4 r2,w2⟩ n8 fun c o c1 c2 c3 c4 e=>up c o c1 (k5 c o c1 c2 c3 c4 e)
theorem zUV {t:Bool}{z TI TO i1 i2 l1 l2:Addr}{k:Nat}{xs ys:Array Value}{a b:Value}{Q:Fin->Shared->Prop}(hh:A.handled=none)(D:ZApart z TI TO i1 i2 l1 l2)(hz:IsZip s.heap z TI TO .none)(hTI:IsPair s.heap TI (.ref i1) (.ref i2))(hTO:IsPair s.heap TO a b)
   (h1:s.heap.IsTupleIter i1 l1 k) (h2:IsIr t s.heap i2 l2 k) (hl1:s.heap.IsTuple l1 xs) (hl2:IsSq t s.heap l2 ys) (hend:xs[k]?=none∨ys[k]?=none)
   (hE:∀h' e,(∀c o,c≠z->c≠TO->c≠i1->c≠i2->s.heap.get? c=some o->h'.get? c=some o)->(∃o,h'.get? e=some o/\o.cls = .type "StopIteration")->E (.ref e) { s with heap:=h' }) :
   wpAny (model prog w) A (Builtin.«zip.__next__» ⟨[.ref z],[]⟩) Q E s:=by
 change wpAny _ _ (field (.ref z) 2 >>= _) _ _ _
 refine Qw (Ep hz rfl (x:=.bool false) rfl ?_)
 change wpAny _ _ (field (.ref z) 3 >>= _) _ _ _
 refine Qw (Ep hz rfl (x:=.ref TI) rfl (Qw (Ex hTI rfl ?_)))
 change wpAny _ _ (Builtin.SmallTypes.ownedTupleIsFree (.ref z) >>= _) _ _ _
 refine Qw ?_
 unfold Builtin.SmallTypes.ownedTupleIsFree
 refine Qw (Ep hz rfl (x:=.none) rfl (Qy ?_))
 simp only[Rt]
 refine Qw (Yj (Qw (Ep hz rfl (x:=.ref TO) rfl (Qw (Wy hz (by simp) fun g1 z1 t1=>?_)))))
 have z1:IsZip g1 z TI TO .ellipsis:=z1
 refine Qw ?_
 simp only[List.zipIdx_cons,List.zipIdx_nil,Ii,List.forIn_nil]
 refine Qw (Qw (Uo ?_))
 change wpAny _ _ (Builtin.SmallTypes.nextOf (.ref i1) >>= _) _ _ _
 cases hx:xs[k]? with
 | none =>
   refine Qw (bK hh (h1.extBut t1.extBut D.a3) (hl1.extBut t1.extBut D.b2) hx fun g2 e t2 he=>?_)
   obtain⟨oe,he1,he2⟩:=he
   have z2:IsZip g2 z TI TO .ellipsis:=t2 _ _ D.a3.symm z1
   have ne:e≠z:=fun q=>by subst q;rw[z2] at he1;cases he1;simp at he2
   exact Wy z2 (by simp) fun g3 _ t3=>hE g3 e (fun c o c1 _ c3 _ q=>t3.extBut _ _ c1 (t2 _ _ c3 (t1.extBut _ _ c1 q))) ⟨oe,t3.extBut _ _ ne he1,he2⟩
 | some x =>
   have hy:ys[k]?=none:=by
     rcases hend with q | q
     · rw[hx] at q;cases q
     · exact q
   refine Qw (kZ (h1.extBut t1.extBut D.a3) (hl1.extBut t1.extBut D.b2) hx fun g2 u1 t2=>Qy ?_)
   have o2:IsPair g2 TO a b:=t2.extBut _ _ D.a8 (t1.extBut _ _ D.a2 hTO)
   refine Qw (Ex o2 rfl (Qw (Ut o2 fun g3 o3 t3=>?_)))
   refine Qw (Ih (Qy (Qw (Qw (Uo ?_)))))
   change wpAny _ _ (Builtin.SmallTypes.nextOf (.ref i2) >>= _) _ _ _
   refine Qw (zV2 hh (((h2.extBut t1.extBut D.a4).extBut t2.extBut D.b1.symm).extBut t3.extBut D.a9.symm) (((hl2.extBut t1.extBut D.b6).extBut t2.extBut D.b8).extBut t3.extBut D.b7) hy fun g4 e t4 he=>?_)
   obtain⟨oe,he1,he2⟩:=he
   have z4:IsZip g4 z TI TO .ellipsis:=t4 _ _ D.a4.symm (t3.extBut _ _ D.a2.symm (t2.extBut _ _ D.a3.symm z1))
   have ne:e≠z:=fun q=>by subst q;rw[z4] at he1;cases he1;simp at he2
   exact Wy z4 (by simp) fun g5 _ t5=>hE g5 e (fun c o c1 c2 c3 c4 q=>t5.extBut _ _ c1 (t4 _ _ c4 (t3.extBut _ _ c2 (t2.extBut _ _ c3 (t1.extBut _ _ c1 q))))) ⟨oe,t5.extBut _ _ ne he1,he2⟩
end
abbrev zM2 (t:Bool)(h:Heap)(l1 l2:Addr):Heap:=(zT1 h l1).push { cls:=.type (cond t "tuple_iterator" "list_iterator"),data:=.fields #[.ref l2,.int 0 0] }
abbrev zM3 (t:Bool)(h:Heap)(l1 l2:Addr):Heap:=(zM2 t h l1 l2).push { cls:=.type "tuple",data:=.seq #[.ref h.objs.size,.ref (zT1 h l1).objs.size] }
abbrev zM4 (t:Bool)(h:Heap)(l1 l2:Addr):Heap:=(zM3 t h l1 l2).push { cls:=.type "tuple",data:=.seq #[.none,.none] }
abbrev zM5 (t:Bool)(h:Heap)(l1 l2:Addr):Heap:=(zM4 t h l1 l2).push { cls:=.type "zip",data:=.fields #[.none,.bool false,.bool false,.ref (zM2 t h l1 l2).objs.size,.ref (zM3 t h l1 l2).objs.size] }
theorem zU3 (t:Bool)(l1 l2:Addr)(xs ys:Array Value) :
   Meets (Builtin.«zip.__new__» ⟨[.type "zip",.ref l1,.ref l2],[]⟩) (fun _ R s=>s.heap.IsTuple l1 xs/\IsSq t s.heap l2 ys/\R (.ok (.ret (.ref (zM4 t s.heap l1 l2).objs.size))) { s with heap:=zM5 t s.heap l1 l2 }) :=
 .of_wp fun prog w A R s h=>by
   obtain⟨hp,g,d,tk,os⟩:=s;obtain⟨q1,q2,h⟩:=h
   have hsub:=sub_zip
   have L1:Heap.IsTuple (Shared.heap ⟨hp,g,d,tk,os⟩) l1 xs:=q1
   cases t with
   | true =>
     have L2:Heap.IsTuple (Shared.heap ⟨hp.push { cls:=.type "tuple_iterator",data:=.fields #[.ref l1,.int 0 0] },g,d,tk,os⟩) l2 ys:=Heap.IsTuple.push q2 _
     wp_walk using Yr L1,Yr L2
     exact⟨_,rfl,h⟩
   | false =>
     have L2:Heap.IsList (Shared.heap ⟨hp.push { cls:=.type "tuple_iterator",data:=.fields #[.ref l1,.int 0 0] },g,d,tk,os⟩) l2 ys:=Heap.IsList.push q2 _
     wp_walk using Yr L1,Yd L2
     exact⟨_,rfl,h⟩
section
variable {prog:Program} {w:World} {A:Around} {E:Value->Shared->Prop} {s:Shared}
theorem zVX {t:Bool}{l1 l2:Addr}{xs ys:Array Value}{Q:Value->Shared->Prop}(q1:s.heap.IsTuple l1 xs)(q2:IsSq t s.heap l2 ys)
   (h:∀h',IsZip h' (s.heap.objs.size+4) (s.heap.objs.size+2) (s.heap.objs.size+3) .none->IsPair h' (s.heap.objs.size+2) (.ref s.heap.objs.size) (.ref (s.heap.objs.size+1))->IsPair h' (s.heap.objs.size+3) .none .none ->
     h'.IsTupleIter s.heap.objs.size l1 0->IsIr t h' (s.heap.objs.size+1) l2 0->(∀c o,s.heap.get? c=some o->h'.get? c=some o)->Q (.ref (s.heap.objs.size+4)) { s with heap:=h' }):wpAny (model prog w) A (call (.type "zip") [.ref l1,.ref l2]) Q E s:=by
 refine callType_new F.called_zip (by decide) (F.typeCall_zip_2 _ _) (F.newCall_zip_2 _ _) (fun obj=>F.args_object_init_3 obj _ _) F.entry_zip_new (zU3 t l1 l2 xs ys) ⟨q1,q2,?_⟩
 have y1:(zT1 s.heap l1).objs.size=s.heap.objs.size+1:=Wg ..
 have y2:(zM2 t s.heap l1 l2).objs.size=s.heap.objs.size+2:=by rw[Wg,y1]
 have y3:(zM3 t s.heap l1 l2).objs.size=s.heap.objs.size+3:=by rw[Wg,y2]
 have y4:(zM4 t s.heap l1 l2).objs.size=s.heap.objs.size+4:=by rw[Wg,y3]
 have f5:(zM5 t s.heap l1 l2).get? (zM4 t s.heap l1 l2).objs.size=some _:=Qp _ rfl
 have f4:(zM5 t s.heap l1 l2).get? (zM3 t s.heap l1 l2).objs.size=some _:=Qr _ (Qp _ rfl)
 have f3:(zM5 t s.heap l1 l2).get? (zM2 t s.heap l1 l2).objs.size=some _:=Qr _ (Qr _ (Qp _ rfl))
 have f2:(zM5 t s.heap l1 l2).get? (zT1 s.heap l1).objs.size=some _:=Qr _ (Qr _ (Qr _ (Qp _ rfl)))
 have f1:(zM5 t s.heap l1 l2).get? s.heap.objs.size=some _:=Qr _ (Qr _ (Qr _ (Qr _ (Qp _ rfl))))
 change _/\_
 rw[y2,y3,y4] at f5
 rw[y1,y2] at f3
 rw[y3] at f4
 rw[y1] at f2
 rw[y4]
 exact⟨⟨_,f5,rfl⟩,h _ f5 f3 f4 ⟨_,f1,rfl,rfl⟩ ⟨_,f2,rfl,rfl⟩ fun c o x=>Qr _ (Qr _ (Qr _ (Qr _ (Qr _ x))))⟩
end
def zPJ (t:Bool)(K:PySem.W.Frag)(a b:Addr):It :=
 ⟨fun i H=>∃xs ys x y,SqT K H a xs/\SqB t K H b ys/\xs[i]?=some x/\ys[i]?=some y,fun i H x H'=>∃p v u,H p=none/\x = .ref p/\H'=upd H p (.tup [v,u])/\(∀xs,SqT K H a xs->xs[i]?=some v)/\∀ys,SqB t K H b ys->ys[i]?=some u,
   fun i H=>∃xs ys,SqT K H a xs/\SqB t K H b ys/\(xs.length<=i∨ys.length<=i)⟩
theorem eR {t:Bool}{prog:Program}{w:World}{A:Around}{E:Value->Shared->Prop}{s:Shared}{z TI TO i1 i2 l1 l2:Addr}{k:Nat}{xs ys:Array Value}{x y a b:Value}{Q:Option Value->Shared->Prop}(D:ZApart z TI TO i1 i2 l1 l2)(hz:IsZip s.heap z TI TO .none)(hTI:IsPair s.heap TI (.ref i1) (.ref i2))(hTO:IsPair s.heap TO a b)
   (h1:s.heap.IsTupleIter i1 l1 k) (h2:IsIr t s.heap i2 l2 k) (hl1:s.heap.IsTuple l1 xs) (hl2:IsSq t s.heap l2 ys) (hx:xs[k]?=some x) (hy:ys[k]?=some y)
   (hQ:∀h',IsZip h' z TI TO (rawInt s.heap.objs.size)->IsPair h' TO x y->h'.IsTupleIter i1 l1 (k+1)->IsIr t h' i2 l2 (k+1)->IsPair h' s.heap.objs.size x y ->
     (∀c o,c≠z->c≠TO->c≠i1->c≠i2->s.heap.get? c=some o->h'.get? c=some o)->Q (some (.ref s.heap.objs.size)) { s with heap:=h' }):wpAny (model prog w) A (pyNext (.ref z)) Q E s:=by
 have hT:s.TypeIs (.ref z) "zip":=⟨_,hz,rfl⟩
 unfold pyNext
 exact Qw (wpAny_attempt (Ey (name:=Str.ofString "__next__") hT F.slot_zip_next (Ei F.slot_zip_next hT F.entry_zip_next (zVF D hz hTI hTO h1 h2 hl1 hl2 hx hy fun h' a1 a2 a3 a4 a5 a6=>Qy (hQ h' a1 a2 a3 a4 a5 a6)) (F.args_zip_next_1 _))))
theorem cI {t:Bool}{prog:Program}{w:World}{A:Around}{E:Value->Shared->Prop}{s:Shared}{z TI TO i1 i2 l1 l2:Addr}{k:Nat}{xs ys:Array Value}{a b:Value}{Q:Option Value->Shared->Prop}(hh:A.handled=none)(D:ZApart z TI TO i1 i2 l1 l2)(hz:IsZip s.heap z TI TO .none)(hTI:IsPair s.heap TI (.ref i1) (.ref i2))(hTO:IsPair s.heap TO a b)
   (h1:s.heap.IsTupleIter i1 l1 k) (h2:IsIr t s.heap i2 l2 k) (hl1:s.heap.IsTuple l1 xs) (hl2:IsSq t s.heap l2 ys) (hend:xs[k]?=none∨ys[k]?=none)
   (hQ:∀h',(∀c o,c≠z->c≠TO->c≠i1->c≠i2->s.heap.get? c=some o->h'.get? c=some o)->Q none { s with heap:=h' }):wpAny (model prog w) A (pyNext (.ref z)) Q E s:=by
 have hT:s.TypeIs (.ref z) "zip":=⟨_,hz,rfl⟩
 unfold pyNext
 refine Qw (wpAny_attempt (Ey (name:=Str.ofString "__next__") hT F.slot_zip_next (Ei F.slot_zip_next hT F.entry_zip_next (zUV hh D hz hTI hTO h1 h2 hl1 hl2 hend fun h' e hk he=>?_) (F.args_zip_next_1 _))))
 obtain⟨o,q1,q2⟩:=he
 exact Qw (Yx (T:="StopIteration") (b:=true) ⟨o,q1,q2⟩ isSubtype_stop (Qy (hQ _ hk)))
theorem zV9 (t:Bool){P:Program}{w:World}{K:PySem.W.Frag}{elts:List Expr}{k:Nat}{pos:Pos}(a b n:Addr):Turn P w K (.Tuple elts k pos) (zPJ t K a b) [n+4,n+2,n+3,n,n+1] (n+4)
   (fun i h=>IsZip h (n+4) (n+2) (n+3) .none/\IsPair h (n+2) (.ref n) (.ref (n+1))/\(∃p q,IsPair h (n+3) p q)/\h.IsTupleIter n a i/\IsIr t h (n+1) b i) where
 mem:=by simp
 obj:=fun i h st c hc=>by
   obtain⟨h1,h2,⟨p,q,h3⟩,⟨o1,e1,_,d1⟩,⟨o2,e2,_,d2⟩⟩:=st
   simp only[Qk,We,Rw] at hc
   rcases hc with z | z | z | z | z
   · subst z;exact⟨_,h1,fun v q=>nomatch q⟩
   · subst z;exact⟨_,h2,fun v q=>nomatch q⟩
   · subst z;exact⟨_,h3,fun v q=>nomatch q⟩
   · subst z;exact⟨o1,e1,fun v q=>by rw[d1] at q;cases q⟩
   · subst z;exact⟨o2,e2,fun v q=>by rw[d2] at q;cases q⟩
 keep:=fun i h h' st kk=>by
   obtain⟨h1,h2,⟨p,q,h3⟩,⟨o1,e1,r1⟩,⟨o2,e2,r2⟩⟩:=st
   exact⟨kk _ (by simp) _ h1,kk _ (by simp) _ h2,⟨p,q,kk _ (by simp) _ h3⟩,⟨o1,kk _ (by simp) _ e1,r1⟩,⟨o2,kk _ (by simp) _ e2,r2⟩⟩
 item:=by
   intro X hP hw hK hc i pins s σ H E I hf st hg
   subst hP hw hK
   obtain⟨xs,ys,x,y,hq,hq',hx,hy⟩:=hg
   obtain⟨its,rv,p1,hz⟩:=I.tuple hq
   obtain⟨jts,rv',p2⟩:=zWZ I hq'
   obtain⟨u,hu,ru⟩:=rv.get hx
   obtain⟨u',hu',ru'⟩:=rv'.get hy
   obtain⟨h1,h2,⟨p,q,h3⟩,h4,h5⟩:=st
   have apart:∀u:Bool,∀c∈[n+4,n+2,n+3,n,n+1],∀v:List V,∀d:Addr,SqB u X.K H d v->d≠c:=fun u c hc v d hd=>zTY I (hf c hc) hd
   have D:ZApart (n+4) (n+2) (n+3) n (n+1) a b:=⟨zne 2 4 (by decide),zne 3 4 (by decide),zne 0 4 (by decide),zne 1 4 (by decide),zne 2 3 (by decide),zne 2 0 (by decide),zne 2 1 (by decide),zne 3 0 (by decide),zne 3 1 (by decide),zne 0 1 (by decide),apart true _ (by simp) xs a hq,apart true _ (by simp) xs a hq,apart true _ (by simp) xs a hq,apart true _ (by simp) xs a hq,apart t _ (by simp) ys b hq',apart t _ (by simp) ys b hq',apart t _ (by simp) ys b hq',apart t _ (by simp) ys b hq'⟩
   refine eR D h1 h2 h3 h4 h5 (show s.heap.IsTuple a its.toArray from p1) p2 (x:=u) (y:=u') (by simpa using hu) (by simpa using hu') fun g g1 g2 g3 g4 g5 hk=>?_
   have hk':∀c o,c∉[n+4,n+2,n+3,n,n+1]->s.heap.get? c=some o->g.get? c=some o:=fun c o hc e=>hk c o (fun z=>hc (by simp[z])) (fun z=>hc (by simp[z])) (fun z=>hc (by simp[z])) (fun z=>hc (by simp[z])) e
   have I1:Inv X pins σ (upd H s.heap.objs.size (.tup [x,y])) { s with heap:=g }:=I.turnedNew (t':=s.toks) hk' hf (Qf _) ⟨by show 2<=sizeLine;exact Wz (vH (by decide)),[u,u'],.cons ru (.cons ru' .nil),⟨_,g5,rfl,_,rfl⟩⟩
   refine⟨_,rfl,wpAny_letOwnedTupleGo_zip g1 fun g' z' t'=>?_⟩
   have t':Heap.SameBut (n+4) g g':=t'
   have neT:∀c∈[n+4,n+2,n+3,n,n+1],c≠s.heap.objs.size:=fun c hc z=>by
     have lt:c < s.heap.objs.size:=by
       obtain⟨o1,e1,_⟩:=h4
       obtain⟨o2,e2,_⟩:=h5
       simp only[Qk,We,Rw] at hc
       rcases hc with q | q | q | q | q
       · rw[q];exact Qs h1
       · rw[q];exact Qs h2
       · rw[q];exact Qs h3
       · rw[q];exact Qs e1
       · rw[q];exact Qs e2
     rw[z] at lt
     exact Wv _ lt
   have hf1:∀c∈[n+4,n+2,n+3,n,n+1],kT X pins (upd H s.heap.objs.size (.tup [x,y])) c:=fun c hc=>⟨by rw[yV (neT c hc)];exact(hf c hc).1,(hf c hc).2⟩
   have I2:=I1.turnedL (h':=g') (t':=s.toks) (fp:=[n+4,n+2,n+3,n,n+1]) (fun c o hc e=>(t'.2 c (fun z=>hc (by simp[z]))).trans e) hf1
   have g2':IsPair g (n+2) (.ref n) (.ref (n+1)):=hk _ _ D.a1 D.a5 D.a6 D.a7 h2
   obtain⟨o3,e3,r3⟩:=g3
   obtain⟨o4,e4,r4⟩:=g4
   exact⟨.ref s.heap.objs.size,_,I2,rfl,⟨s.heap.objs.size,x,y,I.fresh,rfl,rfl,fun zs hs=>by rw[I.tuple_inj hs hq];exact hx,fun zs hs=>by rw[zR7 I hs hq'];exact hy⟩,
     ⟨z',(t'.2 _ D.a1).trans g2',⟨_,_,(t'.2 _ D.a2).trans g2⟩,⟨o3,(t'.2 _ D.a3).trans e3,r3⟩,⟨o4,(t'.2 _ D.a4).trans e4,r4⟩⟩,fun c hc=>(hf1 c hc).1⟩
 done:=by
   intro X hP hw hK hc i pins s σ H E I hf st hg
   subst hP hw hK
   obtain⟨xs,ys,hq,hq',hx⟩:=hg
   obtain⟨its,rv,p1,hz⟩:=I.tuple hq
   obtain⟨jts,rv',p2⟩:=zWZ I hq'
   obtain⟨h1,h2,⟨p,q,h3⟩,h4,h5⟩:=st
   have apart:∀u:Bool,∀c∈[n+4,n+2,n+3,n,n+1],∀v:List V,∀d:Addr,SqB u X.K H d v->d≠c:=fun u c hc v d hd=>zTY I (hf c hc) hd
   have D:ZApart (n+4) (n+2) (n+3) n (n+1) a b:=⟨zne 2 4 (by decide),zne 3 4 (by decide),zne 0 4 (by decide),zne 1 4 (by decide),zne 2 3 (by decide),zne 2 0 (by decide),zne 2 1 (by decide),zne 3 0 (by decide),zne 3 1 (by decide),zne 0 1 (by decide),apart true _ (by simp) xs a hq,apart true _ (by simp) xs a hq,apart true _ (by simp) xs a hq,apart true _ (by simp) xs a hq,apart t _ (by simp) ys b hq',apart t _ (by simp) ys b hq',apart t _ (by simp) ys b hq',apart t _ (by simp) ys b hq'⟩
   have l1:=rv.length
   have l2:=rv'.length
   refine cI (I.ok.hd hc) D h1 h2 h3 h4 h5 (show s.heap.IsTuple a its.toArray from p1) p2 ?_ fun g hk=>⟨rfl,I.turnedL (t':=s.toks) (fp:=[n+4,n+2,n+3,n,n+1]) (fun c o hc e=>hk c o (fun z=>hc (by simp[z])) (fun z=>hc (by simp[z])) (fun z=>hc (by simp[z])) (fun z=>hc (by simp[z])) e) hf⟩
   rcases hx with q | q
   · exact .inl (by simp;omega)
   · exact .inr (by simp;omega)
 self:=fun _ _ _ _ _ st h=>wpAny_pyIter_zip st.1 h
theorem zZa (t:Bool){K:PySem.W.Frag}{G:Hp}{a b:Addr}{vs us:List V}{ds es:List D}(h:SqT K G a vs)(r:Reps K G ds vs)(h':SqB t K G b us)(r':Reps K G es us):iM K (zPJ t K a b) G (kN ds es):=by
 intro i G2 H2 s1 s2
 have q:SqT K H2 a vs:=(s1.trans s2).tup h
 have q':SqB t K H2 b us:=zWC (s1.trans s2) h'
 refine⟨fun d hd=>?_,fun hi=>⟨vs,us,q,q',?_⟩⟩
 · obtain⟨x,y,h1,h2,rfl⟩:=zYf hd
   obtain⟨v,e1,rv⟩:=r.get h1
   obtain⟨u,e2,ru⟩:=r'.get h2
   refine⟨⟨vs,us,v,u,q,q',e1,e2⟩,fun x' H3 yy=>?_⟩
   obtain⟨p,v',u',hp,rfl,rfl,y1,y2⟩:=yy
   have f1:=y1 vs q
   rw[e1] at f1;cases f1
   have f2:=y2 us q'
   rw[e2] at f2;cases f2
   have s3:=Step.laid (o:=.tup [v,u]) s2 hp
   exact⟨_,s3,yW.mpr ⟨p,_,rfl,.of zE,zH.mpr ⟨_,_,rfl,(rv.mono s1).mono s3.gg,zH.mpr ⟨_,_,rfl,(ru.mono s1).mono s3.gg,z0.mpr rfl⟩⟩⟩⟩
 · rw[zYR] at hi
   rw[←r.length,←r'.length]
   omega
section
variable {X:Cx} {a b:Expr} {fa fb:Ef} {pos p:Pos}
def zYQ (t:Bool)(f g:Ef):Lf:=fun ρ=>(f ρ).bind fun x=>(g ρ).bind fun y=>match t,x,y with | true,.tup xs,.tup ys=>some (kN xs ys) | false,.tup xs,.lst ys=>some (kN xs ys) | _,_,_=>none
def sqD (t:Bool)(ys:List D):D:=cond t (.tup ys) (.lst ys)
theorem zQ8 {t:Bool}{K:PySem.W.Frag}{G:Hp}{ys:List D}{y:V}(h:Rep K G (sqD t ys) y):∃b ws,y = .ref b/\SqB t K G b ws/\Reps K G ys ws:=by
 cases t
 · exact y0.mp h
 · exact yW.mp h
theorem zVE {t:Bool}{f g:Ef}{ρ:List B}{ds:List D}(h:zYQ t f g ρ=some ds):∃xs ys,f ρ=some (.tup xs)/\g ρ=some (sqD t ys)/\ds=kN xs ys:=by
 unfold zYQ at h
 obtain⟨x,h1,h⟩:=Qq.mp h
 obtain⟨y,h2,h⟩:=Qq.mp h
 cases t<;>cases x<;>(try cases h)<;>cases y<;>(try cases h)<;>exact⟨_,_,h1,h2,rfl⟩
theorem zS0 (t:Bool){elts:List Expr}{k:Nat}{pos':Pos}(hg:Gl X "zip")(hm:X.mg "zip"=none)(ha:PF X a fa)(hb:PF X b fb)(hs:starEach [a,b] X.env=[(false,eval a X.env),(false,eval b X.env)]:=by rfl)(hs2:starEach [b] X.env=[(false,eval b X.env)]:=by rfl) :
   PFI X (.Tuple elts k pos') (.Call (.Name "zip" p) [a,b] [] pos) (zYQ t fa fb):=by
 intro pins s σ H R I q
 obtain⟨G0,H0,G,ρ,ds,good,hf,kk⟩:=q
 obtain⟨xs,ys,h1,h2,rfl⟩:=zVE hf
 have hA:=yM ha (yM hb xT (by rw[hs2];rfl)) (by rw[hs,hs2]) pos pins s σ H (fun vs H'=>∃a b us ws G',vs=[.ref a,.ref b]/\Step G H G' H'/\SqT X.K G' a us/\Reps X.K G' xs us/\SqB t X.K G' b ws/\Reps X.K G' ys ws) I
   ⟨G0,H0,G,ρ,_,good,h1,fun v H1 G1 s1 r1=>⟨G0,H0,G1,ρ,_,good.step s1,h2,fun u H2 G2 s2 r2=>by
     obtain⟨a,us,rfl,q1,q2⟩:=yW.mp (r1.mono s2.gg)
     obtain⟨b,ws,rfl,q3,q4⟩:=zQ8 r2
     exact⟨a,b,us,ws,G2,rfl,s1.trans s2,q1,q2,q3,q4⟩⟩⟩
 refine Call_ (pX I hg hm (by rfl) (Wx (thn hA fun us s1 ⟨vs,H1,I1,r1,l1,l2,ws,zs,G1,e1,st1,q1,q2,q3,q4⟩=>?_) (by rw[hs,hs2]) (by rw[hs2];rfl)))
 subst e1
 obtain⟨u,u',rfl,ru,ru'⟩:=zSa r1
 cases ru
 cases ru'
 obtain⟨its,rv,p1,_⟩:=I1.tuple (st1.sub.tup q1)
 obtain⟨jts,rv',p2⟩:=zWZ I1 (zWC st1.sub q3)
 refine zVX (show s1.heap.IsTuple l1 its.toArray from p1) p2 fun h' z1 z2 z3 z4 z5 hk=>?_
 have I2:Inv X pins σ H1 { s1 with heap:=h' }:=I1.kept (t':=s1.toks) hk
 refine wpAny_pyIter_zip z1 ?_
 refine⟨_,[s1.heap.objs.size+4,s1.heap.objs.size+2,s1.heap.objs.size+3,s1.heap.objs.size,s1.heap.objs.size+1],_,_,H1,rfl,I2,zV9 t l1 l2 s1.heap.objs.size,⟨z1,z2,⟨_,_,z3⟩,z4,z5⟩,fun b hb=>?_,kk _ H1 G1 st1 (zZa t q1 q2 q3 q4)⟩
 have hb':s1.heap.objs.size<=b:=by
   simp only[Qk,We,Rw] at hb
   rcases hb with z | z | z | z | z<;>(rw[z];first | exact Qf _ | exact Nat.le_add_right _ _)
 exact I1.fpOk hb' (I1.hok.fresh hb')
theorem zTi (f g:Ef):zTO f g=zYQ true f g:=by
 funext ρ
 unfold zTO zYQ
 cases f ρ with
 | none=>rfl
 | some x =>
   cases g ρ with
   | none=>rfl
   | some y=>cases x<;>cases y<;>rfl
theorem zWB {elts:List Expr}{k:Nat}{pos':Pos}(hg:Gl X "zip")(hm:X.mg "zip"=none)(ha:PF X a fa)(hb:PF X b fb)(hs:starEach [a,b] X.env=[(false,eval a X.env),(false,eval b X.env)]:=by rfl)(hs2:starEach [b] X.env=[(false,eval b X.env)]:=by rfl) :
   PFI X (.Tuple elts k pos') (.Call (.Name "zip" p) [a,b] [] pos) (zTO fa fb):=by
 rw[zTi]
 exact zS0 true hg hm ha hb hs hs2
end
end L2
namespace L2
open PySem PySem.Spec PyProof.Rows
open AutoSeq1 (wpAny_loadPart')
end L2
namespace L2
open PySem PySem.Spec PyProof.Rows
mutual
def zQ2:D->Bool
 | .tup ds=>zXS ds
 | .obj _ _ ds=>zXS ds
 | .lst _=>false
 | .exc _ _ _=>false
 | _=>true
def zXS:List D->Bool
 | []=>true
 | d::r=>zQ2 d&&zXS r
end
def cS (xs:Array Nat):Prop:=∀i j (p:i < xs.size) (q:j < xs.size),i < j->xs[i] < xs[j]
theorem eQ {xs:Array Nat}(h:cS xs)(j:Nat):∀fuel lo hi,hi<=xs.size->lo<=hi->hi - lo<=fuel->(∀i (q:i < xs.size),i < lo->xs[i] < j)->(∀i (q:i < xs.size),hi<=i->j<=xs[i]) ->
   SetTable.below.go xs j fuel lo hi<=xs.size/\(∀i (q:i < xs.size),i < SetTable.below.go xs j fuel lo hi->xs[i] < j)/\∀i (q:i < xs.size),SetTable.below.go xs j fuel lo hi<=i->j<=xs[i]
 | 0,lo,hi,h1,h2,h3,h4,h5=>by
   have e:lo=hi:=by omega
   subst e
   exact⟨h1,h4,h5⟩
 | fuel+1,lo,hi,h1,h2,h3,h4,h5=>by
   unfold SetTable.below.go
   by_cases c:lo < hi
   · rw[Qc c]
     have hm:(lo+hi) / 2 < xs.size:=by omega
     have e:xs.getD ((lo+hi) / 2) j=xs[(lo+hi) / 2]:=by simp[Array.getD,hm]
     simp only[e]
     split
     · rename_i c2
       refine eQ h j fuel _ hi h1 (by omega) (by omega) (fun i q hi'=>?_) h5
       rcases Uw i ((lo+hi) / 2) with z | z
       · exact Uv (h _ _ q hm z) c2
       · have:i=(lo+hi) / 2:=by omega
         subst this;exact c2
     · rename_i c2
       refine eQ h j fuel lo _ (by omega) (by omega) (by omega) h4 fun i q hi'=>?_
       rcases Uw ((lo+hi) / 2) i with z | z
       · exact Wh (Nat.not_lt.mp c2) (Wz (h _ _ hm q z))
       · have:i=(lo+hi) / 2:=by omega
         subst this;exact Nat.not_lt.mp c2
   · rw[Wd c]
     have e:lo=hi:=by omega
     subst e
     exact⟨h1,h4,h5⟩
theorem eM {xs:Array Nat}(h:cS xs)(j:Nat):SetTable.below xs j<=xs.size/\(∀i (q:i < xs.size),i < SetTable.below xs j->xs[i] < j)/\∀i (q:i < xs.size),SetTable.below xs j<=i->j<=xs[i] :=
 eQ h j xs.size 0 xs.size (Qf _) (Ri _) (by omega) (fun i _ q=>absurd q (Yq _)) fun i q q'=>absurd q (by omega)
theorem bC {xs:Array Nat}(h:xs.toList.Pairwise (· < ·)):cS xs:=fun i j p q c=>by
 have:=Ys.mp h i j (by simpa using p) (by simpa using q) c
 simpa using this
theorem zTR {xs:Array Nat}(h:cS xs){j:Nat}(hj:xs[SetTable.below xs j]?≠some j):cS (SetTable.insertAt xs (SetTable.below xs j) j):=by
 obtain⟨b1,b2,b3⟩:=eM h j
 generalize SetTable.below xs j=b at *
 have gt:∀i (q:i < xs.size),b<=i->j < xs[i]:=fun i q hi=>by
   have hb:b < xs.size:=by omega
   have n:xs[b]≠j:=fun e=>hj (by simp[hb,e])
   have l:=b3 b hb (Qf _)
   rcases Uw b i with z | z
   · exact Yo l (h _ _ hb q z)
   · have:i=b:=by omega
     subst this;omega
 have hp:xs.toList.Pairwise (· < ·):=Ys.mpr fun i k p q c=>by
   have:=h i k (by simpa using p) (by simpa using q) c
   simpa using this
 have lo:∀a∈xs.toList.take b,a < j:=fun a ha=>by
   obtain⟨i,hi,rfl⟩:=List.mem_take_iff_getElem.mp ha
   have:=b2 i (by simp at hi;omega) (by omega)
   simpa using this
 have up:∀a∈xs.toList.drop b,j < a:=fun a ha=>by
   obtain⟨i,hi,rfl⟩:=List.mem_drop_iff_getElem.mp ha
   have:=gt (b+i) (by simp at hi;omega) (by omega)
   simpa [Ux] using this
 apply bC
 rw[SetTable.toList_insertAt]
 refine List.pairwise_append.mpr ⟨hp.sublist (List.take_sublist _ _),Ra.mpr ⟨up,hp.sublist (List.drop_sublist _ _)⟩,fun a ha c hc=>?_⟩
 rcases Qk.mp hc with z | z
 · rw[z];exact lo a ha
 · exact Uv (lo a ha) (up c z)
structure Tb (b:Bool)(t:SetTable):Prop where
 led:t.led = !b
 dum:t.dummies=#[]
 up:t.plain=true->cS t.place
theorem zWs (j:Nat):SetTable.has #[] j=false:=by simp[SetTable.has]
theorem zTc {t:SetTable}(h:t.dummies=#[])(j:Nat):t.slot j ≠ .dummy:=by
 unfold SetTable.slot
 rw[h,zWs]
 dsimp only
 split<;>simp
theorem zYY {t:SetTable}(h:t.dummies=#[])(f:Nat->Int)(hh:Int):∀(n:Nat) (p:SetTable.Probe) (j:Nat) (d:Option Nat),p.dummy=none->SetTable.probe.go t f hh n p=some (.empty j d)->d=none/\t.slot j = .empty
 | 0,p,j,d,_,e=>by simp[SetTable.probe.go] at e
 | n+1,p,j,d,hp,e=>by
   have ad:(t.advance p).dummy=none:=by unfold SetTable.advance;split<;>simp[hp]
   unfold SetTable.probe.go at e
   cases hs:t.slot p.j with
   | empty=>rw[hs] at e;simp at e;obtain⟨rfl,rfl⟩:=e;exact⟨hp,hs⟩
   | dummy=>exact absurd hs (zTc h _)
   | live i =>
     rw[hs] at e
     dsimp only at e
     split at e
     · simp at e
     · exact zYY h f hh n _ j d ad e
theorem Tb.stand {b:Bool}{t:SetTable}(h:Tb b t)(n:Nat):Tb b (t.standIn n):=⟨h.led,rfl,fun q=>nomatch q⟩
theorem Tb.lay {b:Bool}{t:SetTable}(h:Tb b t)(es:Array (Int×Value))(hh:Int)(x:Value):Tb b (layNew t es hh x).2.1:=by
 unfold layNew SetTable.freeSlot SetTable.probe
 split
 · rename_i slot wd e
   split at e
   · rename_i j d e2
     simp only[Ug,Prod.mk.injEq] at e
     obtain⟨e,_⟩:=e
     obtain⟨rfl,hs⟩:=zYY h.dum _ _ _ _ _ _ rfl e2
     simp only[Iq] at e
     subst e
     have q:Tb b (t.put j).1:=⟨h.led,by simp[SetTable.put,h.dum,zWs],fun hp=>zTR (h.up hp) fun z=>by
       unfold SetTable.slot at hs
       simp[z] at hs⟩
     show Tb b (SetTable.orStandIn (t.put j).1 _)
     unfold SetTable.orStandIn
     split
     · exact q
     · exact q.stand _
   · cases e
 · exact h.stand _
theorem Tb.relay {b:Bool}{t:SetTable}(h:Tb b t)(es:Array (Int×Value))(n:Nat):Tb b (relayAll t es n).2.1:=by
 unfold relayAll
 split
 · rename_i t' order e
   dsimp only
   split
   · unfold SetTable.relaid SetTable.laid at e
     obtain⟨ow,_,e⟩:=Qq.mp e
     simp only[pure,Ug,Prod.mk.injEq] at e
     obtain⟨rfl,_⟩:=e
     refine⟨h.led,rfl,fun _=>bC ?_⟩
     show(List.map _ _).Pairwise _
     rw[List.map_filterMap]
     refine List.Pairwise.filterMap _ (fun a c hac a' ha c' hc=>?_) (List.pairwise_lt_range)
     simp only[Option.map_map,Qt,Function.comp] at ha hc
     obtain⟨_,_,rfl⟩:=ha
     obtain⟨_,_,rfl⟩:=hc
     exact hac
   · exact h.stand _
 · exact h.stand _
def zZe:Value->Int
 | .int i _=>i
 | _=>0
def SetS (P:Program)(w:World)(h:Heap)(a:Addr)(ns:List Int):Prop :=
 ∃es ep t,h.get? a=some { cls:=.type "set",dict:=none,data:=.set es ep t,slots:=#[] }/\ElemsOf (intKind P w) es.toList/\(es.toList.map fun e=>zZe e.2).Perm ns/\t.fits es.size=true/\Tb (w.params.followText "set-order") t
section
variable {P:Program} {w:World} {A:Around} {E:Value->Shared->Prop} {s:Shared}
theorem zYG {es:List (Int×Value)}(h:ElemsOf (intKind P w) es){e:Int×Value}(he:e∈es):∃k t,e.2 = .int k t/\e.1=hashInt k:=by
 obtain⟨⟨k,h1,h2⟩,_⟩:=h e he
 obtain⟨t,q⟩:=Value.isInt_shape h1
 exact⟨k,t,q,h2⟩
theorem zW9 {b:Bool}{Q:Unit->Shared->Prop}(h:Q () s):wpAny (model P w) A (match b with | true=>rule "set.scan.the-table-gave-way" | false=>pure ()) Q E s:=by
 cases b
 · exact Qy h
 · exact Yj h
theorem SetS.write {h:Heap}{a:Addr}{es es':Array (Int×Value)}{ep:Nat}{t t':SetTable}{ns:List Int}(ho:h.get? a=some { cls:=.type "set",dict:=none,data:=.set es ep t,slots:=#[] })(he:ElemsOf (intKind P w) es'.toList)(hp:(es'.toList.map fun e=>zZe e.2).Perm ns)(hf:t'.fits es'.size=true)(ht:Tb (w.params.followText "set-order") t') :
   (h.update a (Obj.putSet es' t')).get? a=some { cls:=.type "set",dict:=none,data:=.set es' (ep+1) t',slots:=#[] }/\SetS P w (h.update a (Obj.putSet es' t')) a ns:=by
 have hg:(h.update a (Obj.putSet es' t')).get? a=some { cls:=.type "set",dict:=none,data:=.set es' (ep+1) t',slots:=#[] }:=En (Obj.putSet es' t') ho rfl
 exact⟨hg,es',ep+1,t',hg,he,hp,hf,ht⟩
theorem zTT {a:Addr}{k:Int}{tk:Nat}{ns:List Int}{Q:Bool->Shared->Prop}(hS:SetS P w s.heap a ns)(hk:k∉ns)(hb:ns.length+1 < scanBound)
   (h:∀h',Heap.SameBut a s.heap h'->SetS P w h' a (ns++[k])->Q true { s with heap:=h' }):wpAny (model P w) A (setAddHashed a (.int k tk) (hashInt k)) Q E s:=by
 obtain⟨es,ep,t,ho,he,hp,hf,ht⟩:=hS
 have hn:es.size=ns.length:=by have:=hp.length_eq;simpa using this
 have hi:(intKind P w).is k (.int k tk)=true:=intKind_is _ _ _ _
 unfold setAddHashed setAddHashedIn
 refine El (Qw (Rh ho rfl hf ?_))
 dsimp only
 rw[byScan_of (knd:=intKind P w) rfl (by omega) he]
 rw[Qc rfl]
 unfold setAddByScan
 refine Qw (Qw (Yj (Qw (wpAny_setScan_of (knd:=intKind P w) hi ho rfl hf he ?_))))
 have hno:List.findIdx? (fun e=>(intKind P w).is k e.2) es.toList=none:=List.findIdx?_eq_none_iff.mpr fun e q=>by
   obtain⟨k',t',e1,_⟩:=zYG he q
   cases hq:(intKind P w).is k e.2 with
   | false=>rfl
   | true =>
     have e2:k=k':=(intKind P w).inj e.2 k k' hq (by rw[e1];exact intKind_is _ _ _ _)
     exact absurd (hp.mem_iff.mp (Wc.mpr ⟨e,q,by rw[e1,e2];rfl⟩)) hk
 rw[hno]
 dsimp only
 have lp:=layNew_perm t es (hashInt k) (.int k tk)
 have lf:=layNew_fits t es (hashInt k) (.int k tk)
 have lt:=ht.lay es (hashInt k) (.int k tk)
 generalize layNew t es (hashInt k) (.int k tk)=L at lp lf lt
 obtain⟨es1,t1,wd,gave⟩:=L
 dsimp only at lp lf lt ⊢
 rw[Array.toList_push] at lp
 have he1:ElemsOf (intKind P w) es1.toList:=(he.push hi rfl).perm lp
 have hp1:(es1.toList.map fun e=>zZe e.2).Perm (ns++[k]):=(lp.map _).trans (by rw[Ew];exact hp.append (.refl _))
 have hz:es1.size=ns.length+1:=by have:=hp1.length_eq;simpa using this
 refine Qw (zW9 ?_)
 obtain⟨g1,S1⟩:=SetS.write (P:=P) (w:=w) ho he1 hp1 lf lt
 have b1:=Yw s.heap a (Obj.putSet es1 t1)
 have rp:=relayAll_perm t1 es1 (SetTable.grown es1.size)
 have rf:=relayAll_fits t1 es1 (SetTable.grown es1.size)
 have rt:=lt.relay es1 (SetTable.grown es1.size)
 have hp2:=(rp.map fun e=>zZe e.2).trans hp1
 have hz2:(relayAll t1 es1 (SetTable.grown es1.size)).1.size=ns.length+1:=by have:=hp2.length_eq;simpa using this
 obtain⟨_,S2⟩:=SetS.write (P:=P) (w:=w) g1 (he1.perm rp) hp2 rf rt
 split
 all_goals
   refine Qw (show wpAny _ _ (pure true) _ _ _ from Qy ?_)
   simp only[Rt]
   refine Qw (wpAny_storeSet_of ho rfl ?_ (fits_of_scanBound (by omega)))
   split
   · refine Qw (zW9 (Qw (wpAny_storeSet_of g1 rfl ?_ (fits_of_scanBound (by omega)))))
     exact Qy (Qy (h _ (b1.trans (Yw _ a _)) S2))
   · exact Qy (Qy (h _ b1 S1))
end
theorem SetS.moved {P:Program}{w:World}{h h':Heap}{a:Addr}{ns:List Int}(x:SetS P w h a ns)(k:∀o,h.get? a=some o->h'.get? a=some o):SetS P w h' a ns :=
 let ⟨es,ep,t,e,r⟩:=x
 ⟨es,ep,t,k _ e,r⟩
section
variable {P:Program} {w:World} {A:Around} {R:Result->Shared->Prop} {I:Addr} {fp wr:List Addr} {G:Array GenState->Array GenState->Prop} {n:Nat} {Pv:Nat->Value->Prop} {St:Nat->Shared->Prop}
theorem zV5 (W:WalksS P w A.in1 I fp wr G n Pv St){S:Addr}(hS:S∉fp){val:Nat->Int}(hv:∀i v,Pv i v->∃t,v = .int (val i) t)(hb:n+1 < scanBound)(inj:∀i j,i < n->j < i->val i≠val j) :
   ∀(k i:Nat) (s:Shared),i+k=n->St i s->SetS P w s.heap S ((List.range i).map val)->(∀s',Moved (S::wr) G s s'->SetS P w s'.heap S ((List.range n).map val)->R (.ok (.ret .none)) s') ->
     codeAny (model P w) A (.builtin "set.update.loop" ⟨[.ref S,.ref I],[]⟩) R s:=by
 have nw:S∉wr:=fun q=>hS (W.sub _ q)
 intro k
 induction k with
 | zero =>
   intro i s e st x hR
   have e':i=n:=by omega
   subst e'
   refine Ru Uu ?_
   rw[Ek Rz _]
   change wpAny _ A.in1 (pyNext (.ref I) >>= _) _ _ s
   refine Qw (W.done s _ _ st fun s' m=>?_)
   exact Qy (hR s' (m.mono fun b q=>.tail _ q) (x.moved fun o q=>m.heap S o nw q))
 | succ k ih =>
   intro i s e st x hR
   refine Ru Uu ?_
   rw[Ek Rz _]
   change wpAny _ A.in1 (pyNext (.ref I) >>= _) _ _ s
   refine Qw (W.item i s _ _ (by omega) st fun v s' hp st' m=>?_)
   obtain⟨t,rfl⟩:=hv i v hp
   have x':SetS P w s'.heap S ((List.range i).map val):=x.moved fun o q=>m.heap S o nw q
   change wpAny _ A.in1 (holding [Value.int (val i) t] (setAdd S (.int (val i) t)) >>= _) _ _ s'
   refine Qw (El ?_)
   unfold setAdd
   refine El (Qw (wpAny_pyHash_int ?_))
   refine zTT (s:={ s' with toks:=s'.toks+1 }) x' (fun q=>?_) (by rw[Qo,Uj];omega) fun h' b y=>?_
   · obtain⟨j,q1,q2⟩:=Wc.mp q
     exact inj i j (by omega) (Rj.mp q1) q2.symm
   · have y':SetS P w h' S ((List.range (i+1)).map val):=by rw[List.range_succ,Ew];exact y
     refine Qy ⟨Tt Rz _,ih (i+1) _ (by omega) (W.frame _ s' _ _ st' (Ta _) fun c hc o q=>?_) y' fun s'' m' z=>?_⟩
     · rw[b.2 c fun z=>hS (z ▸ hc)];exact q
     · refine hR s'' (Moved.trans W.gtrans ((m.mono fun b q=>.tail _ q).then_heap (Ta _) fun c o hc q=>?_) m') z
       rw[b.2 c fun z=>hc (by rw[z];exact .head _)];exact q
variable {E:Value->Shared->Prop} {s:Shared}
abbrev setO (w:World):Obj:={ cls:=.type "set",dict:=none,data:=.set #[] 0 (.fresh 0 0 (!w.params.followText "set-order")) }
theorem zUN {h:Heap}{a:Addr}(e:h.get? a=some (setO w)):SetS P w h a [] :=
 ⟨#[],0,_,e,fun _ q=>(by simp at q),.nil,rfl,⟨rfl,rfl,fun _ i j p=>absurd p (Yq _)⟩⟩
theorem cQ (a:Value){Q:Value->Shared->Prop}(h:Q (.ref s.heap.objs.size) { s with heap:=s.heap.push (setO w) }) :
   codeAny (model P w) A (.call (.builtin "set.__new__") ⟨[.type "set",a],[]⟩) (wants Q E) s:=by
 refine codeAny_of_tree ?_
 change wpAny _ A.in1 (do checkBuiltinCall "set.__new__" ⟨[.type "set",a],[]⟩;again (.builtin "set.__new__" ⟨[.type "set",a],[]⟩)) _ _ s
 refine Qw (wpAny_of_eq (PySem.F.newCall_set_1 a) (Qy ⟨Tt F.plain_set_new _,Ru F.entry_set_new ?_⟩))
 rw[Ek F.plain_set_new _]
 unfold Builtin.«set.__new__» Builtin.Frozenset.newClass
 have hsub:=sub_set_self
 obtain⟨hp,g,d,tk,os⟩:=s
 dsimp only
 wp_walk
 refine Rb (Qy ?_)
 dsimp only
 simp only[newObj]
 exact Qw (wpAny_alloc (Qy (Qy h)))
theorem zXl {ns:List Int}:(List.range ns.length).map (fun i=>ns.getD i 0)=ns:=by
 apply Rv
 · simp
 · intro i p q
   simp at p
   simp[p]
theorem zVh {l:Addr}{items:Array Value}{ns:List Int}{Q:Fin->Shared->Prop}(hh:A.handled=none)(hl:s.heap.IsList l items)(hi:IntsAre items.toList ns)(nd:ns.Nodup)(hb:ns.length+1 < scanBound)
   (h:∀h' tk,SetS P w h' s.heap.objs.size ns->(∀b o,b < s.heap.objs.size->s.heap.get? b=some o->h'.get? b=some o)->Q (.done (.ret .none)) { s with heap:=h',toks:=tk }) :
   wpAny (model P w) A (Builtin.«set.__init__» ⟨[.ref s.heap.objs.size,.ref l],[]⟩) Q E { s with heap:=s.heap.push (setO w) }:=by
 have hz:items.size=ns.length:=by have:=IntsAre.length hi;simpa using this
 obtain⟨o,e,c,nl,d⟩:=hl
 have lS:l < s.heap.objs.size:=Qs e
 have hS:(s.heap.push (setO w)).get? s.heap.objs.size=some (setO w):=Qp _ rfl
 have hT:Shared.TypeIs { s with heap:=s.heap.push (setO w) } (.ref s.heap.objs.size) "set":=⟨_,hS,rfl⟩
 have hL:(s.heap.push (setO w)).IsList l items:=⟨o,Qr _ e,c,nl,d⟩
 have hTl:Shared.TypeIs { s with heap:=s.heap.push (setO w) } (.ref l) "list":=⟨o,Qr _ e,c⟩
 have a1:=PySem.F.sub_list_set
 have a2:=PySem.F.sub_list_frozenset
 have a3:(Value.type "list"==Value.type "dict")=false:=by decide
 obtain⟨oc,od,odt,os⟩:=o
 simp only at c d
 subst c
 subst d
 have e':(s.heap.push (setO w)).get? l=some { cls:=.type "list",dict:=od,data:=.seq items nl,slots:=os }:=Qr _ e
 unfold Builtin.«set.__init__» noKeywords Builtin.Frozenset.updateFrom
 generalize hPI:pyIter=PI
 wp_walk
 subst hPI
 refine Yd hL (Qw (wpAny_runValue ?_))
 have nI:l≠(s.heap.push (setO w)).objs.size:=by rw[Wg];exact Qv (Uk lS)
 have nf:s.heap.objs.size∉[(s.heap.push (setO w)).objs.size,l]:=by
   rw[Wg]
   simp only[Qk,We,Rw,not_or]
   exact⟨Qv (Rx _),Rm lS⟩
 have hh3:A.in1.handled=none:=by simp[hh]
 refine zV5 ((Walks.list hh3 _ l nI items).toS) nf (val:=fun i=>ns.getD i 0) (fun i v hv=>IntsAre.int_at hi i v (by rw[Th];exact hv)) (by omega) (fun i j p q=>?_) items.size 0 _ (Nat.zero_add _) ?_ ?_ fun s' m x=>?_
 · have q1:i < ns.length:=by omega
   have q2:j < ns.length:=by omega
   simp only[Wu,Qu q1,Qu q2,Option.getD_some]
   exact fun z=>Ys.mp nd j i q2 q1 q z.symm
 · exact⟨⟨_,Qp _ rfl,rfl,rfl⟩,hL.push _⟩
 · exact zUN (Qr _ hS)
 · rw[hz,zXl] at x
   obtain⟨h',g',d',tk',os'⟩:=s'
   have e1:g'=s.gens:=m.gens
   have e2:d'=s.drawn:=m.drawn
   have e3:os'=s.os:=m.os
   subst e1 e2 e3
   refine Qy (Qy (h h' tk' x fun b o q z=>?_))
   refine m.heap b o ?_ (Qr _ (Qr _ z))
   rw[Wg]
   simp only[Qk,We,Rw,not_or]
   exact⟨Qv q,Qv (Uk q)⟩
theorem zVv {l:Addr}{items:Array Value}{ns:List Int}{Q:Value->Shared->Prop}(hh:A.handled=none)(hl:s.heap.IsList l items)(hi:IntsAre items.toList ns)(nd:ns.Nodup)(hb:ns.length+1 < scanBound)
   (h:∀h' tk,SetS P w h' s.heap.objs.size ns->(∀b o,b < s.heap.objs.size->s.heap.get? b=some o->h'.get? b=some o)->Q (.ref s.heap.objs.size) { s with heap:=h',toks:=tk }) :
   wpAny (model P w) A (call (.type "set") [.ref l]) Q E s:=by
 obtain⟨c,tl,hmro⟩:=F.called_set.mro
 have hmade:=F.called_set.made
 have hsub:=F.called_set.sub
 refine wpAny_call (codeAny_of_tree ?_)
 change wpAny _ _ (callAny (.type "set") _) _ _ _
 refine Qy ⟨Code.quiet_builtin _ (by decide +kernel),Ru F.entry_type_call ?_⟩
 rw[Around.under_plain (weight_type_call_type "set" [.ref l] []) rfl]
 have h1:=F.called_set.notType
 have h2:=F.called_set.canCreate
 have h3:=PySem.F.typeCall_set_1 (.ref l)
 repeat (any_goals (first | assumption | wp_step))
 refine Yt (cQ (.ref l) (E:=E) (Q:=fun v s1=>v = .ref s.heap.objs.size/\s1={ s with heap:=s.heap.push (setO w) }) ⟨rfl,rfl⟩) fun r s1 hr=>?_
 cases r with
 | error e=>exact hr
 | ok f =>
   cases f with
   | ret v =>
     obtain⟨rfl,rfl⟩:=hr
     have hT:Shared.TypeIs { s with heap:=s.heap.push (setO w) } (.ref s.heap.objs.size) "set":=⟨_,Qp _ rfl,rfl⟩
     have h4:=F.called_set.init.lookup
     have h5:=F.called_set.init.bind (.ref s.heap.objs.size)
     repeat (any_goals (first | assumption | wp_step))
     refine Yt (codeAny_call_builtin (R:=wants (fun r s2=>r = .none/\∃h' tk,s2={ s with heap:=h',toks:=tk }/\SetS P w h' s.heap.objs.size ns/\∀b o,b < s.heap.objs.size->s.heap.get? b=some o->h'.get? b=some o) E)
       F.called_set.init.plain F.entry_set_init (PySem.check_set_init_1 hT ?_)) fun r2 s2 hr2=>?_
     · exact zVh (by simp[hh]) hl hi nd hb fun h' tk x k=>⟨rfl,h',tk,rfl,x,k⟩
     · cases r2 with
       | error e=>exact hr2
       | ok f2 =>
         cases f2 with
         | ret v2 =>
           obtain⟨rfl,h',tk,rfl,x,k⟩:=hr2
           repeat (any_goals (first | assumption | wp_step))
           exact h _ _ x k
         | _=>exact hr2.elim
   | _=>exact hr.elim
end
theorem fX:entryFor table "set.__iter__"=some Builtin.«frozenset.__iter__» := entryFor_alias (id':="frozenset.__iter__") (by kernel_rfl) rfl (by decide +kernel) (by kernel_rfl)
theorem uX:Slot "set_iterator" "__next__" "set_iterator.__next__" :=
 .of (owner:="set_iterator") (n:="__next__") (by rw[Ti,Em];kernel_rfl) (by decide +kernel) (by decide +kernel) (by decide +kernel)
   (by first | exact .inl (by decide +kernel) | exact .inr (by decide +kernel)) (by rw[Oq];kernel_rfl)
theorem cV:entryFor table "set_iterator.__next__"=some Builtin.«set_iterator.__next__» := entryFor_of_tree (by kernel_rfl)
theorem zZl (a:Value):argsOk "set_iterator.__next__" ⟨[a],[]⟩:=by
 unfold argsOk
 rw[signature?_of (id:="set_iterator.__next__") (n:="__next__".toList.reverse) (o:="set_iterator".toList.reverse) (rows:=Manifest.sig_set_iterator) (by kernel_rfl) (by kernel_rfl)]
 kernel_rfl
section
variable {P:Program} {w:World} {A:Around} {E:Value->Shared->Prop} {s:Shared}
theorem kY {α:Type}:∀(xs:List α) (i:Nat) (h:i < xs.length),(xs[i]::xs.eraseIdx i).Perm xs
 | x::xs,0,_=>.refl _
 | x::xs,i+1,h=>(List.Perm.swap x _ _).trans (.cons x (kY xs i (by simpa using h)))
theorem zXm {src:Source}{n:Nat}{Q:Nat->Shared->Prop}(hn:n≠0)(h:∀i d,i < n->Q i { s with drawn:=d }):wpAny (model P w) A (choose src n) Q E s:=fun Γ p _=>by
 show Sem.wp _ Γ (.choose src n .pure) _ _ p s
 rw[Sem.wp_choose]
 refine⟨hn,?_⟩
 rw[Sem.wp_pure]
 exact h _ _ (Nat.mod_lt _ (Nat.pos_of_ne_zero hn))
theorem zWt {α:Type}:∀(n:Nat) (xs:List α) (s:Shared) {Q:List α->Shared->Prop},xs.length=n->(∀ys d,ys.Perm xs->Q ys { s with drawn:=d })->wpAny (model P w) A (drawOrder n xs) Q E s
 | 0,xs,s,Q,e,h=>by
   have e':xs=[]:=Tu.mp e
   subst e'
   exact Qy (h [] s.drawn .nil)
 | n+1,[],s,Q,e,h=>absurd e (by simp)
 | n+1,x::xs,s,Q,e,h=>by
   unfold drawOrder
   refine Qw (zXm (by simp) fun i d hi=>?_)
   rw[Qu hi]
   refine Qw (zWt n _ _ (by rw[Ye hi];omega) fun ys d' hp=>Qy (h _ d' ?_))
   exact(List.Perm.cons _ hp).trans (kY _ _ hi)
theorem zW6 {α:Type}(f:Nat->Nat):∀(n k:Nat) (xs:List α) (out:Array α),xs.length=n->(pickOrder.go f n k xs out).toList.Perm (out.toList++xs)
 | 0,k,xs,out,e=>by
   have e':xs=[]:=Tu.mp e
   subst e'
   simp[pickOrder.go]
 | n+1,k,xs,out,e=>by
   unfold pickOrder.go
   have hi:f k % xs.length < xs.length:=Nat.mod_lt _ (by omega)
   rw[Qu hi]
   refine(zW6 f n (k+1) _ _ (by rw[Ye hi];omega)).trans ?_
   rw[Array.toList_push,Td]
   exact .append_left _ (kY _ _ hi)
theorem zVc {α:Type}(f:Nat->Nat)(xs:Array α):(pickOrder f xs).toList.Perm xs.toList:=by
 have:=zW6 f xs.size 0 xs.toList #[] (by simp)
 simpa [pickOrder] using this
end
abbrev siO (f:Value)(i:Nat)(S n ep:Nat):Obj:={ cls:=.type "set_iterator",dict:=none,data:=.fields #[f,rawInt i,.ref S,rawInt n,rawInt ep],slots:=#[] }
abbrev stO (es:Array (Int×Value))(ep:Nat)(t:SetTable):Obj:={ cls:=.type "set",dict:=none,data:=.set es ep t,slots:=#[] }
def zVg (w:World)(es:Array (Int×Value))(ep:Nat)(t:SetTable)(S T:Addr)(pl:List Nat)(L:List Value)(h:Heap)(i:Nat)(f:Value):Prop :=
 (w.params.followText "set-order"=true/\(∃j:Nat,f=rawInt j)/\L=(pickOrder (w.params.setOrder S ep) es).toList.map (·.2)) ∨
 (w.params.followText "set-order"=false/\(t.plain=true∨es.size<=1)/\cS t.place/\(∃q:Nat,f=rawInt q/\SetTable.below t.place q=i)/\L=es.toList.map (·.2)) ∨
 (w.params.followText "set-order"=false/\f = .ref T/\(∃n,h.get? T=some { cls:=.type "tuple",dict:=none,data:=.seq (pl.map fun(i:Nat)=>rawInt i).toArray n,slots:=#[] })/\(∀p∈pl,p < es.size)/\L=pl.map fun p=>(es.getD p (0,.none)).2)
section
variable {P:Program} {w:World} {A:Around} {E:Value->Shared->Prop} {s:Shared}
theorem zP4 {S:Addr}{es:Array (Int×Value)}{ep:Nat}{t:SetTable}{j i:Nat}{R:Option (Value×Nat)->Shared->Prop}(ho:s.heap.get? S=some (stO es ep t))(hf:t.fits es.size=true)(hb:w.params.followText "set-order"=true)
   (h:R ((((pickOrder (w.params.setOrder S ep) es).toList.map (·.2))[i]?).map fun v=>(v,j)) s):wpAny (model P w) A (setNext S j i ep) R E s:=by
 unfold setNext setsByText
 refine Qw (Rh ho rfl hf (Qw (Qw (Rb (Qy ?_)))))
 change wpAny _ _ (if w.params.followText "set-order"=true then _ else _) _ _ _
 rw[hb]
 simp only[Tg,Wa,↓reduceIte]
 refine Qw ?_
 unfold setWalk setsByText
 refine Qw (Rh ho rfl hf (Qw (Qw (Rb (Qy ?_)))))
 change wpAny _ _ (if w.params.followText "set-order"=true then _ else _) _ _ _
 rw[hb]
 simp only[↓reduceIte]
 refine Qw (Rb (Qy (Qy ?_)))
 rw[Wt,Th,Option.map_map] at h
 exact h
theorem zPv {S:Addr}{es:Array (Int×Value)}{ep:Nat}{t:SetTable}{q i:Nat}{R:Option (Value×Nat)->Shared->Prop}(ho:s.heap.get? S=some (stO es ep t))(hf:t.fits es.size=true)(hb:w.params.followText "set-order"=false)(hl:t.led=true)
   (hp:t.plain=true∨es.size<=1) (hq:SetTable.below t.place q=i) (h:R (match es[i]?,t.place[i]? with | some (_,x),some j=>some (x,j+1) | _,_=>none) s):wpAny (model P w) A (setNext S q i ep) R E s:=by
 unfold setNext setsByText
 refine Qw (Rh ho rfl hf (Qw (Qw (Rb (Qy ?_)))))
 change wpAny _ _ (if w.params.followText "set-order"=true then _ else _) _ _ _
 rw[hb]
 have e1:(!t.plain&&decide (es.size > 1))=false:=by
   rcases hp with z | z
   · simp[z]
   · simp[Nat.not_lt.mpr z]
 change wpAny _ _ (if (!t.plain&&decide (es.size > 1))=true then _ else _) _ _ _
 rw[e1]
 simp only[Wa,↓reduceIte]
 change wpAny _ _ ((if (!t.led && !es.isEmpty)=true then _ else _) >>= _) _ _ _
 rw[hl]
 simp only[Bool.not_true,Ic,Wa,↓reduceIte]
 refine Qw (Qy (Qy ?_))
 rw[hq]
 exact h
theorem zTm {Q:Fin->Shared->Prop}(hh:A.handled=none)(h:∀h' e,(∀c o,s.heap.get? c=some o->h'.get? c=some o)->(∃o,h'.get? e=some o/\o.cls = .type "StopIteration")->E (.ref e) { s with heap:=h' }) :
   wpAny (model P w) A (newExc (.type "StopIteration") [] >>= raiseNew) Q E s:=by
 refine Qw ?_
 simp only[newExc,newTuple]
 refine Qw (Wf ?_ (by size_fits))
 refine Qw (m:=firstArgMember _ _) (wpAny_of_eq (a:=Value.none) (by first | rfl | (simp only[firstArgMember];rfl)) ?_)
 refine Wf ?_ (by size_fits)
 simp only[raiseNew]
 refine Qw (wpAny_handled ?_)
 rw[hh]
 exact Qw (Qy (wpAny_throw (h _ _ (fun c o e=>Qr _ (Qr _ e)) ⟨_,Qp _ rfl,rfl⟩)))
theorem zU8 {xs:Array Nat}(h:cS xs){i:Nat}(hi:i < xs.size):SetTable.below xs (xs[i]+1)=i+1:=by
 obtain⟨b1,b2,b3⟩:=eM h (xs[i]+1)
 rcases Nat.lt_trichotomy (SetTable.below xs (xs[i]+1)) (i+1) with z | z | z
 · have:=b3 i hi (by omega)
   omega
 · exact z
 · have q:i+1 < xs.size:=by omega
   have:=b2 (i+1) q z
   have:=h i (i+1) hi q (Rx _)
   omega
theorem zXC {xs:Array Nat}(h:cS xs):SetTable.below xs 0=0:=by
 obtain⟨b1,b2,b3⟩:=eM h 0
 rcases Nat.eq_zero_or_pos (SetTable.below xs 0) with z | z
 · exact z
 · exact absurd (b2 0 (by omega) z) (Yq _)
theorem zY6 {I S T:Addr}{es:Array (Int×Value)}{ep:Nat}{t:SetTable}{pl:List Nat}{L:List Value}{i:Nat}{f:Value}{Q:Option Value->Shared->Prop}(hh:A.handled=none)
   (ho:s.heap.get? S=some (stO es ep t)) (hI:s.heap.get? I=some (siO f i S es.size ep)) (hf:t.fits es.size=true) (ht:Tb (w.params.followText "set-order") t) (hw:zVg w es ep t S T pl L s.heap i f)
   (h:∀v f' h',L[i]?=some v->Heap.SameBut I s.heap h'->h'.get? I=some (siO f' (i+1) S es.size ep)->zVg w es ep t S T pl L s.heap (i+1) f'->Q (some v) { s with heap:=h' })
   (hE:∀h',L[i]?=none->(∀c o,c≠I->s.heap.get? c=some o->h'.get? c=some o)->Q none { s with heap:=h' }):wpAny (model P w) A (pyNext (.ref I)) Q E s:=by
 have hT:s.TypeIs (.ref I) "set_iterator":=⟨_,hI,rfl⟩
 have hz:t.place.size=es.size:=by
   simp only[SetTable.fits,Qh,Yf] at hf
   exact hf.1
 have stop:∀ {h':Heap} {Q':Fin->Shared->Prop},L[i]?=none->Heap.SameBut I s.heap h'->wpAny (model P w) A.in1 (newExc (.type "StopIteration") [] >>= raiseNew) Q' (fun e s'=>wpAny (model P w) A (do if ←isInstance e (.type "StopIteration") then pure none else throw e) Q E s') { s with heap:=h' }:=fun hn q =>
   zTm (by simp[hh]) fun h'' e k ⟨o,e1,e2⟩=>Qw (Yx (T:="StopIteration") (b:=true) ⟨o,e1,e2⟩ isSubtype_stop (Qy (hE _ hn fun c u hc z=>k c u ((q.2 c hc).trans z))))
 unfold pyNext
 refine Qw (wpAny_attempt (Ey (name:=Str.ofString "__next__") hT uX (Ei uX hT cV ?_ (zZl _))))
 unfold Builtin.«set_iterator.__next__» slotArgs
 simp only[List.isEmpty_nil,Bool.not_true,Wa,↓reduceIte,bind_assoc,Ed,Tg]
 refine Qw (Qy (Qw (wpAny_fieldsOf hI rfl ?_)))
 change wpAny _ _ (setEntries S >>= _) _ _ _
 refine Qw (wpAny_setEntries_of ho rfl hf ?_)
 simp only[Tg,Wa,↓reduceIte]
 rcases hw with⟨hb,⟨j,rfl⟩,hL⟩ | ⟨hb,hp,hr,⟨q,rfl,hq⟩,hL⟩ | ⟨hb,rfl,⟨nt,hTt⟩,hr,hL⟩
 · change wpAny _ _ (setNext S (Int.toNat (j:Int)) (Int.toNat (i:Int)) (Int.toNat (ep:Int)) >>= _) _ _ _
   simp only[Wb]
   refine Qw (zP4 ho hf hb ?_)
   rw[←hL]
   cases hv:L[i]? with
   | none=>exact Qw (Wy hI (by simp) fun h' _ q=>stop hv q)
   | some v =>
     refine Qw (Wy hI (by simp) fun g1 z1 q1=>Qw (Wy z1 (by simp) fun g2 z2 q2=>Qy ⟨_,rfl,Qy (h v _ _ hv (q1.trans q2) z2 (.inl ⟨hb,⟨j,rfl⟩,hL⟩))⟩))
 · change wpAny _ _ (setNext S (Int.toNat (q:Int)) (Int.toNat (i:Int)) (Int.toNat (ep:Int)) >>= _) _ _ _
   simp only[Wb]
   refine Qw (zPv ho hf hb (by rw[ht.led,hb];rfl) hp hq ?_)
   rcases Uw i es.size with z | z
   · have hv:L[i]?=some es[i].2:=by rw[hL];simp[z]
     rw[Rq z,Rq (hz ▸ z)]
     refine Qw (Wy hI (by simp) fun g1 z1 q1=>Qw (Wy z1 (by simp) fun g2 z2 q2=>Qy ⟨_,rfl,Qy (h _ _ _ hv (q1.trans q2) z2 (.inr (.inl ⟨hb,hp,hr,⟨_,rfl,zU8 hr (hz ▸ z)⟩,hL⟩)))⟩))
   · have hv:L[i]?=none:=by rw[hL];simp[z]
     rw[Array.getElem?_eq_none z]
     exact Qw (Wy hI (by simp) fun h' _ q=>stop hv q)
 · change wpAny _ _ (seqItems? (.ref T) >>= _) _ _ _
   refine Qw (Ex hTt rfl ?_)
   simp only[Wb]
   cases hv:pl[i]? with
   | none =>
     have e:(pl.map fun(i:Nat)=>rawInt i).toArray[i]?=none:=by simpa using hv
     rw[e]
     exact Qw (Wy hI (by simp) fun g1 z1 q1=>Qw (Wy z1 (by simp) fun g2 _ q2=>stop (by rw[hL,Wt,hv];rfl) (q1.trans q2)))
   | some p =>
     have e:(pl.map fun(i:Nat)=>rawInt i).toArray[i]?=some (rawInt p):=by simp[hv]
     have hp:p < es.size:=hr p (Ej hv)
     rw[e]
     change wpAny _ _ (setNextDrawn S (Int.toNat (p:Int)) (Int.toNat (ep:Int)) >>= _) _ _ _
     simp only[Wb]
     refine Qw ?_
     unfold setNextDrawn
     refine Qw (Rh ho rfl hf ?_)
     simp only[Tg,Wa,↓reduceIte]
     rw[Rq hp]
     refine Qy (Qw (Wy hI (by simp) fun g2 z2 q2=>Qy ⟨_,rfl,Qy (h _ _ _ ?_ q2 z2 (.inr (.inr ⟨hb,rfl,⟨nt,hTt⟩,hr,hL⟩)))⟩))
     rw[hL,Wt,hv]
     simp[Array.getD,hp]
theorem kE:Slot "set_iterator" "__iter__" "set_iterator.__iter__" :=
 .of (owner:="set_iterator") (n:="__iter__") (by rw[Ti,Em];kernel_rfl) (by decide +kernel) (by decide +kernel) (by decide +kernel)
   (by first | exact .inl (by decide +kernel) | exact .inr (by decide +kernel)) (by rw[Oq];kernel_rfl)
theorem aF (a:Value):argsOk "set_iterator.__iter__" ⟨[a],[]⟩:=by
 unfold argsOk
 rw[signature?_of (id:="set_iterator.__iter__") (n:="__iter__".toList.reverse) (o:="set_iterator".toList.reverse) (rows:=Manifest.sig_set_iterator) (by kernel_rfl) (by kernel_rfl)]
 kernel_rfl
theorem cA:entryFor table "set_iterator.__iter__"=some Builtin.«dict_keyiterator.__iter__» := entryFor_alias (id':="dict_keyiterator.__iter__") (by kernel_rfl) rfl (by decide +kernel) (by kernel_rfl)
theorem zTr {S:Addr}{es:Array (Int×Value)}{ep:Nat}{t:SetTable}{Q:Value->Shared->Prop}
   (ho:s.heap.get? S=some (stO es ep t)) (hf:t.fits es.size=true) (ht:Tb (w.params.followText "set-order") t) (hz:es.size<=1000)
   (h:∀I T pl L f h' d,(∀c o,s.heap.get? c=some o->h'.get? c=some o)->s.heap.objs.size<=I->T≠I->(T=S∨s.heap.objs.size<=T)->h'.get? I=some (siO f 0 S es.size ep)->zVg w es ep t S T pl L h' 0 f->L.Perm (es.toList.map (·.2))->Q (.ref I) { s with heap:=h',drawn:=d }) :
   wpAny (model P w) A (pyIter (.ref S)) Q E s:=by
 have hT:s.TypeIs (.ref S) "set":=⟨_,ho,rfl⟩
 have lS:S < s.heap.objs.size:=Qs ho
 refine wpAny_pyIter_slot hT F.slot_set_iter (Ei F.slot_set_iter hT fX ?_ (F.args_set_iter_1 _))
 unfold Builtin.«frozenset.__iter__» Builtin.Frozenset.slot0 slotArgs
 simp only[List.isEmpty_nil,Bool.not_true,Wa,↓reduceIte,bind_assoc,Ed,Tg]
 unfold Builtin.Frozenset.addrOf Builtin.Frozenset.sizeOf
 refine Qw (Qy ?_)
 dsimp only
 refine Qw (Qy (Qw (Qw (wpAny_setEntries_of ho rfl hf (Qy ?_)))))
 refine Qw ?_
 unfold setDrawn setsByText
 refine Qw (Rh ho rfl hf (Qw (Qw (Rb (Qy (Qy ?_))))))
 change wpAny _ _ (if (!w.params.followText "set-order"&&(!t.plain&&decide (es.size > 1)))=true then _ else _) _ _ _
 have hpl:(t.plain=true∨es.size<=1)->cS t.place:=fun q=>by
   by_cases c:t.plain=true
   · exact ht.up c
   · have hs:t.place.size=es.size:=by
       simp only[SetTable.fits,Qh,Yf] at hf
       exact hf.1
     rcases q with q | q
     · exact absurd q c
     · exact fun i j p q' l=>by omega
 split
 · rename_i hc
   simp only[Qh,Bool.not_eq_true',Qz] at hc
   refine Qw (zWt es.size (List.range es.size) s (by simp) fun pl d hp=>Qw (wpAny_newTuple ?_ (by rw[Qo,hp.length_eq,Uj];exact Wz (vH (by show es.size<=100000;omega)))))
   have ho1:(s.heap.push { cls:=.type "tuple",data:=.seq (pl.map fun(i:Nat)=>rawInt i).toArray }).get? S=some (stO es ep t):=Qr _ ho
   refine Qw (wpAny_setEpoch_of (s:={ s with drawn:=d,heap:=s.heap.push { cls:=.type "tuple",data:=.seq (pl.map fun(i:Nat)=>rawInt i).toArray } }) ho1 rfl hf (Qw (Wf (Qy ⟨_,rfl,"set_iterator",_,⟨_,Qp _ rfl,rfl⟩,uX.lookup,?_⟩))))
   have hr:∀p∈pl,p < es.size:=fun p q=>Rj.mp (hp.mem_iff.mp q)
   refine h _ s.heap.objs.size pl _ (.ref s.heap.objs.size) _ d (fun c o e=>Qr _ (Qr _ e)) (by rw[Wg];exact Ta _) (by rw[Wg];exact Qv (Rx _)) (.inr (Qf _)) (Qp _ rfl) (.inr (.inr ⟨hc.1,rfl,⟨_,Qr _ (Qp _ rfl)⟩,hr,rfl⟩)) ?_
   refine(hp.map _).trans ?_
   have e:(List.range es.size).map (fun p=>(es.getD p (0,Value.none)).2)=es.toList.map (·.2):=by
     apply Rv
     · simp
     · intro i p q
       simp at p
       simp[Array.getD,p]
   rw[e]
 · rename_i hc
   refine Qw (Qy (Qw (wpAny_setEpoch_of ho rfl hf (Qw (Wf (Qy ⟨_,rfl,"set_iterator",_,⟨_,Qp _ rfl,rfl⟩,uX.lookup,?_⟩))))))
   have go:∀L,zVg w es ep t S S [] L (s.heap.push (siO (rawInt 0) 0 S es.size ep)) 0 (rawInt 0)->L.Perm (es.toList.map (·.2))->Q (.ref s.heap.objs.size) { s with heap:=s.heap.push (siO (rawInt 0) 0 S es.size ep) }:=fun L x y =>
     h _ S [] L (rawInt 0) _ s.drawn (fun c o e=>Qr _ e) (Qf _) (Qv lS) (.inl rfl) (Qp _ rfl) x y
   cases hb:w.params.followText "set-order" with
   | true=>exact go _ (.inl ⟨hb,⟨0,rfl⟩,rfl⟩) ((zVc _ _).map _)
   | false =>
     have hp:t.plain=true∨es.size<=1:=by
       rw[hb] at hc
       cases hq:t.plain with
       | true=>exact .inl rfl
       | false=>simp[hq] at hc;exact .inr hc
     exact go _ (.inr (.inl ⟨hb,hp,hpl hp,⟨0,rfl,zXC (hpl hp)⟩,rfl⟩)) (.refl _)
theorem zTV {α:Type}{c:Prop}[Decidable c]{a b:Sem α}{Q:α->Shared->Prop}(hc:c)(h:wpAny (model P w) A a Q E s):wpAny (model P w) A (if c then a else b) Q E s:=by rw[Qc hc];exact h
theorem zRM {α:Type}{c:Prop}[Decidable c]{a b:Sem α}{Q:α->Shared->Prop}(hc:¬c)(h:wpAny (model P w) A b Q E s):wpAny (model P w) A (if c then a else b) Q E s:=by rw[Wd hc];exact h
theorem zTD (hh:A.handled=none){I S T:Addr}{es:Array (Int×Value)}{ep:Nat}{t:SetTable}{pl:List Nat}{L:List Value}(hf:t.fits es.size=true)(ht:Tb (w.params.followText "set-order") t)(nS:S≠I)(nT:T≠I) :
   WalksS P w A I [I,S,T] [I] (fun a b=>b=a) L.length (fun i v=>L[i]?=some v) (fun i s=>s.heap.get? S=some (stO es ep t)/\∃f,s.heap.get? I=some (siO f i S es.size ep)/\zVg w es ep t S T pl L s.heap i f) where
 sub:=fun b q=>by simp at q;simp[q]
 grefl:=fun _=>rfl
 gtrans:=fun _ _ _ h1 h2=>h2.trans h1
 frame:=fun i s h' tk ⟨h1,f,h2,h3⟩ _ k=>⟨k S (by simp) _ h1,f,k I (by simp) _ h2,by
   rcases h3 with z | z | ⟨z1,z2,⟨n,z3⟩,z4⟩
   · exact .inl z
   · exact .inr (.inl z)
   · exact .inr (.inr ⟨z1,z2,⟨n,k T (by simp) _ z3⟩,z4⟩)⟩
 item:=fun i s Q E hi ⟨h1,f,h2,h3⟩ hQ=>zY6 hh h1 h2 hf ht h3 (fun v f' h' e q z x=>hQ v _ e ⟨(q.2 S nS).trans h1,f',z,by
   rcases x with z | z | ⟨z1,z2,⟨n,z3⟩,z4⟩
   · exact .inl z
   · exact .inr (.inl z)
   · exact .inr (.inr ⟨z1,z2,⟨n,(q.2 T nT).trans z3⟩,z4⟩)⟩ ⟨fun b o hb e=>(q.2 b (by simpa using hb)).trans e,rfl,rfl,rfl,Qf _⟩) fun h' e=>absurd e (by simp;omega)
 done:=fun s Q E ⟨h1,f,h2,h3⟩ hQ=>zY6 hh h1 h2 hf ht h3 (fun v f' h' e=>absurd e (by simp)) fun h' _ k=>hQ _ ⟨fun b o hb e=>k b o (by simpa using hb) e,rfl,rfl,rfl,Qf _⟩
 self:=fun i s Q E ⟨h1,f,h2,h3⟩ hQ=>by
   have hT:s.TypeIs (.ref I) "set_iterator":=⟨_,h2,rfl⟩
   refine wpAny_pyIter_slot hT kE (Ei kE hT cA ?_ (aF _))
   exact Qy ⟨_,rfl,"set_iterator",_,hT,uX.lookup,hQ⟩
theorem zYe {S:Addr}{ns:List Int}{Q:List Value->Shared->Prop}(hh:A.handled=none)(hS:SetS P w s.heap S ns)(hz:ns.length<=1000)
   (h:∀acc ms s',IntsAre acc ms->ms.Perm ns->s'.gens=s.gens->s'.os=s.os->s.toks<=s'.toks->(∀c o,s.heap.get? c=some o->s'.heap.get? c=some o)->Q acc s'):wpAny (model P w) A (collect (.ref S)) Q E s:=by
 obtain⟨es,ep,t,ho,he,hp,hf,ht⟩:=hS
 have hn:es.size=ns.length:=by have:=hp.length_eq;simpa using this
 have lS:S < s.heap.objs.size:=Qs ho
 unfold collect
 refine Qw (wpAny_runValue (Ru F.entry_proto_collect ?_))
 rw[Ek F.plain_proto_collect _]
 change wpAny _ A.in1 (newList [] >>= fun l=>again (.builtin "list.__iadd__" ⟨[l,.ref S],[]⟩)) _ _ s
 refine Qw (Wf (Qy ⟨Tt F.plain_list_iadd _,Ru F.entry_list_iadd ?_⟩))
 rw[Ek F.plain_list_iadd _]
 change wpAny _ A.in1 (Builtin.List.listExtendWith (.ref s.heap.objs.size) (.ref S) (.ref s.heap.objs.size)) _ _ _
 have ho1:(s.heap.push { cls:=.type "list",data:=.seq ([]:List Value).toArray }).get? S=some (stO es ep t):=Qr _ ho
 have hL1:(s.heap.push { cls:=.type "list",data:=.seq ([]:List Value).toArray }).get? s.heap.objs.size=some { cls:=.type "list",data:=.seq ([]:List Value).toArray }:=Qp _ rfl
 unfold Builtin.List.listExtendWith
 refine Qw (Yi (T:="set") ⟨_,ho1,rfl⟩ ?_)
 have h1:Builtin.List.listSameRef (.ref s.heap.objs.size) (.ref S)=false:=by simp[Builtin.List.listSameRef];exact Rm lS
 have h2:(Value.type "set"==Value.type "list")=false:=by decide
 have h3:(Value.type "set"==Value.type "tuple")=false:=by decide
 simp only[h1,h2,h3,Bool.or_false,Wa,Yu]
 refine Qw (zTr (s:={ s with heap:=s.heap.push { cls:=.type "list",data:=.seq ([]:List Value).toArray } }) ho1 hf ht (by omega) fun I T pl L f h' d k lI nT lT hI hw hL=>?_)
 refine Qw (El ?_)
 unfold Builtin.List.listLengthHint
 have ho2:=k _ _ ho1
 have hL2:=k _ _ hL1
 refine Qw (Ia (T:="set") ⟨_,ho2,rfl⟩ F.slot_set_len.lookup ?_)
 have e1:splitId "set.__len__"=some ("set","__len__"):=by kernel_rfl
 dsimp only
 rw[e1]
 dsimp only
 refine Qw (Yx (T:="set") (b:=true) ⟨_,ho2,rfl⟩ sub_set_self ?_)
 refine zRM (by decide) (zTV (by kernel_rfl) (Qw (Yi (T:="set") ⟨_,ho2,rfl⟩ (Qy (zTV (by kernel_rfl) (Qw (Yj (Qw ?_))))))))
 change wpAny _ A.in1 (updateSeq s.heap.objs.size (·.push .none) >>= fun _=>updateSeq s.heap.objs.size (·.pop)) _ _ _
 refine Qw (Ig hL2 rfl ?_)
 have hL3:=En (Obj.mapSeq (·.push Value.none)) hL2 rfl
 refine Ig hL3 rfl ?_
 have hL4:=En (Obj.mapSeq (·.pop)) hL3 rfl
 have oth:∀b o,b≠s.heap.objs.size->h'.get? b=some o->((h'.update s.heap.objs.size (Obj.mapSeq (·.push Value.none))).update s.heap.objs.size (Obj.mapSeq (·.pop))).get? b=some o :=
   fun b o hb e=>(Rp _ _ (Ne.symm hb)).trans ((Rp _ _ (Ne.symm hb)).trans e)
 have lI':s.heap.objs.size < I:=by rw[Wg] at lI;exact lI
 have nTl:T≠s.heap.objs.size:=by
   rcases lT with z | z
   · rw[z];exact Qv lS
   · rw[Wg] at z;exact Rm z
 have hw2:zVg w es ep t S T pl L ((h'.update s.heap.objs.size (Obj.mapSeq (·.push Value.none))).update s.heap.objs.size (Obj.mapSeq (·.pop))) 0 f:=by
   rcases hw with z | z | ⟨z1,z2,⟨n,z3⟩,z4⟩
   · exact .inl z
   · exact .inr (.inl z)
   · exact .inr (.inr ⟨z1,z2,⟨n,oth _ _ nTl z3⟩,z4⟩)
 have nf:s.heap.objs.size∉[I,S,T]:=by
   simp only[Qk,We,Rw,not_or]
   exact⟨Qv lI',Rm lS,Ne.symm nTl⟩
 have lL:L.length=ns.length:=by rw[hL.length_eq,Qo,Tc,hn]
 refine Qy ⟨Tt F.plain_extend_loop _,codeAny_extend_loopS (zTD (by simp[hh]) hf ht (Qv (Uv lS lI')) nT) (by rw[lL];exact Wz (vH (by show ns.length<=100000;omega))) _ nf _ L.length 0 _ _ _ rfl (Ri _) ⟨oth _ _ (Qv lS) ho2,f,oth _ _ (Rm lI') hI,hw2⟩ hL4 (ItemsOf.nil _) fun s' acc c m hg it=>?_⟩
 change wpAny _ A (load s.heap.objs.size >>= _) _ _ s'
 refine Qw (wpAny_load hg (Qy ?_))
 have ea:acc.toList=L:=by
   apply List.ext_getElem?
   intro i
   rcases Uw i acc.size with z | z
   · rw[Th,Rq z]
     exact(it.2 i _ (Rq z)).symm
   · rw[List.getElem?_eq_none (by simpa using z),List.getElem?_eq_none (by rw[←it.1];exact z)]
 have hi:∀v∈acc.toList,∃tk,v = .int (zZe v) tk:=fun v q=>by
   rw[ea] at q
   obtain⟨e,e1,e2⟩:=Wc.mp (hL.mem_iff.mp q)
   obtain⟨k',tk,e3,_⟩:=zYG he e1
   exact⟨tk,by rw[←e2,e3];rfl⟩
 have ia:∀l:List Value,(∀v∈l,∃tk,v = .int (zZe v) tk)->IntsAre l (l.map zZe):=fun l=>by
   induction l with
   | nil=>exact fun _=>.nil
   | cons v r ih =>
     intro q
     obtain⟨tk,e⟩:=q v (.head _)
     rw[Qb]
     conv=>lhs;rw[e]
     exact .cons _ _ (ih fun x hx=>q x (.tail _ hx))
 refine h acc.toList _ s' (ia _ hi) ?_ m.gens m.os m.toks fun c o e=>?_
 · rw[ea]
   refine(hL.map zZe).trans ?_
   rw[Tj]
   exact hp
 · have nc:c≠s.heap.objs.size:=Qv (Qs e)
   refine m.heap c o ?_ (oth _ _ nc (k _ _ (Qr _ e)))
   simp only[Qk,We,Rw,not_or]
   exact⟨nc,Qv (Uv (Qs e) lI')⟩
theorem zXD {S:Addr}{ns:List Int}{Q:Value->Shared->Prop}(hh:A.handled=none)(hS:SetS P w s.heap S ns)(h64:ns.length < 64)
   (h:∀(s1:Shared) (h':Heap) (out:List Value) (n:Nat),IntsAre out (vT ns)->s1.gens=s.gens->s1.os=s.os->(∀c o,s.heap.get? c=some o->s1.heap.get? c=some o)->(∀c o,s1.heap.get? c=some o->h'.get? c=some o)->h'.get? s1.heap.objs.size=some (seqObj "list" out.toArray n)->Q (.ref s1.heap.objs.size) { s1 with heap:=h' }) :
   wpAny (model P w) A (call (.builtin "sorted") [.ref S]) Q E s:=by
 refine Calls.call_function_entry kind_sorted plain_sorted entry_sorted (args_sorted1 _) ?_
 unfold Builtin.«sorted»
 refine Qw (m:=checkCount "sorted" 1 1 _) (Qy (Qw (zYe (by simp[hh]) hS (by omega) fun acc ms s1 hi hp hg hos ht k=>?_)))
 have hl:acc.length=ns.length:=by rw[IntsAre.length hi,hp.length_eq]
 refine Qw (wpAny_newList ?_ (by rw[sizeLine_eq];omega))
 have hoL:(s1.heap.push (seqObj "list" acc.toArray 0)).get? s1.heap.objs.size=some (seqObj "list" acc.toArray 0):=Qp _ rfl
 refine Qw (El (Ei slot_list_sort ⟨_,hoL,rfl⟩ entry_list_sort (list_sort_tree (s:={ s1 with heap:=s1.heap.push (seqObj "list" acc.toArray 0) }) hoL hi (by omega) fun out ms' a1 a2 a3=>⟨_,rfl,?_⟩) (args_list_sort _)))
 have e:ms'=vT ns:=kW ((a2.trans hp).trans (wR ns).symm) a3 (uY ns)
 subst e
 obtain⟨n,hn⟩:=sortedHeap_at (out:=out) hoL
 refine Qy ⟨_,rfl,h s1 _ out.toList n a1 hg hos k (fun c o z=>?_) (by simpa using hn)⟩
 have lt:c < s1.heap.objs.size:=Qs z
 exact(sortedHeap_old (Qv lt) (by rw[Wg];exact Uk lt)).trans (Qr _ z)
end
theorem Inv.later {X:Cx}{pins:List (Addr×Obj)}{σ:St}{H:Hp}{s s':Shared}(I:Inv X pins σ H s)(hg:s'.gens=s.gens)(ho:s'.os=s.os)(k:∀c o,s.heap.get? c=some o->s'.heap.get? c=some o):Inv X pins σ H s':=by
 have J:Inv X pins σ H { s with heap:=s'.heap,toks:=s'.toks }:=I.kept (t':=s'.toks) k
 exact⟨J.ok,ho.trans J.os,by rw[hg];exact J.bare,J.base,J.loc,J.cell,J.free,J.freeC,J.pin,J.hok,J.len⟩
section
variable {X:Cx} {a:Expr} {ga:Lf} {pos p p2:Pos}
def pS (g:Lf):Lf:=fun ρ=>(g ρ).bind fun ds=>(lG ds).bind fun ns=>if ns.Nodup/\ns.length < 64 then some ((vT ns).map .int) else none
theorem zXd {pos':Pos}(hc:X.calm=true)(hg:Gl X "sorted")(hm:X.mg "sorted"=none)(hg':Gl X "set")(hm':X.mg "set"=none)(h:bX X a ga)(hs:starEach [a] X.env=[(false,eval a X.env)]:=by rfl)
   (hs3:starEach [Expr.Call (.Name "set" p2) [a] [] pos'] X.env=[(false,eval (.Call (.Name "set" p2) [a] [] pos') X.env)]:=by rfl) :
   PFr X (.Call (.Name "sorted" p) [.Call (.Name "set" p2) [a] [] pos'] [] pos) (pS ga):=by
 intro pins s σ H Q I q
 obtain⟨G0,H0,G,ρ,es,good,hf,kk⟩:=q
 unfold pS at hf
 obtain⟨ds,h1,hf⟩:=Qq.mp hf
 obtain⟨ns,h2,hf⟩:=Qq.mp hf
 split at hf
 · rename_i hd
   cases hf
   have hA:=yM h xT (by rw[hs];rfl) pos' pins s σ H (fun vs H'=>∃l us G',vs=[.ref l]/\Step G H G' H'/\SqL X.K G' l us/\Reps X.K G' ds us) I
     ⟨G0,H0,G,ρ,_,good,h1,fun l us H1 G1 s1 q1 q2=>⟨l,us,G1,rfl,s1,q1,q2⟩⟩
   refine Call_ (pX I hg hm (by rfl) (Ul (rest:=[]) ?_ (by rw[hs3];rfl) (by rfl)))
   rw[hs3]
   refine Ui (Call_ (pX I hg' hm' (by rfl) (Wx (thn hA fun us s1 ⟨vs,H1,I1,r1,l,ws,G1,e1,st1,q1,q2⟩=>?_) (by rw[hs];rfl) (by rfl))))
   subst e1
   obtain⟨u,rfl,ru⟩:=rF r1
   cases ru
   obtain⟨its,rv,p1,hz⟩:=I1.list (st1.sub.seq q1)
   have ew:=mJ h2 q2
   subst ew
   have hi:=dA rv
   refine zVv (I.ok.hd hc) p1.isList (by simpa using hi) hd.1 (by unfold scanBound;omega) fun h' tk x k=>?_
   refine Ud ?_
   refine zXD (s:={ s1 with heap:=h',toks:=tk }) (I.ok.hd hc) x hd.2 fun s2 h'' out n a1 e1 e2 k1 k2 e3=>?_
   have I2:Inv X pins σ H1 s2:=I1.later e1 e2 fun c o z=>k1 c o (k c o (Qs z) z)
   have fr:H1 s2.heap.objs.size=none:=I2.hok.fresh (Qf _)
   have I3:=I2.laid (t':=s2.toks) (h':=h'') (a:=s2.heap.objs.size) (o:=.lst ((vT ns).map V.int)) k2 (Qf _)
     (show ObjOk X.prog X.w _ h'' _ (.lst ((vT ns).map V.int)) from⟨by
       rw[Qo,(wR ns).length_eq]
       exact Wz (vH (by show ns.length<=100000;omega)),out,n,mM a1,by simpa [seqObj] using e3⟩)
   exact⟨.ref _,_,I3,rfl,kk _ _ _ G1 (st1.trans (Step.own st1.sub fr)) (st1.hh.free fr) zE (st1.sub.free fr) (iG _)⟩
 · cases hf
end
theorem zUj (o:Option D):(o.map Out.rt).bind vQ=o:=by cases o<;>rfl
theorem yU {f g:Sf}{ρ ρ':List B}(h:f ρ=some (.nx ρ')):zI f g ρ=g ρ':=by unfold zI;rw[h];rfl
theorem xY {f g:Sf}{ρ ρ':List B}{r:Option D}(h:f ρ=some (.nx ρ'))(k:(g ρ').bind vQ=r):(zI f g ρ).bind vQ=r:=by rw[yU h];exact k
theorem zZX {f g:Sf}{ρ:List B}{d:D}(h:f ρ=some (.rt d)):zI f g ρ=some (.rt d):=by unfold zI;rw[h];rfl
theorem wZ {g:Gf}{body:Sf}{d:D}{r:List D}{ρ ρ1 ρ2:List B}(h1:g d ρ=some ρ1)(h2:body ρ1=some (.nx ρ2)):tM g body (d::r) ρ=tM g body r ρ2:=by
 rw[tM,h1,Qe,h2,Qe]
theorem yQ {f:Ef}{g:Lf}{ρ:List B}{d:D}{ds:List D}(h1:f ρ=some d)(h2:g ρ=some ds):zY f g ρ=some (d::ds):=by unfold zY;rw[h1,h2];rfl
theorem kD {g:Lf}{ρ:List B}{ds:List D}(h:g ρ=some ds):eL g ρ=some (.lst ds):=by unfold eL;rw[h];rfl
theorem kH {n:Nat}{f:List D->Option D}{g:Lf}{ρ:List B}{ds:List D}(h:g ρ=some ds)(hl:ds.length=n):zF n f g ρ=f ds:=by unfold zF;rw[h,Qe,Qc hl]
theorem zTX {c:Str}{ns:List Str}{n:Nat}{f:List D->Option (List D)}{g:Lf}{ρ:List B}{ds xs:List D}(h:g ρ=some ds)(hl:ds.length=n)(hf:f ds=some xs)(hn:ns.length=xs.length):lP c ns n f g ρ=some (.obj c ns xs):=by
 unfold lP;rw[h,Qe,Qc hl,hf,Qe,Qc hn]
theorem fN {g:Gf}{body:Sf}{P:List B->Prop}:∀(ds:List D),(∀d∈ds,∀ρ,P ρ->∃ρ1 ρ2,g d ρ=some ρ1/\body ρ1=some (.nx ρ2)/\P ρ2)->∀ρ,P ρ->∃ρ',tM g body ds ρ=some (.nx ρ')/\P ρ'
 | [],_,ρ,h=>⟨ρ,rfl,h⟩
 | d::r,hs,ρ,h=>by
   obtain⟨ρ1,ρ2,e1,e2,h2⟩:=hs d Qj ρ h
   obtain⟨ρ',e,h'⟩:=fN r (fun d hd=>hs d (Qd _ hd)) ρ2 h2
   exact⟨ρ',by rw[wZ e1 e2];exact e,h'⟩
theorem tP (lo:Int)(n:Nat):(rO lo n).length=n:=by simp[rO]
theorem kJ {elt:Ef}{h:D->D}{rest:List B}:∀(ds:List D) (x0:B) (acc:List D),(∀d∈ds,elt (.fz d::rest)=some (h d))->uE (gN 0) tOK elt ds (x0::rest) acc=some (acc++ds.map h)
 | [],_,acc,_=>by simp[uE]
 | d::r,x0,acc,hh=>by
   unfold uE
   have e1:gN 0 d (x0::rest)=some (.fz d::rest):=rfl
   have e2:tOK (.fz d::rest)=some true:=rfl
   rw[e1,Qe,e2,Qe,Qc rfl,hh d Qj,Qe,kJ r _ _ fun q hq=>hh q (Qd _ hq)]
   simp
theorem gB {α:Type}(p:α->Bool):∀l:List α,zYD (l.map fun c=>.bl (p c))=some (l.map p)
 | []=>rfl
 | x::r=>by rw[Qb,zYD,gB p r];rfl
theorem lB {t:List D}(h:t.length<=100000):okL t=some t:=by
 unfold okL
 rw[Qc h]
theorem zXK {i j:Int}(h1 : -18446744073709551616 < i)(h2:i < 18446744073709551616):zZ5 i j=true:=by
 unfold zZ5;simp only[Tw,Qh,Qz];exact .inl ⟨by omega,by omega⟩
theorem zXo {i j:Int}(h1 : -18446744073709551616 < j)(h2:j < 18446744073709551616):zZ5 i j=true:=by
 unfold zZ5;simp only[Tw,Qh,Qz];exact .inr ⟨by omega,by omega⟩
end L2
namespace My
open PySem L2
abbrev jA:Stmt:=top 27
abbrev nF:Stmt:=top 42
abbrev kP:Stmt:=top 32
abbrev oU:Stmt:=top 31
abbrev rK:Stmt:=top 29
abbrev pG:Stmt:=top 30
abbrev sL:Stmt:=top 28
abbrev sP:Stmt:=top 33
abbrev qG:Stmt:=top 36
abbrev vM:Stmt:=top 34
abbrev nV:Stmt:=top 35
abbrev nN:Stmt:=top 37
abbrev rE:Stmt:=top 38
abbrev rG:Stmt:=top 40
abbrev qC:Stmt:=top 39
abbrev rH:Stmt:=top 41
abbrev tE:Stmt:=top 25
abbrev gH:Stmt:=top 2
abbrev qF:Stmt:=top 8
abbrev mU:Stmt:=top 20
abbrev fK:Stmt:=top 11
abbrev gE:Stmt:=top 3
abbrev kC:Stmt:=top 1
abbrev iZ:Stmt:=top 9
abbrev jF:Stmt:=top 21
abbrev zXn:Stmt:=top 16
abbrev kU:Stmt:=top 19
abbrev rM:Stmt:=top 17
abbrev mW:Stmt:=top 18
abbrev dE:Stmt:=top 4
abbrev oM:Stmt:=top 10
abbrev rN:Stmt:=top 22
abbrev sN:Stmt:=top 24
abbrev oX:Stmt:=top 44
abbrev mL:Stmt:=top 23
abbrev nL:Stmt:=top 45
abbrev oR:Stmt:=top 43
abbrev zTP:Stmt:=top 46
abbrev pM:Stmt:=mK (top 7) 0
abbrev mN:Stmt:=mK (top 6) 0
set_option genInjectivity false
set_option genSizeOf false
set_option genSizeOfSpec false
structure Txt (K:PySem.W.Frag)(mg:Str->Option Value) where
 q0:FnT K mg "_law_mix" jA ["_law_cell","_law_factor"]
 q1:FnT K mg "_law_level" nF ["_law_number_here"]
 q2:FnT K mg "_law_base" kP ["_law_dims"]
 q3:FnT K mg "_law_turn" oU ["_law_number_here","_law_dims"]
 q4:FnT K mg "_law_after" rK ["_law_one","_law_other"]
 q5:FnT K mg "_law_undone" pG ["_law_turn_here"]
 q6:FnT K mg "_law_turned" sL ["_law_turn_here","_law_corner"]
 q7:FnT K mg "_law_joined" sP ["_law_dims","_law_number_here"]
 q8:FnT K mg "_law_altered" qG ["_law_dims","_law_cell"]
 q9:FnT K mg "_law_corners" vM ["_law_dims"]
 q10:FnT K mg "_law_loose" nV ["_law_dims","_law_cell"]
 q11:FnT K mg "_law_drawn" nN ["_law_dims","_law_cell"]
 q12:FnT K mg "_law_curve" rE ["_law_dims","_law_joined_here","_law_parts"]
 q13:FnT K mg "_law_state" rG ["_law_dims"]
 q14:FnT K mg "_law_part_at" qC ["_law_parts","_law_state_here","_law_digit"]
 q15:FnT K mg "_law_place" rH ["_law_parts","_law_dims","_law_level_here","_law_number_here"]
 q16:FnT K mg "places_around" tE ["place"]
 q17:FnT K mg "still" gH ["dims"]
 q18:FnT K mg "first_state" qF ["dims"]
 q19:FnT K mg "digits_of" mU ["number","base","many"]
 q20:FnT K mg "walked" fK ["curve","back","number"]
 q21:FnT K mg "after" gE ["one","other"]
 q22:FnT K mg "turned" kC ["turn","corner"]
 q23:FnT K mg "part_at" iZ ["curve","state","digit"]
 q24:FnT K mg "deeper" jF ["place","corner"]
 q25:FnT K mg "full" zXn ["dims","level"]
 q26:FnT K mg "place_at" kU ["curve","level","number"]
 q27:FnT K mg "has_place" rM ["dims","level","place"]
 q28:FnT K mg "ask_place" mW ["dims","level","place"]
 q29:FnT K mg "undone" dE ["turn"]
 q30:FnT K mg "digit_at" oM ["curve","state","corner"]
 q31:FnT K mg "number_at" rN ["curve","level","place"]
 q32:FnT K mg "neighbours" sN ["curve","level","number"]
 q33:FnT K mg "_law_beside" oX ["_law_place_here","_law_level_here"]
 q34:FnT K mg "next_to" mL ["one","other"]
 q35:FnT K mg "_law_right" nL ["_law_curve_here","_law_parts","_law_level_here","_law_asked"]
 q36:FnT K mg "_law_number" oR ["_law_cell","_law_dims","_law_level_here"]
 q37:FnT K mg "law" zTP ["_law_script"]
 C_Curve:Addr
 fi_Curve:Addr
 fdi_Curve:FuncData
 ca_Curve:ClsAt K "Curve" C_Curve
 cl_Curve:Cls K C_Curve
 mc_Curve:mg "Curve"=some (.ref C_Curve)
 Fi_Curve:Fun K "__init__" "Curve.__init__" pM fi_Curve fdi_Curve
 bi_Curve:Binds K fdi_Curve ["self","name","dims","joined","parts"] []
 mk_Curve:Mk K C_Curve fi_Curve
 n_Curve_dims:NoAttr K C_Curve "dims"
 n_Curve_joined:NoAttr K C_Curve "joined"
 n_Curve_name:NoAttr K C_Curve "name"
 n_Curve_parts:NoAttr K C_Curve "parts"
 C_Part:Addr
 fi_Part:Addr
 fdi_Part:FuncData
 ca_Part:ClsAt K "Part" C_Part
 cl_Part:Cls K C_Part
 mc_Part:mg "Part"=some (.ref C_Part)
 Fi_Part:Fun K "__init__" "Part.__init__" mN fi_Part fdi_Part
 bi_Part:Binds K fdi_Part ["self","corner","turn","back"] []
 mk_Part:Mk K C_Part fi_Part
 n_Part_back:NoAttr K C_Part "back"
 n_Part_corner:NoAttr K C_Part "corner"
 n_Part_turn:NoAttr K C_Part "turn"
 z_abs:mg "abs"=none
 z_all:mg "all"=none
 z_bool:mg "bool"=none
 z_int:mg "int"=none
 z_isinstance:mg "isinstance"=none
 z_len:mg "len"=none
 z_list:mg "list"=none
 z_range:mg "range"=none
 z_reversed:mg "reversed"=none
 z_set:mg "set"=none
 z_sorted:mg "sorted"=none
 z_sum:mg "sum"=none
 z_tuple:mg "tuple"=none
 z_zip:mg "zip"=none
set_option genInjectivity true
set_option genSizeOf true
set_option genSizeOfSpec true
section
seal PySem.Sem.wp
variable {P:Program} {w:World} {K:PySem.W.Frag} {mg:Str->Option Value} {base:Heap}
theorem zVk:FnScope ["self","name","dims","joined","parts"] ["self","name","dims","joined","parts"] (zT pM):=yI (by decide +kernel)
def zT4:Lf:=(zY (eV 1) (zY (eV 2) (zY (eV 3) (zY (eL (mI (eV 4))) zS))))
def jS:List D->Option (List D):=fun ds=>zT4 (fL 5 ds)
theorem zV0 (T:Txt K mg):FnOk P w K mg base CX0 1 T.fi_Curve T.fdi_Curve ["self","name","dims","joined","parts"] (spI K T.C_Curve ["name","dims","joined","parts"] 4 jS) :=
 zWh (k:=0) T.Fi_Curve zVk (by decide +kernel) (by decide) fun cdv A outer s H E hr =>
   (sB T.cl_Curve T.n_Curve_name rfl (Or.inl rfl) (zU 1) (sB T.cl_Curve T.n_Curve_dims rfl (Or.inl rfl) (zU 2) (sB T.cl_Curve T.n_Curve_joined rfl (Or.inl rfl) (zU 3) (sB T.cl_Curve T.n_Curve_parts rfl (Or.inl rfl) (vR (iU rfl T.z_list (zU 4))) zWi))))
theorem zTG:FnScope ["self","corner","turn","back"] ["self","corner","turn","back"] (zT mN):=yI (by decide +kernel)
def zSK:Lf:=(zY (eV 1) (zY (eV 2) (zY (eV 3) zS)))
def kB:List D->Option (List D):=fun ds=>zSK (fL 4 ds)
theorem zU6 (T:Txt K mg):FnOk P w K mg base CX0 1 T.fi_Part T.fdi_Part ["self","corner","turn","back"] (spI K T.C_Part ["corner","turn","back"] 3 kB) :=
 zWh (k:=0) T.Fi_Part zTG (by decide +kernel) (by decide) fun cdv A outer s H E hr =>
   (sB T.cl_Part T.n_Part_corner rfl (Or.inl rfl) (zU 1) (sB T.cl_Part T.n_Part_turn rfl (Or.inl rfl) (zU 2) (sB T.cl_Part T.n_Part_back rfl (Or.inl rfl) (zU 3) zWi)))
theorem dJ:FnScope ["_law_cell","_law_factor","_law_mixed"] ["_law_cell","_law_factor"] (zT jA):=yI (by decide +kernel)
def hW:Sf:=(xQ (vD (xJ (mH (eV 2) (eV 2)) (eC (.int 2147483629))) (eC (.int 3))))
def mR:Sf:=(zI (yY 2 (xJ (mG (mH (eV 0) (eV 1)) (eC (.int 12345))) (eC (.int 2147483647))))
   (hW))
def bJ:Sf :=
   (mR)
def wH:List D->Option D:=fnF 3 bJ
theorem sE (T:Txt K mg):OkT P w base T.q0 1 2 wH :=
 xB (k:=0) T.q0.F dJ fun cdv A outer s H E hr =>
   (zV mR rfl (zN 2 dJ.nd (xW (qU (nW (zU 0) (zU 1)) zX) zX))
     (zR (yX (wQ (xW (nW (zU 2) (zU 2)) zX) zX))))
theorem zZG:FnScope ["_law_number_here"] ["_law_number_here"] (zT nF):=yI (by decide +kernel)
def lM:Sf:=(xQ (xJ (vD (eV 0) (eC (.int 6))) (eC (.int 13))))
def tQ:Sf:=(zI (sIf (eB2 gEq (xJ (eV 0) (eC (.int 6))) (eC (.int 0))) (xQ (xJ (vD (eV 0) (eC (.int 6))) (eC (.int 61)))) tO)
   (lM))
def zYi:Sf :=
   (tQ)
def nE:List D->Option D:=fnF 1 zYi
theorem zZ9 (T:Txt K mg):OkT P w base T.q1 1 1 nE :=
 xB (k:=0) T.q1.F zZG fun cdv A outer s H E hr =>
   (zV tQ rfl (wX (xC uJ (xW (zU 0) zX) zX) (zR (yX (xW (wQ (zU 0) zX) zX))) yB)
     (zR (yX (xW (wQ (zU 0) zX) zX))))
theorem wB:FnScope ["_law_dims","_law_plain","_law_parts"] ["_law_dims"] (zT kP):=yI (by decide +kernel)
def zZx:Sf:=(dU 2 (oE (gM (iL (eV 2)) (yE (zY (zC (zY (zC (zY (eC (.int 1)) (zY (eC (.int 0)) (zY (eC (.int 0)) zS)))) (zY (zC (zY (zC (zY (eC (.int 1)) (zY (eC (.int 1)) zS))) (zY (zC (zY (eC (.int 0)) (zY (eC (.int 1)) zS))) (zY (zC (zY (eC (.int 2)) (zY (eC (.int 0)) zS))) zS)))) zS))) zS)))))
def jL:Sf:=(zI (dU 2 (vC 2 (gM (iL (eV 2)) (yE (zY (zC (zY (zC (zY (eC (.int 1)) (zY (eC (.int 1)) (zY (eC (.int 1)) zS)))) (zY (eV 1) zS))) (zY (zC (zY (zC (zY (eC (.int 1)) (zY (eC (.int 1)) (zY (eC (.int 0)) zS)))) (zY (zC (zY (zC (zY (eC (.int 1)) (zY (eC (.int 1)) zS))) (zY (zC (zY (eC (.int 2)) (zY (eC (.int 0)) zS))) (zY (zC (zY (eC (.int 0)) (zY (eC (.int 1)) zS))) zS)))) zS))) zS))))))
   (zZx))
def kG:Sf:=(zI (dU 2 (vC 2 (gM (iL (eV 2)) (yE (zY (zC (zY (zC (zY (eC (.int 0)) (zY (eC (.int 0)) (zY (eC (.int 1)) zS)))) (zY (zC (zY (zC (zY (eC (.int 1)) (zY (eC (.int 1)) zS))) (zY (zC (zY (eC (.int 2)) (zY (eC (.int 1)) zS))) (zY (zC (zY (eC (.int 0)) (zY (eC (.int 0)) zS))) zS)))) zS))) (zY (zC (zY (zC (zY (eC (.int 1)) (zY (eC (.int 0)) (zY (eC (.int 1)) zS)))) (zY (zC (zY (zC (zY (eC (.int 1)) (zY (eC (.int 0)) zS))) (zY (zC (zY (eC (.int 2)) (zY (eC (.int 1)) zS))) (zY (zC (zY (eC (.int 0)) (zY (eC (.int 1)) zS))) zS)))) zS))) zS))))))
   (jL))
def kA:Sf:=(zI (vC 2 (yE (zY (zC (zY (zC (zY (eC (.int 0)) (zY (eC (.int 0)) (zY (eC (.int 0)) zS)))) (zY (zC (zY (zC (zY (eC (.int 1)) (zY (eC (.int 0)) zS))) (zY (zC (zY (eC (.int 0)) (zY (eC (.int 0)) zS))) (zY (zC (zY (eC (.int 2)) (zY (eC (.int 0)) zS))) zS)))) zS))) (zY (zC (zY (zC (zY (eC (.int 0)) (zY (eC (.int 1)) (zY (eC (.int 0)) zS)))) (zY (zC (zY (zC (zY (eC (.int 1)) (zY (eC (.int 0)) zS))) (zY (zC (zY (eC (.int 2)) (zY (eC (.int 0)) zS))) (zY (zC (zY (eC (.int 0)) (zY (eC (.int 0)) zS))) zS)))) zS))) (zY (zC (zY (zC (zY (eC (.int 0)) (zY (eC (.int 1)) (zY (eC (.int 1)) zS)))) (zY (eV 1) zS))) zS)))))
   (kG))
def jO:Sf:=(zI (yY 1 (zC (zY (zC (zY (eC (.int 0)) (zY (eC (.int 0)) zS))) (zY (zC (zY (eC (.int 1)) (zY (eC (.int 0)) zS))) (zY (zC (zY (eC (.int 2)) (zY (eC (.int 0)) zS))) zS)))))
   (kA))
def jP:Sf:=(zI (sIf (eB2 gEq (eV 0) (eC (.int 2))) (zI (yY 1 (zC (zY (zC (zY (eC (.int 0)) (zY (eC (.int 0)) zS))) (zY (zC (zY (eC (.int 1)) (zY (eC (.int 0)) zS))) zS))))
   (zI (vC 2 (yE (zY (zC (zY (zC (zY (eC (.int 0)) (zY (eC (.int 0)) zS))) (zY (zC (zY (zC (zY (eC (.int 1)) (zY (eC (.int 0)) zS))) (zY (zC (zY (eC (.int 0)) (zY (eC (.int 0)) zS))) zS))) zS))) (zY (zC (zY (zC (zY (eC (.int 0)) (zY (eC (.int 1)) zS))) (zY (eV 1) zS))) (zY (zC (zY (zC (zY (eC (.int 1)) (zY (eC (.int 1)) zS))) (zY (eV 1) zS))) (zY (zC (zY (zC (zY (eC (.int 1)) (zY (eC (.int 0)) zS))) (zY (zC (zY (zC (zY (eC (.int 1)) (zY (eC (.int 1)) zS))) (zY (zC (zY (eC (.int 0)) (zY (eC (.int 1)) zS))) zS))) zS))) zS))))))
   (jM 2))) tO)
   (jO))
def zWX:Sf :=
   (jP)
def kS:List D->Option (List D):=fnL 3 zWX
theorem zY7 (T:Txt K mg):aN P w base T.q2 1 1 kS :=
 pF (k:=0) T.q2.F wB fun cdv A outer s H E hr =>
   (zV jP rfl (wX (xC uJ (zU 0) zX) (vW (zN 1 wB.nd (zP (zZ (zP (zZ zX (zZ zX zW))) (zZ (zP (zZ zX (zZ zX zW))) zW))))
     (vW (wC 2 wB.nd (yP (zZ (zP (zZ (zP (zZ zX (zZ zX zW))) (zZ (zP (zZ (zP (zZ zX (zZ zX zW))) (zZ (zP (zZ zX (zZ zX zW))) zW))) zW))) (zZ (zP (zZ (zP (zZ zX (zZ zX zW))) (zZ (zU 1) zW))) (zZ (zP (zZ (zP (zZ zX (zZ zX zW))) (zZ (zU 1) zW))) (zZ (zP (zZ (zP (zZ zX (zZ zX zW))) (zZ (zP (zZ (zP (zZ zX (zZ zX zW))) (zZ (zP (zZ zX (zZ zX zW))) zW))) zW))) zW))))))
     (zR (oO 2)))) yB)
     (zV jO rfl (zN 1 wB.nd (zP (zZ (zP (zZ zX (zZ zX zW))) (zZ (zP (zZ zX (zZ zX zW))) (zZ (zP (zZ zX (zZ zX zW))) zW)))))
     (zV kA rfl (wC 2 wB.nd (yP (zZ (zP (zZ (zP (zZ zX (zZ zX (zZ zX zW)))) (zZ (zP (zZ (zP (zZ zX (zZ zX zW))) (zZ (zP (zZ zX (zZ zX zW))) (zZ (zP (zZ zX (zZ zX zW))) zW)))) zW))) (zZ (zP (zZ (zP (zZ zX (zZ zX (zZ zX zW)))) (zZ (zP (zZ (zP (zZ zX (zZ zX zW))) (zZ (zP (zZ zX (zZ zX zW))) (zZ (zP (zZ zX (zZ zX zW))) zW)))) zW))) (zZ (zP (zZ (zP (zZ zX (zZ zX (zZ zX zW)))) (zZ (zU 1) zW))) zW)))))
     (zV kG rfl (pY 2 (wC 2 wB.nd (zZm (hV (zU 2)) (zYt (yP (zZ (zP (zZ (zP (zZ zX (zZ zX (zZ zX zW)))) (zZ (zP (zZ (zP (zZ zX (zZ zX zW))) (zZ (zP (zZ zX (zZ zX zW))) (zZ (zP (zZ zX (zZ zX zW))) zW)))) zW))) (zZ (zP (zZ (zP (zZ zX (zZ zX (zZ zX zW)))) (zZ (zP (zZ (zP (zZ zX (zZ zX zW))) (zZ (zP (zZ zX (zZ zX zW))) (zZ (zP (zZ zX (zZ zX zW))) zW)))) zW))) zW)))))))
     (zV jL rfl (pY 2 (wC 2 wB.nd (zZm (hV (zU 2)) (zYt (yP (zZ (zP (zZ (zP (zZ zX (zZ zX (zZ zX zW)))) (zZ (zU 1) zW))) (zZ (zP (zZ (zP (zZ zX (zZ zX (zZ zX zW)))) (zZ (zP (zZ (zP (zZ zX (zZ zX zW))) (zZ (zP (zZ zX (zZ zX zW))) (zZ (zP (zZ zX (zZ zX zW))) zW)))) zW))) zW)))))))
     (zR (pY 2 (jU (zZm (hV (zU 2)) (zYt (yP (zZ (zP (zZ (zP (zZ zX (zZ zX (zZ zX zW)))) (zZ (zP (zZ (zP (zZ zX (zZ zX zW))) (zZ (zP (zZ zX (zZ zX zW))) (zZ (zP (zZ zX (zZ zX zW))) zW)))) zW))) zW))))))))))))
theorem rB:FnScope ["_law_number_here","_law_dims","_law_axes"] ["_law_number_here","_law_dims"] (zT oU):=yI (by decide +kernel)
def uH:Sf:=(xQ (yA (eL (yO (iR (eV 1)) 1 [2,0] (gN 0) tOK (zC (zY (eIx (eV 1) (eV 0)) (zY (xJ (vD (eV 2) (eIx (eL (yE (zY (eC (.int 1)) (zY (eC (.int 2)) (zY (eC (.int 4)) zS))))) (eV 0))) (eC (.int 2))) zS)))))))
def uG:Sf:=(zI (sIf (eB2 gEq (eV 1) (eC (.int 3))) (yY 2 (eIx (eL (yE (zY (eL (yE (zY (eC (.int 0)) (zY (eC (.int 1)) (zY (eC (.int 2)) zS))))) (zY (eL (yE (zY (eC (.int 0)) (zY (eC (.int 2)) (zY (eC (.int 1)) zS))))) (zY (eL (yE (zY (eC (.int 1)) (zY (eC (.int 0)) (zY (eC (.int 2)) zS))))) (zY (eL (yE (zY (eC (.int 1)) (zY (eC (.int 2)) (zY (eC (.int 0)) zS))))) (zY (eL (yE (zY (eC (.int 2)) (zY (eC (.int 0)) (zY (eC (.int 1)) zS))))) (zY (eL (yE (zY (eC (.int 2)) (zY (eC (.int 1)) (zY (eC (.int 0)) zS))))) zS)))))))) (xJ (vD (eV 0) (eC (.int 8))) (eC (.int 6))))) (sIf (eB2 gEq (xJ (vD (eV 0) (eC (.int 8))) (eC (.int 2))) (eC (.int 1))) (yY 2 (eL (yE (zY (eC (.int 1)) (zY (eC (.int 0)) zS))))) tO))
   (uH))
def uM:Sf:=(zI (yY 2 (eL (yE (zY (eC (.int 0)) (zY (eC (.int 1)) zS)))))
   (uG))
def pD:Sf :=
   (uM)
def xS:List D->Option D:=fnF 3 pD
theorem nY (T:Txt K mg):OkT P w base T.q3 1 2 xS :=
 xB (k:=0) T.q3.F rB fun cdv A outer s H E hr =>
   (zV uM rfl (zN 2 rB.nd (vR (yP (zZ zX (zZ zX zW)))))
     (zV uG rfl (wX (xC uJ (zU 1) zX) (zR (zN 2 rB.nd (wK (vR (yP (zZ (vR (yP (zZ zX (zZ zX (zZ zX zW))))) (zZ (vR (yP (zZ zX (zZ zX (zZ zX zW))))) (zZ (vR (yP (zZ zX (zZ zX (zZ zX zW))))) (zZ (vR (yP (zZ zX (zZ zX (zZ zX zW))))) (zZ (vR (yP (zZ zX (zZ zX (zZ zX zW))))) (zZ (vR (yP (zZ zX (zZ zX (zZ zX zW))))) zW)))))))) (xW (wQ (zU 0) zX) zX)))) (zR (wX (xC uJ (xW (wQ (zU 0) zX) zX) zX) (zR (zN 2 rB.nd (vR (yP (zZ zX (zZ zX zW)))))) yB)))
     (zR (yX (xF rfl T.z_tuple (vR (xH (zT oU) ["_law_number_here","_law_dims","_law_axes"] ["_law_k"] ["_law_axes","_law_number_here"] [2,0] (uF 0) (kI rfl T.z_range (zU 1)) rfl rfl rfl (by decide +kernel) (fun _ _ _ _=>(yK 0 (show(List.Nodup (α:=PySem.Str) ["_law_k","_law_axes","_law_number_here"]) from by decide +kernel))) (fun _ _ _ _=>yJ) (fun _ _ _ _=>(zP (zZ (wK (zU 1) (zU 0)) (zZ (xW (wQ (zU 2) (wK (vR (yP (zZ zX (zZ zX (zZ zX zW))))) (zU 0))) zX) zW)))))))))))
theorem aD:FnScope ["_law_one","_law_other"] ["_law_one","_law_other"] (zT rK):=yI (by decide +kernel)
def cD:Sf:=(xQ (yA (eL (yO (iT (eV 0)) 2 [1] (gT (zO (gN 0) (zO (gN 1) yD))) tOK (zC (zY (eIx (eIx (eV 2) (eV 0)) (eC (.int 0))) (zY (zZU (eIx (eIx (eV 2) (eV 0)) (eC (.int 1))) (eV 1)) zS)))))))
def zYw:Sf :=
   (cD)
def xG:List D->Option D:=fnF 2 zYw
theorem w6 (T:Txt K mg):OkT P w base T.q4 1 2 xG :=
 xB (k:=0) T.q4.F aD fun cdv A outer s H E hr =>
   (zR (yX (xF rfl T.z_tuple (vR (xH (zT rK) ["_law_one","_law_other"] ["_law_axis","_law_flip"] ["_law_other"] [1] (zZr (yF (uF 0) (yF (uF 1) sM))) (zXx (zU 0)) rfl rfl rfl (by decide +kernel) (fun _ _ _ _=>(oB 2 rfl (zJ (yK 0 (show(List.Nodup (α:=PySem.Str) ["_law_axis","_law_flip","_law_other"]) from by decide +kernel)) (zJ (yK 1 (show(List.Nodup (α:=PySem.Str) ["_law_axis","_law_flip","_law_other"]) from by decide +kernel)) yC)) (zA (zA xK)))) (fun _ _ _ _=>yJ) (fun _ _ _ _=>(zP (zZ (wK (wK (zU 2) (zU 0)) zX) (zZ (aM (wK (wK (zU 2) (zU 0)) zX) (zU 1)) zW)))))))))
theorem qO:FnScope ["_law_turn_here","_law_back","_law_k"] ["_law_turn_here"] (zT pG):=yI (by decide +kernel)
def gS:Sf:=(lV 1 (eIx (eIx (eV 0) (eV 2)) (eC (.int 0))) (zC (zY (eV 2) (zY (eIx (eIx (eV 0) (eV 2)) (eC (.int 1))) zS))))
def eD:Sf:=(dU 1 (xQ (yA (eV 1))))
def mT:Sf:=(zI (vU (iR (vZ (eV 0))) (gN 2) (gS))
   (eD))
def mQ:Sf:=(zI (vC 1 (zSB (yE (zY (eC .non) zS)) (vZ (eV 0))))
   (mT))
def zZs:Sf :=
   (mQ)
def w4:List D->Option D:=fnF 3 zZs
theorem lU (T:Txt K mg):OkT P w base T.q5 1 1 w4 :=
 xB (k:=0) T.q5.F qO fun cdv A outer s H E hr =>
   (zV mQ rfl (wC 1 qO.nd (zTt (yP (zZ zRi zW)) (uQ rfl T.z_len (zU 0))))
     (zV mT rfl (wY Wi rfl (kI rfl T.z_range (uQ rfl T.z_len (zU 0))) (yK 2 qO.nd) (zR (jY 1 (zP (zZ (zU 2) (zZ (wK (wK (zU 0) (zU 2)) zX) zW))) (wK (wK (zU 0) (zU 2)) zX))))
     (zR (pY 1 (yX (xF rfl T.z_tuple (zU 1)))))))
theorem cX:FnScope ["_law_turn_here","_law_corner"] ["_law_turn_here","_law_corner"] (zT sL):=yI (by decide +kernel)
def dD:Sf:=(xQ (yA (eL (yO (iT (eV 0)) 2 [1] (gT (zO (gN 0) (zO (gN 1) yD))) tOK (zZU (eIx (eV 2) (eV 0)) (eV 1))))))
def zZp:Sf :=
   (dD)
def uZ:List D->Option D:=fnF 2 zZp
theorem lO (T:Txt K mg):OkT P w base T.q6 1 2 uZ :=
 xB (k:=0) T.q6.F cX fun cdv A outer s H E hr =>
   (zR (yX (xF rfl T.z_tuple (vR (xH (zT sL) ["_law_turn_here","_law_corner"] ["_law_axis","_law_flip"] ["_law_corner"] [1] (zZr (yF (uF 0) (yF (uF 1) sM))) (zXx (zU 0)) rfl rfl rfl (by decide +kernel) (fun _ _ _ _=>(oB 2 rfl (zJ (yK 0 (show(List.Nodup (α:=PySem.Str) ["_law_axis","_law_flip","_law_corner"]) from by decide +kernel)) (zJ (yK 1 (show(List.Nodup (α:=PySem.Str) ["_law_axis","_law_flip","_law_corner"]) from by decide +kernel)) yC)) (zA (zA xK)))) (fun _ _ _ _=>yJ) (fun _ _ _ _=>(aM (wK (zU 2) (zU 0)) (zU 1))))))))
theorem yR:FnScope ["_law_dims","_law_number_here","_law_base_here","_law_turn_here","_law_mirror","_law_parts","_law_bits","_law_corner","_law_inner","_law_lies"] ["_law_dims","_law_number_here"] (zT sP):=yI (by decide +kernel)
def gR:Sf:=(yY 6 (vD (eV 6) (eC (.int 2))))
def vK:Sf:=(zI (jZ 5 (zC (zY (zF 2 uZ (zY (eV 3) (zY (eV 7) zS))) (zY (eV 9) (zY (wF (eB2 gEq (xJ (eV 6) (eC (.int 2))) (eC (.int 1)))) zS)))))
   (gR))
def tG:Sf:=(zI (sIf (eB2 gEq (xJ (eV 6) (eC (.int 2))) (eC (.int 1))) (yY 9 (zF 2 xG (zY (eV 9) (zY (eV 4) zS)))) tO)
   (vK))
def xI:Sf:=(zI (yY 9 (zF 2 xG (zY (eV 3) (zY (zF 2 xG (zY (eV 8) (zY (zF 1 w4 (zY (eV 3) zS)) zS))) zS))))
   (tG))
def gC:Sf:=(jM 5)
def rW:Sf:=(zI (vU (iL (eV 2)) (gT (zO (gN 7) (zO (gN 8) yD))) (xI))
   (gC))
def rR:Sf:=(zI (yY 6 (vD (eV 1) (eC (.int 96))))
   (rW))
def sJ:Sf:=(zI (vC 5 (yE zS))
   (rR))
def rZ:Sf:=(zI (yY 4 (zF 2 xG (zY (eV 3) (zY (zF 2 xG (zY (eV 4) (zY (zF 1 w4 (zY (eV 3) zS)) zS))) zS))))
   (sJ))
def uP:Sf:=(zI (yY 4 (yA (eL (yO (iR (eV 0)) 1 [] (gN 0) tOK (zC (zY (eV 0) (zY (zZh (wF (eB2 gEq (eV 0) (eC (.int 0))))) zS)))))))
   (rZ))
def sF:Sf:=(zI (sIf (eB2 gEq (xJ (vD (eV 1) (eC (.int 48))) (eC (.int 2))) (eC (.int 1))) (yY 2 (eL (nD (iL (eV 2))))) tO)
   (uP))
def rP:Sf:=(zI (yY 3 (zF 2 xS (zY (eV 1) (zY (eV 0) zS))))
   (sF))
def uR:Sf:=(zI (yY 2 (eL (wE 1 kS (zY (eV 0) zS))))
   (rP))
def zZu:Sf :=
   (uR)
def vA:List D->Option (List D):=fnL 10 zZu
theorem lH (T:Txt K mg):aN P w base T.q7 2 2 vA :=
 pF (k:=1) T.q7.F yR fun cdv A outer s H E hr =>
   (zV uR rfl (zN 2 yR.nd (vR (cH (zY7 T) hr (zZ (zU 0) zW))))
     (zV rP rfl (zN 3 yR.nd (xR (nY T) hr (zZ (zU 1) (zZ (zU 0) zW))))
     (zV sF rfl (wX (xC uJ (xW (wQ (zU 1) zX) zX) zX) (zR (zN 2 yR.nd (vR (zWW rfl rfl T.z_list rfl T.z_reversed (hV (zU 2)))))) yB)
     (zV uP rfl (zN 4 yR.nd (xF rfl T.z_tuple (vR (xH (zT sP) ["_law_dims","_law_number_here","_law_base_here","_law_turn_here","_law_mirror","_law_parts","_law_bits","_law_corner","_law_inner","_law_lies"] ["_law_axis"] [] [] (uF 0) (kI rfl T.z_range (zU 0)) rfl rfl rfl (by decide +kernel) (fun _ _ _ _=>(yK 0 (show(List.Nodup (α:=PySem.Str) ["_law_axis"]) from by decide +kernel))) (fun _ _ _ _=>yJ) (fun _ _ _ _=>(zP (zZ (zU 0) (zZ (zT5 rfl T.z_int (qA uJ (zU 0) zX)) zW))))))))
     (zV rZ rfl (zN 4 yR.nd (xR (w6 T) hr (zZ (zU 3) (zZ (xR (w6 T) hr (zZ (zU 4) (zZ (xR (lU T) hr (zZ (zU 3) zW)) zW))) zW))))
     (zV sJ rfl (wC 5 yR.nd (yP zW))
     (zV rR rfl (zN 6 yR.nd (wQ (zU 1) zX))
     (zV rW rfl (wY Wi rfl (zXB (zU 2)) (oB 2 rfl (zJ (yK 7 yR.nd) (zJ (yK 8 yR.nd) yC)) (zA (zA xK))) (zV xI rfl (zN 9 yR.nd (xR (w6 T) hr (zZ (zU 3) (zZ (xR (w6 T) hr (zZ (zU 8) (zZ (xR (lU T) hr (zZ (zU 3) zW)) zW))) zW))))
     (zV tG rfl (wX (xC uJ (xW (zU 6) zX) zX) (zR (zN 9 yR.nd (xR (w6 T) hr (zZ (zU 9) (zZ (zU 4) zW))))) yB)
     (zV vK rfl (iK 5 (hZ Wn Eg Eh uB (pv 5) (yM (zP (zZ (xR (lO T) hr (zZ (zU 3) (zZ (zU 7) zW))) (zZ (zU 9) (zZ (qA uJ (xW (zU 6) zX) zX) zW)))) xT)))
     (zR (zN 6 yR.nd (wQ (zU 6) zX)))))))
     (zR (oO 5))))))))))
theorem xX:FnScope ["_law_dims","_law_cell","_law_number_here","_law_parts","_law_at","_law_other","_law_corner","_law_turn_here","_law_back"] ["_law_dims","_law_cell"] (zT qG):=yI (by decide +kernel)
def gQ:Sf:=(jM 3)
def tJ:Sf:=(zI (sIf (eB2 gEq (xJ (eV 5) (eC (.int 3))) (eC (.int 0))) (lV 3 (eV 4) (zC (zY (eV 6) (zY (eV 7) (zY (wF (qZ (tB1 (eV 8)))) zS))))) (lV 3 (eV 4) (zC (zY (eV 6) (zY (zF 2 xS (zY (vD (eV 5) (eC (.int 3))) (zY (eV 0) zS))) (zY (wF (eB2 gEq (xJ (vD (eV 5) (eC (.int 200))) (eC (.int 2))) (eC (.int 1)))) zS))))))
   (gQ))
def sV:Sf:=(zI (oP (zYq 3 (eV 4)) (gT (zO (gN 6) (zO (gN 7) (zO (gN 8) yD)))))
   (tJ))
def tI:Sf:=(zI (yY 5 (zF 2 wH (zY (eV 1) (zY (eC (.int 39373)) zS))))
   (sV))
def tH:Sf:=(zI (yY 4 (xJ (eV 2) (lN 3)))
   (tI))
def tD:Sf:=(zI (vC 3 (wE 2 vA (zY (eV 0) (zY (vD (eV 2) (eC (.int 8))) zS))))
   (tH))
def vJ:Sf:=(zI (yY 2 (zF 2 wH (zY (eV 1) (zY (eC (.int 16807)) zS))))
   (tD))
def cM:Sf :=
   (vJ)
def qM:List D->Option (List D):=fnL 9 cM
theorem fY (T:Txt K mg):aN P w base T.q8 3 2 qM :=
 pF (k:=2) T.q8.F xX fun cdv A outer s H E hr =>
   (zV vJ rfl (zN 2 xX.nd (xR (sE T) hr (zZ (zU 1) (zZ zX zW))))
     (zV tD rfl (wC 3 xX.nd (cH (lH T) hr (zZ (zU 0) (zZ (wQ (zU 2) zX) zW))))
     (zV tH rfl (zN 4 xX.nd (xW (zU 2) (zZ8 3 rfl T.z_len)))
     (zV tI rfl (zN 5 xX.nd (xR (sE T) hr (zZ (zU 1) (zZ zX zW))))
     (zV sV rfl (rD (zXU 3 (zU 4)) (oB 3 rfl (zJ (yK 6 xX.nd) (zJ (yK 7 xX.nd) (zJ (yK 8 xX.nd) yC))) (zA (zA (zA xK)))))
     (zV tJ rfl (wX (xC uJ (xW (zU 5) zX) zX) (zR (jY 3 (zP (zZ (zU 6) (zZ (zU 7) (zZ (zRz (zU 8)) zW)))) (zU 4))) (zR (jY 3 (zP (zZ (zU 6) (zZ (xR (nY T) hr (zZ (wQ (zU 5) zX) (zZ (zU 0) zW))) (zZ (qA uJ (xW (wQ (zU 5) zX) zX) zX) zW)))) (zU 4))))
     (zR (oO 3))))))))
theorem sC:FnScope ["_law_dims","_law_corners_here"] ["_law_dims"] (zT vM):=yI (by decide +kernel)
def gU:Sf:=(jM 1)
def oH:Sf:=(zI (sIf (eB2 gEq (eV 0) (eC (.int 3))) (dU 1 (vC 1 (gM (yO (iL (eV 1)) 2 [] (gT (zO (gN 0) (zO (gN 1) yD))) tOK (zC (zY (eV 0) (zY (eV 1) (zY (eC (.int 0)) zS))))) (yO (iL (eV 1)) 2 [] (gT (zO (gN 0) (zO (gN 1) yD))) tOK (zC (zY (eV 0) (zY (eV 1) (zY (eC (.int 1)) zS)))))))) tO)
   (gU))
def oG:Sf:=(zI (vC 1 (yE (zY (zC (zY (eC (.int 0)) (zY (eC (.int 0)) zS))) (zY (zC (zY (eC (.int 1)) (zY (eC (.int 0)) zS))) (zY (zC (zY (eC (.int 0)) (zY (eC (.int 1)) zS))) (zY (zC (zY (eC (.int 1)) (zY (eC (.int 1)) zS))) zS))))))
   (oH))
def cR:Sf :=
   (oG)
def tW:List D->Option (List D):=fnL 2 cR
theorem dG (T:Txt K mg):aN P w base T.q9 1 1 tW :=
 pF (k:=0) T.q9.F sC fun cdv A outer s H E hr =>
   (zV oG rfl (wC 1 sC.nd (yP (zZ (zP (zZ zX (zZ zX zW))) (zZ (zP (zZ zX (zZ zX zW))) (zZ (zP (zZ zX (zZ zX zW))) (zZ (zP (zZ zX (zZ zX zW))) zW))))))
     (zV oH rfl (wX (xC uJ (zU 0) zX) (zR (pY 1 (wC 1 sC.nd (zUW (xH (zT vM) ["_law_dims","_law_corners_here"] ["_law_x","_law_y"] [] [] (zZr (yF (uF 0) (yF (uF 1) sM))) (zXB (zU 1)) rfl rfl rfl (by decide +kernel) (fun _ _ _ _=>(oB 2 rfl (zJ (yK 0 (show(List.Nodup (α:=PySem.Str) ["_law_x","_law_y"]) from by decide +kernel)) (zJ (yK 1 (show(List.Nodup (α:=PySem.Str) ["_law_x","_law_y"]) from by decide +kernel)) yC)) (zA (zA xK)))) (fun _ _ _ _=>yJ) (fun _ _ _ _=>(zP (zZ (zU 0) (zZ (zU 1) (zZ zX zW)))))) (xH (zT vM) ["_law_dims","_law_corners_here"] ["_law_x","_law_y"] [] [] (zZr (yF (uF 0) (yF (uF 1) sM))) (zXB (zU 1)) rfl rfl rfl (by decide +kernel) (fun _ _ _ _=>(oB 2 rfl (zJ (yK 0 (show(List.Nodup (α:=PySem.Str) ["_law_x","_law_y"]) from by decide +kernel)) (zJ (yK 1 (show(List.Nodup (α:=PySem.Str) ["_law_x","_law_y"]) from by decide +kernel)) yC)) (zA (zA xK)))) (fun _ _ _ _=>yJ) (fun _ _ _ _=>(zP (zZ (zU 0) (zZ (zU 1) (zZ zX zW)))))))))) yB)
     (zR (oO 1))))
theorem uU:FnScope ["_law_dims","_law_cell","_law_left","_law_parts","_law_number_here","_law_corner"] ["_law_dims","_law_cell"] (zT nV):=yI (by decide +kernel)
def cL:Sf:=(jM 3)
def qB:Sf:=(zI (uC (jB 2) (zI (yY 4 (zF 2 wH (zY (eV 1) (zY (mG (eC (.int 48271)) (mH (eC (.int 997)) (lN 2))) zS))))
   (zI (zVx 5 2 (xJ (eV 4) (lN 2)))
   (jZ 3 (zC (zY (eV 5) (zY (zF 2 xS (zY (vD (eV 4) (eC (.int 8))) (zY (eV 0) zS))) (zY (wF (eB2 gEq (xJ (vD (eV 4) (eC (.int 800))) (eC (.int 2))) (eC (.int 1)))) zS))))))) 100)
   (cL))
def qI:Sf:=(zI (vC 3 (yE zS))
   (qB))
def tR:Sf:=(zI (vC 2 (wE 1 tW (zY (eV 0) zS)))
   (qI))
def zZf:Sf :=
   (tR)
def rA:List D->Option (List D):=fnL 6 zZf
theorem zZC (T:Txt K mg):aN P w base T.q10 2 2 rA :=
 pF (k:=1) T.q10.F uU fun cdv A outer s H E hr =>
   (zV tR rfl (wC 2 uU.nd (cH (dG T) hr (zZ (zU 0) zW)))
     (zV qI rfl (wC 3 uU.nd (yP zW))
     (zV qB rfl (aY 100 Wi (zUY 2 hr) (vW (zN 4 uU.nd (xR (sE T) hr (zZ (zU 1) (zZ (qU zX (nW zX (zZ8 2 rfl T.z_len))) zW))))
     (vW (zSQ 5 2 uU.nd (hZ Wn PySem.F.slot_list_pop PySem.F.type_list_pop zUn (pv 2) (yM (xW (zU 4) (zZ8 2 rfl T.z_len)) xT)))
     (zR (iK 3 (hZ Wn Eg Eh uB (pv 3) (yM (zP (zZ (zU 5) (zZ (xR (nY T) hr (zZ (wQ (zU 4) zX) (zZ (zU 0) zW))) (zZ (qA uJ (xW (wQ (zU 4) zX) zX) zX) zW)))) xT)))))))
     (zR (oO 3)))))
theorem jR:FnScope ["_law_dims","_law_cell","_law_number_here"] ["_law_dims","_law_cell"] (zT nN):=yI (by decide +kernel)
def qR:Sf:=(oE (wE 2 qM (zY (eV 0) (zY (eV 1) zS))))
def uA:Sf:=(zI (sIf (eB2 gEq (xJ (eV 2) (eC (.int 4))) (eC (.int 1))) (oE (wE 2 vA (zY (eV 0) (zY (vD (eV 2) (eC (.int 4))) zS)))) tO)
   (qR))
def pZ:Sf:=(zI (sIf (eB2 gEq (xJ (eV 2) (eC (.int 4))) (eC (.int 0))) (oE (wE 2 rA (zY (eV 0) (zY (eV 1) zS)))) tO)
   (uA))
def tS:Sf:=(zI (yY 2 (zF 2 wH (zY (eV 1) (zY (eC (.int 40692)) zS))))
   (pZ))
def zYz:Sf :=
   (tS)
def oA:List D->Option (List D):=fnL 3 zYz
theorem zZn (T:Txt K mg):aN P w base T.q11 4 2 oA :=
 pF (k:=3) T.q11.F jR fun cdv A outer s H E hr =>
   (zV tS rfl (zN 2 jR.nd (xR (sE T) hr (zZ (zU 1) (zZ zX zW))))
     (zV pZ rfl (wX (xC uJ (xW (zU 2) zX) zX) (zR (jU (cH (zZC T) hr (zZ (zU 0) (zZ (zU 1) zW))))) yB)
     (zV uA rfl (wX (xC uJ (xW (zU 2) zX) zX) (zR (jU (cH (lH T) hr (zZ (zU 0) (zZ (wQ (zU 2) zX) zW))))) yB)
     (zR (jU (cH (fY T) hr (zZ (zU 0) (zZ (zU 1) zW))))))))
theorem zZI:FnScope ["_law_dims","_law_joined_here","_law_parts"] ["_law_dims","_law_joined_here","_law_parts"] (zT rE):=yI (by decide +kernel)
def cJ:Sf:=(xQ (lP "Curve" ["name","dims","joined","parts"] 4 jS (zY (eC (.str "fold")) (zY (eV 0) (zY (eV 1) (zY (eL (yO (iL (eV 2)) 3 [] (gT (zO (gN 0) (zO (gN 1) (zO (gN 2) yD)))) tOK (lP "Part" ["corner","turn","back"] 3 kB (zY (eV 0) (zY (eV 1) (zY (eV 2) zS)))))) zS))))))
def zYp:Sf :=
   (cJ)
def nA:List D->Option D:=fnF 3 zYp
theorem zZT (T:Txt K mg):OkT P w base T.q12 3 3 nA :=
 xB (k:=2) T.q12.F zZI fun cdv A outer s H E hr =>
   (zR (yX (zWw T.ca_Curve T.mk_Curve (zV0 T) (hr.mono (by omega)) T.mc_Curve T.bi_Curve rfl (zZ zRd (zZ (zU 0) (zZ (zU 1) (zZ (vR (xH (zT rE) ["_law_dims","_law_joined_here","_law_parts"] ["_law_corner","_law_turn_here","_law_back"] [] [] (zZr (yF (uF 0) (yF (uF 1) (yF (uF 2) sM)))) (zXB (zU 2)) rfl rfl rfl (by decide +kernel) (fun _ _ _ _=>(oB 3 rfl (zJ (yK 0 (show(List.Nodup (α:=PySem.Str) ["_law_corner","_law_turn_here","_law_back"]) from by decide +kernel)) (zJ (yK 1 (show(List.Nodup (α:=PySem.Str) ["_law_corner","_law_turn_here","_law_back"]) from by decide +kernel)) (zJ (yK 2 (show(List.Nodup (α:=PySem.Str) ["_law_corner","_law_turn_here","_law_back"]) from by decide +kernel)) yC))) (zA (zA (zA xK))))) (fun _ _ _ _=>yJ) (fun _ _ _ _=>(zWw T.ca_Part T.mk_Part (zU6 T) (hr.mono (by omega)) T.mc_Part T.bi_Part rfl (zZ (zU 0) (zZ (zU 1) (zZ (zU 2) zW))))))) zW)))))))
theorem zZJ:FnScope ["_law_dims"] ["_law_dims"] (zT rG):=yI (by decide +kernel)
def cY:Sf:=(xQ (zC (zY (yA (eL (yO (iR (eV 0)) 1 [] (gN 0) tOK (zC (zY (eV 0) (zY (eC (.int 0)) zS)))))) (zY (eC (.bl false)) zS))))
def zY9:Sf :=
   (cY)
def mZ:List D->Option D:=fnF 1 zY9
theorem zZR (T:Txt K mg):OkT P w base T.q13 1 1 mZ :=
 xB (k:=0) T.q13.F zZJ fun cdv A outer s H E hr =>
   (zR (yX (zP (zZ (xF rfl T.z_tuple (vR (xH (zT rG) ["_law_dims"] ["_law_axis"] [] [] (uF 0) (kI rfl T.z_range (zU 0)) rfl rfl rfl (by decide +kernel) (fun _ _ _ _=>(yK 0 (show(List.Nodup (α:=PySem.Str) ["_law_axis"]) from by decide +kernel))) (fun _ _ _ _=>yJ) (fun _ _ _ _=>(zP (zZ (zU 0) (zZ zX zW))))))) (zZ kF zW)))))
theorem xM:FnScope ["_law_parts","_law_state_here","_law_digit","_law_turn_here","_law_back","_law_corner","_law_inner","_law_turned_back"] ["_law_parts","_law_state_here","_law_digit"] (zT qC):=yI (by decide +kernel)
def sY:Sf:=(xQ (zC (zY (zF 2 uZ (zY (eV 3) (zY (eV 5) zS))) (zY (zC (zY (zF 2 xG (zY (eV 3) (zY (eV 6) zS))) (zY (wF (eB2 gNe (eV 4) (eV 7))) zS))) zS))))
def sU:Sf:=(zI (oP (eIx (eV 0) (eV 2)) (gT (zO (gN 5) (zO (gN 6) (zO (gN 7) yD)))))
   (sY))
def sX:Sf:=(zI (sIf (tB1 (eV 4)) (yY 2 (mD (mD (vZ (eV 0)) (eC (.int 1))) (eV 2))) tO)
   (sU))
def oI:Sf:=(zI (oP (eV 1) (gT (zO (gN 3) (zO (gN 4) yD))))
   (sX))
def cG:Sf :=
   (oI)
def qN:List D->Option D:=fnF 8 cG
theorem fF (T:Txt K mg):OkT P w base T.q14 2 3 qN :=
 xB (k:=1) T.q14.F xM fun cdv A outer s H E hr =>
   (zV oI rfl (rD (zU 1) (oB 2 rfl (zJ (yK 3 xM.nd) (zJ (yK 4 xM.nd) yC)) (zA (zA xK))))
     (zV sX rfl (wX (rJ (zU 4)) (zR (zN 2 xM.nd (lA (lA (uQ rfl T.z_len (zU 0)) zX) (zU 2)))) yB)
     (zV sU rfl (rD (wK (zU 0) (zU 2)) (oB 3 rfl (zJ (yK 5 xM.nd) (zJ (yK 6 xM.nd) (zJ (yK 7 xM.nd) yC))) (zA (zA (zA xK)))))
     (zR (yX (zP (zZ (xR (lO T) hr (zZ (zU 3) (zZ (zU 5) zW))) (zZ (zP (zZ (xR (w6 T) hr (zZ (zU 3) (zZ (zU 6) zW))) (zZ (qA zSd (zU 4) (zU 7)) zW))) zW))))))))
theorem xZ:FnScope ["_law_parts","_law_dims","_law_level_here","_law_number_here","_law_state_here","_law_place_here","_law_digits","_law_k","_law_digit","_law_corner"] ["_law_parts","_law_dims","_law_level_here","_law_number_here"] (zT rH):=yI (by decide +kernel)
def nU:Sf:=(yY 3 (vD (eV 3) (vZ (eV 0))))
def vB:Sf:=(zI (jZ 6 (xJ (eV 3) (vZ (eV 0))))
   (nU))
def nO:Sf:=(yY 5 (eL (yO (iR (eV 1)) 1 [9,5] (gN 0) tOK (mG (mH (eC (.int 2)) (eIx (eV 2) (eV 0))) (eIx (eV 1) (eV 0))))))
def w8:Sf:=(zI (oP (zF 3 qN (zY (eV 0) (zY (eV 4) (zY (eV 8) zS)))) (gT (zO (gN 9) (zO (gN 4) yD))))
   (nO))
def cF:Sf:=(xQ (yA (eV 5)))
def pW:Sf:=(zI (dU 6 (vU (nD (iL (eV 6))) (gN 8) (w8)))
   (cF))
def pV:Sf:=(zI (vU (iR (eV 2)) (gN 7) (vB))
   (pW))
def qP:Sf:=(zI (vC 6 (yE zS))
   (pV))
def qW:Sf:=(zI (yY 5 (eL (zSB (yE (zY (eC (.int 0)) zS)) (eV 1))))
   (qP))
def tZ:Sf:=(zI (yY 4 (zF 1 mZ (zY (eV 1) zS)))
   (qW))
def zY2:Sf :=
   (tZ)
def mV:List D->Option D:=fnF 10 zY2
theorem zZo (T:Txt K mg):OkT P w base T.q15 3 4 mV :=
 xB (k:=2) T.q15.F xZ fun cdv A outer s H E hr =>
   (zV tZ rfl (zN 4 xZ.nd (xR (zZR T) hr (zZ (zU 1) zW)))
     (zV qW rfl (zN 5 xZ.nd (vR (zTt (yP (zZ zX zW)) (zU 1))))
     (zV qP rfl (wC 6 xZ.nd (yP zW))
     (zV pV rfl (wY Wi rfl (kI rfl T.z_range (zU 2)) (yK 7 xZ.nd) (zV vB rfl (iK 6 (hZ Wn Eg Eh uB (pv 6) (yM (xW (zU 3) (uQ rfl T.z_len (zU 0))) xT)))
     (zR (zN 3 xZ.nd (wQ (zU 3) (uQ rfl T.z_len (zU 0)))))))
     (zV pW rfl (pY 6 (wY Wi rfl (zQN rfl T.z_reversed (hV (zU 6))) (yK 8 xZ.nd) (zV w8 rfl (rD (xR (fF T) hr (zZ (zU 0) (zZ (zU 4) (zZ (zU 8) zW)))) (oB 2 rfl (zJ (yK 9 xZ.nd) (zJ (yK 4 xZ.nd) yC)) (zA (zA xK))))
     (zR (zN 5 xZ.nd (vR (xH (zT rH) ["_law_parts","_law_dims","_law_level_here","_law_number_here","_law_state_here","_law_place_here","_law_digits","_law_k","_law_digit","_law_corner"] ["_law_axis"] ["_law_corner","_law_place_here"] [9,5] (uF 0) (kI rfl T.z_range (zU 1)) rfl rfl rfl (by decide +kernel) (fun _ _ _ _=>(yK 0 (show(List.Nodup (α:=PySem.Str) ["_law_axis","_law_corner","_law_place_here"]) from by decide +kernel))) (fun _ _ _ _=>yJ) (fun _ _ _ _=>(qU (nW zX (wK (zU 2) (zU 0))) (wK (zU 1) (zU 0)))))))))))
     (zR (yX (xF rfl T.z_tuple (zU 5)))))))))
theorem vY:FnScope ["place","around","axis","step"] ["place"] (zT tE):=yI (by decide +kernel)
def kR:Sf:=(jZ 1 (zWJ (zWJ (zWf (eV 0) oNo (lQ (eV 2))) (zC (zY (mG (eIx (eV 0) (eV 2)) (eV 3)) zS))) (zWf (eV 0) (lQ (mG (eV 2) (eC (.int 1)))) oNo)))
def lC:Sf:=(vU (iT (zC (zY (zU9 (eC (.int 1))) (zY (eC (.int 1)) zS)))) (gN 3) (kR))
def jI:Sf:=(jM 1)
def rC:Sf:=(zI (vU (iR (vZ (eV 0))) (gN 2) (lC))
   (jI))
def rL:Sf:=(zI (vC 1 (yE zS))
   (rC))
def gP:Sf :=
   (rL)
def sZ:List D->Option (List D):=fnL 4 gP
theorem iY (T:Txt K mg):aN P w base T.q16 1 1 sZ :=
 pF (k:=0) T.q16.F vY fun cdv A outer s H E hr =>
   (zV rL rfl (wC 1 vY.nd (yP zW))
     (zV rC rfl (wY Wi rfl (kI rfl T.z_range (uQ rfl T.z_len (zU 0))) (yK 2 vY.nd) (zR (wY Wi rfl (zXx (zP (zZ (zX9 zX) (zZ zX zW)))) (yK 3 vY.nd) (zR (iK 1 (hZ Wn Eg Eh uB (pv 1) (yM (zW5 (zW5 (zWQ (zU 0) zUA (zWk (zU 2))) (zP (zZ (qU (wK (zU 0) (zU 2)) (zU 3)) zW))) (zWQ (zU 0) (zWk (qU (zU 2) zX)) zUA)) xT)))))))
     (zR (oO 1))))
theorem zUi:FnScope ["dims"] ["dims"] (zT gH):=yI (by decide +kernel)
def zVC:Sf:=(xQ (yA (eL (yO (iR (eV 0)) 1 [] (gN 0) tOK (zC (zY (eV 0) (zY (eC (.int 0)) zS)))))))
def zSF:Sf :=
   (zVC)
def zWL:List D->Option D:=fnF 1 zSF
theorem zTS (T:Txt K mg):OkT P w base T.q17 1 1 zWL :=
 xB (k:=0) T.q17.F zUi fun cdv A outer s H E hr =>
   (zR (yX (xF rfl T.z_tuple (vR (xH (zT gH) ["dims"] ["axis"] [] [] (uF 0) (kI rfl T.z_range (zU 0)) rfl rfl rfl (by decide +kernel) (fun _ _ _ _=>(yK 0 (show(List.Nodup (α:=PySem.Str) ["axis"]) from by decide +kernel))) (fun _ _ _ _=>yJ) (fun _ _ _ _=>(zP (zZ (zU 0) (zZ zX zW)))))))))
theorem eY:FnScope ["dims"] ["dims"] (zT qF):=yI (by decide +kernel)
def gW:Sf:=(xQ (zC (zY (zF 1 zWL (zY (eV 0) zS)) (zY (eC (.bl false)) zS))))
def cU:Sf :=
   (gW)
def tY:List D->Option D:=fnF 1 cU
theorem mY (T:Txt K mg):OkT P w base T.q18 2 1 tY :=
 xB (k:=1) T.q18.F eY fun cdv A outer s H E hr =>
   (zR (yX (zP (zZ (xR (zTS T) hr (zZ (zU 0) zW)) (zZ kF zW)))))
theorem sO:FnScope ["number","base","many","digits","step"] ["number","base","many"] (zT mU):=yI (by decide +kernel)
def nK:Sf:=(yY 0 (vD (eV 0) (eV 1)))
def wA:Sf:=(zI (jZ 3 (xJ (eV 0) (eV 1)))
   (nK))
def lK:Sf:=(dU 3 (oE (zUM (iL (eV 3)) (zU9 (eC (.int 1))))))
def qJ:Sf:=(zI (vU (iR (eV 2)) (gN 4) (wA))
   (lK))
def tV:Sf:=(zI (vC 3 (yE zS))
   (qJ))
def zYh:Sf :=
   (tV)
def nR:List D->Option (List D):=fnL 5 zYh
theorem zZP (T:Txt K mg):aN P w base T.q19 1 3 nR :=
 pF (k:=0) T.q19.F sO fun cdv A outer s H E hr =>
   (zV tV rfl (wC 3 sO.nd (yP zW))
     (zV qJ rfl (wY Wi rfl (kI rfl T.z_range (zU 2)) (yK 4 sO.nd) (zV wA rfl (iK 3 (hZ Wn Eg Eh uB (pv 3) (yM (xW (zU 0) (zU 1)) xT)))
     (zR (zN 0 sO.nd (wQ (zU 0) (zU 1))))))
     (zR (pY 3 (jU (zSt (hV (zU 3)) (zX9 zX)))))))
theorem zVL:FnScope ["curve","back","number"] ["curve","back","number"] (zT fK):=yI (by decide +kernel)
def zXR:Sf:=(xQ (eIf (tB1 (eV 1)) (mD (mD (vZ (xA "Curve" "parts" (eV 0))) (eC (.int 1))) (eV 2)) (eV 2)))
def zTW:Sf :=
   (zXR)
def tN:List D->Option D:=fnF 3 zTW
theorem bH (T:Txt K mg):OkT P w base T.q20 1 3 tN :=
 xB (k:=0) T.q20.F zVL fun cdv A outer s H E hr =>
   (zR (yX (zPY (rJ (zU 1)) (lA (lA (uQ rfl T.z_len (vP T.ca_Curve T.cl_Curve T.n_Curve_parts (zU 0))) zX) (zU 2)) (zU 2))))
theorem zUE:FnScope ["one","other"] ["one","other"] (zT gE):=yI (by decide +kernel)
def aZ:Sf:=(xQ (yA (eL (yO (iT (eV 0)) 2 [1] (gT (zO (gN 0) (zO (gN 1) yD))) tOK (zC (zY (eIx (eIx (eV 2) (eV 0)) (eC (.int 0))) (zY (zZU (eIx (eIx (eV 2) (eV 0)) (eC (.int 1))) (eV 1)) zS)))))))
def zWj:Sf :=
   (aZ)
def pC:List D->Option D:=fnF 2 zWj
theorem zU7 (T:Txt K mg):OkT P w base T.q21 1 2 pC :=
 xB (k:=0) T.q21.F zUE fun cdv A outer s H E hr =>
   (zR (yX (xF rfl T.z_tuple (vR (xH (zT gE) ["one","other"] ["axis","flip"] ["other"] [1] (zZr (yF (uF 0) (yF (uF 1) sM))) (zXx (zU 0)) rfl rfl rfl (by decide +kernel) (fun _ _ _ _=>(oB 2 rfl (zJ (yK 0 (show(List.Nodup (α:=PySem.Str) ["axis","flip","other"]) from by decide +kernel)) (zJ (yK 1 (show(List.Nodup (α:=PySem.Str) ["axis","flip","other"]) from by decide +kernel)) yC)) (zA (zA xK)))) (fun _ _ _ _=>yJ) (fun _ _ _ _=>(zP (zZ (wK (wK (zU 2) (zU 0)) zX) (zZ (aM (wK (wK (zU 2) (zU 0)) zX) (zU 1)) zW)))))))))
theorem zVJ:FnScope ["turn","corner"] ["turn","corner"] (zT kC):=yI (by decide +kernel)
def eN:Sf:=(xQ (yA (eL (yO (iT (eV 0)) 2 [1] (gT (zO (gN 0) (zO (gN 1) yD))) tOK (zZU (eIx (eV 2) (eV 0)) (eV 1))))))
def zYa:Sf :=
   (eN)
def uI:List D->Option D:=fnF 2 zYa
theorem aP (T:Txt K mg):OkT P w base T.q22 1 2 uI :=
 xB (k:=0) T.q22.F zVJ fun cdv A outer s H E hr =>
   (zR (yX (xF rfl T.z_tuple (vR (xH (zT kC) ["turn","corner"] ["axis","flip"] ["corner"] [1] (zZr (yF (uF 0) (yF (uF 1) sM))) (zXx (zU 0)) rfl rfl rfl (by decide +kernel) (fun _ _ _ _=>(oB 2 rfl (zJ (yK 0 (show(List.Nodup (α:=PySem.Str) ["axis","flip","corner"]) from by decide +kernel)) (zJ (yK 1 (show(List.Nodup (α:=PySem.Str) ["axis","flip","corner"]) from by decide +kernel)) yC)) (zA (zA xK)))) (fun _ _ _ _=>yJ) (fun _ _ _ _=>(aM (wK (zU 2) (zU 0)) (zU 1))))))))
theorem sH:FnScope ["curve","state","digit","turn","back","part","inner"] ["curve","state","digit"] (zT iZ):=yI (by decide +kernel)
def iE:Sf:=(xQ (zC (zY (zF 2 uI (zY (eV 3) (zY (xA "Part" "corner" (eV 5)) zS))) (zY (eV 6) zS))))
def mS:Sf:=(zI (yY 6 (zC (zY (zF 2 pC (zY (eV 3) (zY (xA "Part" "turn" (eV 5)) zS))) (zY (wF (eB2 gNe (eV 4) (xA "Part" "back" (eV 5)))) zS))))
   (iE))
def nH:Sf:=(zI (yY 5 (eIx (xA "Curve" "parts" (eV 0)) (zF 3 tN (zY (eV 0) (zY (eV 4) (zY (eV 2) zS))))))
   (mS))
def hU:Sf:=(zI (oP (eV 1) (gT (zO (gN 3) (zO (gN 4) yD))))
   (nH))
def zV7:Sf :=
   (hU)
def pR:List D->Option D:=fnF 7 zV7
theorem fQ (T:Txt K mg):OkT P w base T.q23 2 3 pR :=
 xB (k:=1) T.q23.F sH fun cdv A outer s H E hr =>
   (zV hU rfl (rD (zU 1) (oB 2 rfl (zJ (yK 3 sH.nd) (zJ (yK 4 sH.nd) yC)) (zA (zA xK))))
     (zV nH rfl (zN 5 sH.nd (wK (vP T.ca_Curve T.cl_Curve T.n_Curve_parts (zU 0)) (xR (bH T) hr (zZ (zU 0) (zZ (zU 4) (zZ (zU 2) zW))))))
     (zV mS rfl (zN 6 sH.nd (zP (zZ (xR (zU7 T) hr (zZ (zU 3) (zZ (vP T.ca_Part T.cl_Part T.n_Part_turn (zU 5)) zW))) (zZ (qA zSd (zU 4) (vP T.ca_Part T.cl_Part T.n_Part_back (zU 5))) zW))))
     (zR (yX (zP (zZ (xR (aP T) hr (zZ (zU 3) (zZ (vP T.ca_Part T.cl_Part T.n_Part_corner (zU 5)) zW))) (zZ (zU 6) zW))))))))
theorem zVH:FnScope ["place","corner"] ["place","corner"] (zT jF):=yI (by decide +kernel)
def zXL:Sf:=(xQ (yA (eL (yO (zTO (eV 0) (eV 1)) 2 [] (gT (zO (gN 0) (zO (gN 1) yD))) tOK (mG (mH (eC (.int 2)) (eV 0)) (eV 1))))))
def zT3:Sf :=
   (zXL)
def nC:List D->Option D:=fnF 2 zT3
theorem zVD (T:Txt K mg):OkT P w base T.q24 1 2 nC :=
 xB (k:=0) T.q24.F zVH fun cdv A outer s H E hr =>
   (zR (yX (xF rfl T.z_tuple (vR (xH (zT jF) ["place","corner"] ["along","bit"] [] [] (zZr (yF (uF 0) (yF (uF 1) sM))) (zWB rfl T.z_zip (zU 0) (zU 1)) rfl rfl rfl (by decide +kernel) (fun _ _ _ _=>(oB 2 rfl (zJ (yK 0 (show(List.Nodup (α:=PySem.Str) ["along","bit"]) from by decide +kernel)) (zJ (yK 1 (show(List.Nodup (α:=PySem.Str) ["along","bit"]) from by decide +kernel)) yC)) (zA (zA xK)))) (fun _ _ _ _=>yJ) (fun _ _ _ _=>(qU (nW zX (zU 0)) (zU 1))))))))
theorem gJ:FnScope ["dims","level","places","halving"] ["dims","level"] (zT zXn):=yI (by decide +kernel)
def iF:Sf:=(yY 2 (mH (eV 2) (eC (.int 2))))
def zUG:Sf:=(xQ (eV 2))
def dB:Sf:=(zI (vU (iR (mH (eV 0) (eV 1))) (gN 3) (iF))
   (zUG))
def kK:Sf:=(zI (yY 2 (eC (.int 1)))
   (dB))
def zRp:Sf :=
   (kK)
def fB:List D->Option D:=fnF 4 zRp
theorem zZN (T:Txt K mg):OkT P w base T.q25 1 2 fB :=
 xB (k:=0) T.q25.F gJ fun cdv A outer s H E hr =>
   (zV kK rfl (zN 2 gJ.nd zX)
     (zV dB rfl (wY Wi rfl (kI rfl T.z_range (nW (zU 0) (zU 1))) (yK 3 gJ.nd) (zR (zN 2 gJ.nd (nW (zU 2) zX))))
     (zR (yX (zU 2)))))
theorem wD:FnScope ["curve","level","number","state","place","digit","corner"] ["curve","level","number"] (zT kU):=yI (by decide +kernel)
def lW:Sf:=(yY 4 (zF 2 nC (zY (eV 4) (zY (eV 6) zS))))
def tU:Sf:=(zI (oP (zF 3 pR (zY (eV 0) (zY (eV 3) (zY (eV 5) zS)))) (gT (zO (gN 6) (zO (gN 3) yD))))
   (lW))
def zZ7:Sf:=(xQ (eV 4))
def pB:Sf:=(zI (vU (wE 3 nR (zY (eV 2) (zY (vZ (xA "Curve" "parts" (eV 0))) (zY (eV 1) zS)))) (gN 5) (tU))
   (zZ7))
def pH:Sf:=(zI (yY 4 (zWd (zC (zY (eC (.int 0)) zS)) (xA "Curve" "dims" (eV 0))))
   (pB))
def oV:Sf:=(zI (yY 3 (zF 1 tY (zY (xA "Curve" "dims" (eV 0)) zS)))
   (pH))
def sS:Sf:=(zI (sIf (qZ (eB3 gLe gLt (eC (.int 0)) (eV 2) (zF 2 fB (zY (xA "Curve" "dims" (eV 0)) (zY (eV 1) zS))))) (fun _=>none) tO)
   (oV))
def zXY:Sf :=
   (sS)
def vG:List D->Option D:=fnF 7 zXY
theorem iC (T:Txt K mg):OkT P w base T.q26 3 3 vG :=
 xB (k:=2) T.q26.F wD fun cdv A outer s H E hr =>
   (zV sS rfl (wX (jE (bO zUk zUc zX (zU 2) (xR (zZN T) hr (zZ (vP T.ca_Curve T.cl_Curve T.n_Curve_dims (zU 0)) (zZ (zU 1) zW))))) (zR zYr) yB)
     (zV oV rfl (zN 3 wD.nd (xR (mY T) hr (zZ (vP T.ca_Curve T.cl_Curve T.n_Curve_dims (zU 0)) zW)))
     (zV pH rfl (zN 4 wD.nd (zSG (zP (zZ zX zW)) (vP T.ca_Curve T.cl_Curve T.n_Curve_dims (zU 0))))
     (zV pB rfl (wY Wi rfl (zUL (cH (zZP T) hr (zZ (zU 2) (zZ (uQ rfl T.z_len (vP T.ca_Curve T.cl_Curve T.n_Curve_parts (zU 0))) (zZ (zU 1) zW))))) (yK 5 wD.nd) (zV tU rfl (rD (xR (fQ T) hr (zZ (zU 0) (zZ (zU 3) (zZ (zU 5) zW)))) (oB 2 rfl (zJ (yK 6 wD.nd) (zJ (yK 3 wD.nd) yC)) (zA (zA xK))))
     (zR (zN 4 wD.nd (xR (zVD T) hr (zZ (zU 4) (zZ (zU 6) zW)))))))
     (zR (yX (zU 4)))))))
theorem kL:FnScope ["dims","level","place","side"] ["dims","level","place"] (zT rM):=yI (by decide +kernel)
def qT:Sf:=(xQ (zWH (wF (eB2 gEq (vZ (eV 2)) (eV 0))) (zXi (eL (yO (iT (eV 2)) 1 [3] (gN 0) tOK (wF (eB3 gLe gLt (eC (.int 0)) (eV 0) (eV 1))))))))
def wI:Sf:=(zI (yY 3 (zF 2 fB (zY (eC (.int 1)) (zY (eV 1) zS))))
   (qT))
def zYJ:Sf :=
   (wI)
def wT:List D->Option D:=fnF 4 zYJ
theorem jD (T:Txt K mg):OkT P w base T.q27 2 3 wT :=
 xB (k:=1) T.q27.F kL fun cdv A outer s H E hr =>
   (zV wI rfl (zN 3 kL.nd (xR (zZN T) hr (zZ zX (zZ (zU 1) zW))))
     (zR (yX (zQ4 (qA uJ (uQ rfl T.z_len (zU 2)) (zU 0)) (zRe (zQC rfl rfl T.z_all (vR (xH (zT rM) ["dims","level","place","side"] ["along"] ["side"] [3] (uF 0) (zXx (zU 2)) rfl rfl rfl (by decide +kernel) (fun _ _ _ _=>(yK 0 (show(List.Nodup (α:=PySem.Str) ["along","side"]) from by decide +kernel))) (fun _ _ _ _=>yJ) (fun _ _ _ _=>(zUq zUk zUc zX (zU 0) (zU 1)))))))))))
theorem zZi:FnScope ["dims","level","place"] ["dims","level","place"] (zT mW):=yI (by decide +kernel)
def qE:Sf:=(sIf (qZ (tB1 (zF 3 wT (zY (eV 0) (zY (eV 1) (zY (eV 2) zS)))))) (fun _=>none) tO)
def zYy:Sf :=
   (qE)
def qY:List D->Option D:=fnF 3 zYy
theorem aC (T:Txt K mg):OkT P w base T.q28 3 3 qY :=
 xB (k:=2) T.q28.F zZi fun cdv A outer s H E hr =>
   (zR (wX (jE (rJ (xR (jD T) hr (zZ (zU 0) (zZ (zU 1) (zZ (zU 2) zW)))))) (zR zYr) yB))
theorem pT:FnScope ["turn","pairs","bit","axis","flip"] ["turn"] (zT dE):=yI (by decide +kernel)
def zYF:Sf:=(lV 1 (eV 3) (zC (zY (eV 2) (zY (eV 4) zS))))
def gY:Sf:=(zI (oP (eIx (eV 0) (eV 2)) (gT (zO (gN 3) (zO (gN 4) yD))))
   (zYF))
def zXt:Sf:=(dU 1 (xQ (yA (eV 1))))
def dC:Sf:=(zI (vU (iR (vZ (eV 0))) (gN 2) (gY))
   (zXt))
def fM:Sf:=(zI (vC 1 (mI (eV 0)))
   (dC))
def zTZ:Sf :=
   (fM)
def pN:List D->Option D:=fnF 5 zTZ
theorem zVm (T:Txt K mg):OkT P w base T.q29 1 1 pN :=
 xB (k:=0) T.q29.F pT fun cdv A outer s H E hr =>
   (zV fM rfl (wC 1 pT.nd (iU rfl T.z_list (zU 0)))
     (zV dC rfl (wY Wi rfl (kI rfl T.z_range (uQ rfl T.z_len (zU 0))) (yK 2 pT.nd) (zV gY rfl (rD (wK (zU 0) (zU 2)) (oB 2 rfl (zJ (yK 3 pT.nd) (zJ (yK 4 pT.nd) yC)) (zA (zA xK))))
     (zR (jY 1 (zP (zZ (zU 2) (zZ (zU 4) zW))) (zU 3)))))
     (zR (pY 1 (yX (xF rfl T.z_tuple (zU 1)))))))
theorem tL:FnScope ["curve","state","corner","turn","back","own","corners"] ["curve","state","corner"] (zT oM):=yI (by decide +kernel)
def jG:Sf:=(dU 6 (xQ (zF 3 tN (zY (eV 0) (zY (eV 4) (zY (dY (iL (eV 6)) (eV 5)) zS))))))
def oN:Sf:=(zI (vC 6 (yO (iL (xA "Curve" "parts" (eV 0))) 1 [] (gN 0) tOK (xA "Part" "corner" (eV 0))))
   (jG))
def pE:Sf:=(zI (yY 5 (zF 2 uI (zY (zF 1 pN (zY (eV 3) zS)) (zY (eV 2) zS))))
   (oN))
def jV:Sf:=(zI (oP (eV 1) (gT (zO (gN 3) (zO (gN 4) yD))))
   (pE))
def zXH:Sf :=
   (jV)
def oY:List D->Option D:=fnF 7 zXH
theorem zYs (T:Txt K mg):OkT P w base T.q30 2 3 oY :=
 xB (k:=1) T.q30.F tL fun cdv A outer s H E hr =>
   (zV jV rfl (rD (zU 1) (oB 2 rfl (zJ (yK 3 tL.nd) (zJ (yK 4 tL.nd) yC)) (zA (zA xK))))
     (zV pE rfl (zN 5 tL.nd (xR (aP T) hr (zZ (xR (zVm T) hr (zZ (zU 3) zW)) (zZ (zU 2) zW))))
     (zV oN rfl (zXF (zT oM) ["curve","state","corner","turn","back","own","corners"] ["part"] [] [] (uF 0) 6 tL.nd rfl rfl (zXB (vP T.ca_Curve T.cl_Curve T.n_Curve_parts (zU 0))) rfl rfl rfl (by decide +kernel) (fun _ _ _ _=>(yK 0 (show(List.Nodup (α:=PySem.Str) ["part"]) from by decide +kernel))) (fun _ _ _ _=>yJ) (fun _ _ _ _=>(vP T.ca_Part T.cl_Part T.n_Part_corner (zU 0))))
     (zR (pY 6 (yX (xR (bH T) hr (zZ (zU 0) (zZ (zU 4) (zZ (zUP hr (hZ Wn PySem.F.slot_list_index PySem.F.type_list_index (zUo hr) (hV (zU 6)) (yM (zU 5) xT))) zW))))))))))
theorem xP:FnScope ["curve","level","place","state","number","half","corner","digit"] ["curve","level","place"] (zT rN):=yI (by decide +kernel)
def lF:Sf:=(xQ (eV 4))
def qH:Sf:=(zI (uC (eB2 gGt (eV 5) (eC (.int 0))) (zI (yY 6 (yA (eL (yO (iT (eV 2)) 1 [5] (gN 0) tOK (xJ (jC (eV 0) (eV 1)) (eC (.int 2)))))))
   (zI (yY 7 (zF 3 oY (zY (eV 0) (zY (eV 3) (zY (eV 6) zS)))))
   (zI (yY 4 (mG (mH (eV 4) (vZ (xA "Curve" "parts" (eV 0)))) (eV 7)))
   (zI (yY 3 (eIx (zF 3 pR (zY (eV 0) (zY (eV 3) (zY (eV 7) zS)))) (eC (.int 1))))
   (yY 5 (jC (eV 5) (eC (.int 2)))))))) 100)
   (lF))
def qD:Sf:=(zI (yY 5 (jC (zF 2 fB (zY (eC (.int 1)) (zY (eV 1) zS))) (eC (.int 2))))
   (qH))
def qV:Sf:=(zI (yY 4 (eC (.int 0)))
   (qD))
def qL:Sf:=(zI (yY 3 (zF 1 tY (zY (xA "Curve" "dims" (eV 0)) zS)))
   (qV))
def tX:Sf:=(zI (zWu (zF 3 qY (zY (xA "Curve" "dims" (eV 0)) (zY (eV 1) (zY (eV 2) zS)))))
   (qL))
def zZd:Sf :=
   (tX)
def vF:List D->Option D:=fnF 8 zZd
theorem aE (T:Txt K mg):OkT P w base T.q31 4 3 vF :=
 xB (k:=3) T.q31.F xP fun cdv A outer s H E hr =>
   (zV tX rfl (zUr (xR (aC T) hr (zZ (vP T.ca_Curve T.cl_Curve T.n_Curve_dims (zU 0)) (zZ (zU 1) (zZ (zU 2) zW)))))
     (zV qL rfl (zN 3 xP.nd (xR (mY T) hr (zZ (vP T.ca_Curve T.cl_Curve T.n_Curve_dims (zU 0)) zW)))
     (zV qV rfl (zN 4 xP.nd zX)
     (zV qD rfl (zN 5 xP.nd (aG (xR (zZN T) hr (zZ zX (zZ (zU 1) zW))) zX))
     (zV qH rfl (aY 100 Wi (xC zQz (zU 5) zX) (vW (zN 6 xP.nd (xF rfl T.z_tuple (vR (xH (zT rN) ["curve","level","place","state","number","half","corner","digit"] ["along"] ["half"] [5] (uF 0) (zXx (zU 2)) rfl rfl rfl (by decide +kernel) (fun _ _ _ _=>(yK 0 (show(List.Nodup (α:=PySem.Str) ["along","half"]) from by decide +kernel))) (fun _ _ _ _=>yJ) (fun _ _ _ _=>(xW (aG (zU 0) (zU 1)) zX))))))
     (vW (zN 7 xP.nd (xR (zYs T) hr (zZ (zU 0) (zZ (zU 3) (zZ (zU 6) zW)))))
     (vW (zN 4 xP.nd (qU (nW (zU 4) (uQ rfl T.z_len (vP T.ca_Curve T.cl_Curve T.n_Curve_parts (zU 0)))) (zU 7)))
     (vW (zN 3 xP.nd (wK (xR (fQ T) hr (zZ (zU 0) (zZ (zU 3) (zZ (zU 7) zW)))) zX))
     (zR (zN 5 xP.nd (aG (zU 5) zX))))))))
     (zR (yX (zU 4))))))))
theorem lZ:FnScope ["curve","level","number","around"] ["curve","level","number"] (zT sN):=yI (by decide +kernel)
def nJ:Sf:=(xQ (eL (gF (yO (iL (eV 3)) 1 [0,1] (gN 0) (tB1 (zF 3 wT (zY (xA "Curve" "dims" (eV 1)) (zY (eV 2) (zY (eV 0) zS))))) (zF 3 vF (zY (eV 1) (zY (eV 2) (zY (eV 0) zS))))))))
def uV:Sf:=(zI (yY 3 (eL (wE 1 sZ (zY (zF 3 vG (zY (eV 0) (zY (eV 1) (zY (eV 2) zS)))) zS))))
   (nJ))
def aK:Sf :=
   (uV)
def pA:List D->Option D:=fnF 4 aK
theorem cE (T:Txt K mg):OkT P w base T.q32 5 3 pA :=
 xB (k:=4) T.q32.F lZ fun cdv A outer s H E hr =>
   (zV uV rfl (zN 3 lZ.nd (vR (cH (iY T) hr (zZ (xR (iC T) hr (zZ (zU 0) (zZ (zU 1) (zZ (zU 2) zW)))) zW))))
     (zR (yX (vR (zVQ rfl T.z_sorted (zYt (xH (zT sN) ["curve","level","number","around"] ["place"] ["curve","level"] [0,1] (uF 0) (zXB (zU 3)) rfl rfl rfl (by decide +kernel) (fun _ _ _ _=>(yK 0 (show(List.Nodup (α:=PySem.Str) ["place","curve","level"]) from by decide +kernel))) (fun _ _ _ _=>(zVz (rJ (xR (jD T) hr (zZ (vP T.ca_Curve T.cl_Curve T.n_Curve_dims (zU 1)) (zZ (zU 2) (zZ (zU 0) zW))))))) (fun _ _ _ _=>(xR (aE T) hr (zZ (zU 1) (zZ (zU 2) (zZ (zU 0) zW))))))))))))
theorem xO:FnScope ["_law_place_here","_law_level_here","_law_side","_law_k","_law_found","_law_axis","_law_step","_law_other"] ["_law_place_here","_law_level_here"] (zT oX):=yI (by decide +kernel)
def oJ:Sf:=(yY 2 (mG (eV 2) (eV 2)))
def oF:Sf:=(sIf (eB3 gLe gLt (eC (.int 0)) (zYq 7 (eV 5)) (eV 2)) (dU 7 (jZ 4 (yA (eV 7)))) tO)
def tK:Sf:=(zI (lV 7 (eV 5) (mG (zYq 7 (eV 5)) (eV 6)))
   (oF))
def xU:Sf:=(zI (vC 7 (mI (eV 0)))
   (tK))
def wJ:Sf:=(vU (yE (zY (eC (.int 1)) (zY (zU9 (eC (.int 1))) zS))) (gN 6) (xU))
def mO:Sf:=(jM 4)
def mX:Sf:=(zI (vU (iR (vZ (eV 0))) (gN 5) (wJ))
   (mO))
def rQ:Sf:=(zI (vC 4 (yE zS))
   (mX))
def rT:Sf:=(zI (vU (iR (eV 1)) (gN 3) (oJ))
   (rQ))
def uN:Sf:=(zI (yY 2 (eC (.int 1)))
   (rT))
def zZq:Sf :=
   (uN)
def sR:List D->Option (List D):=fnL 8 zZq
theorem cN (T:Txt K mg):aN P w base T.q33 1 2 sR :=
 pF (k:=0) T.q33.F xO fun cdv A outer s H E hr =>
   (zV uN rfl (zN 2 xO.nd zX)
     (zV rT rfl (wY Wi rfl (kI rfl T.z_range (zU 1)) (yK 3 xO.nd) (zR (zN 2 xO.nd (qU (zU 2) (zU 2)))))
     (zV rQ rfl (wC 4 xO.nd (yP zW))
     (zV mX rfl (wY Wi rfl (kI rfl T.z_range (uQ rfl T.z_len (zU 0))) (yK 5 xO.nd) (zR (wY Wi rfl (zUL (yP (zZ zX (zZ (zX9 zX) zW)))) (yK 6 xO.nd) (zV xU rfl (wC 7 xO.nd (iU rfl T.z_list (zU 0)))
     (zV tK rfl (jY 7 (qU (zXU 7 (zU 5)) (zU 6)) (zU 5))
     (zR (wX (bO zUk zUc zX (zXU 7 (zU 5)) (zU 2)) (zR (pY 7 (iK 4 (hZ Wn Eg Eh uB (pv 4) (yM (xF rfl T.z_tuple (zU 7)) xT))))) yB)))))))
     (zR (oO 4))))))
theorem zXe:FnScope ["one","other"] ["one","other"] (zT mL):=yI (by decide +kernel)
def zY5:Sf:=(xQ (wF (eB2 gEq (zTq (yO (zTO (eV 0) (eV 1)) 2 [] (gT (zO (gN 0) (zO (gN 1) yD))) tOK (zQY (mD (eV 0) (eV 1))))) (eC (.int 1)))))
def zVY:Sf :=
   (zY5)
def pP:List D->Option D:=fnF 2 zVY
theorem fH (T:Txt K mg):OkT P w base T.q34 1 2 pP :=
 xB (k:=0) T.q34.F zXe fun cdv A outer s H E hr =>
   (zR (yX (qA uJ (zSS rfl rfl T.z_sum (zYt (xH (zT mL) ["one","other"] ["along","across"] [] [] (zZr (yF (uF 0) (yF (uF 1) sM))) (zWB rfl T.z_zip (zU 0) (zU 1)) rfl rfl rfl (by decide +kernel) (fun _ _ _ _=>(oB 2 rfl (zJ (yK 0 (show(List.Nodup (α:=PySem.Str) ["along","across"]) from by decide +kernel)) (zJ (yK 1 (show(List.Nodup (α:=PySem.Str) ["along","across"]) from by decide +kernel)) yC)) (zA (zA xK)))) (fun _ _ _ _=>yJ) (fun _ _ _ _=>(zRB rfl T.z_abs (lA (zU 0) (zU 1))))))) zX)))
theorem vV:FnScope ["_law_curve_here","_law_parts","_law_level_here","_law_asked","_law_place_here","_law_found","_law_due","_law_number_here","_law_other"] ["_law_curve_here","_law_parts","_law_level_here","_law_asked"] (zT nL):=yI (by decide +kernel)
def nM:Sf:=(sIf (zYn (eB2 gK (eV 8) (eV 6)) (eB2 zW4 (zF 2 pP (zY (eV 4) (zY (eV 8) zS))) (eC (.bl true)))) (xQ (eC (.bl false))) tO)
def sI:Sf:=(zI (yY 8 (zF 3 vG (zY (eV 0) (zY (eV 2) (zY (eV 7) zS)))))
   (nM))
def uO:Sf:=(zI (sIf (zYn (qZ (tB1 (zV3 isInt (eV 7)))) (tB1 (zV3 fR (eV 7)))) (xQ (eC (.bl false))) tO)
   (sI))
def mB:Sf:=(xQ (wF (eB2 zPP (zF 2 pP (zY (eV 4) (zY (eV 4) zS))) (eC (.bl false)))))
def qX:Sf:=(zI (vU (iL (eV 5)) (gN 7) (uO))
   (mB))
def qK:Sf:=(zI (sIf (zYn (qZ (tB1 (zV3 bI (eV 5)))) (zYn (eB2 zXv (vZ (eV 5)) (vZ (eV 6))) (eB2 zXv (eV 5) (eL (pS (iL (eV 5))))))) (xQ (eC (.bl false))) tO)
   (qX))
def qQ:Sf:=(zI (yY 6 (eL (wE 2 sR (zY (eV 4) (zY (eV 2) zS)))))
   (qK))
def qS:Sf:=(zI (yY 5 (zF 3 pA (zY (eV 0) (zY (eV 2) (zY (eV 3) zS)))))
   (qQ))
def tT:Sf:=(zI (yY 4 (zF 4 mV (zY (eV 1) (zY (xA "Curve" "dims" (eV 0)) (zY (eV 2) (zY (eV 3) zS))))))
   (qS))
def zYI:Sf :=
   (tT)
def mP:List D->Option D:=fnF 9 zYI
theorem zZA (T:Txt K mg):OkT P w base T.q35 6 4 mP :=
 xB (k:=5) T.q35.F vV fun cdv A outer s H E hr =>
   (zV tT rfl (zN 4 vV.nd (xR (zZo T) hr (zZ (zU 1) (zZ (vP T.ca_Curve T.cl_Curve T.n_Curve_dims (zU 0)) (zZ (zU 2) (zZ (zU 3) zW))))))
     (zV qS rfl (zN 5 vV.nd (xR (cE T) hr (zZ (zU 0) (zZ (zU 2) (zZ (zU 3) zW)))))
     (zV qQ rfl (zN 6 vV.nd (vR (cH (cN T) hr (zZ (zU 4) (zZ (zU 2) zW)))))
     (zV qK rfl (wX (zQV (aH (jE (rJ (zXQ (T:="list") (TT:="list") rfl zRo rfl T.z_isinstance rfl T.z_list (zU 5)))) (aH (xC (zTJ hr) (uQ rfl T.z_len (zU 5)) (uQ rfl T.z_len (zU 6))) (zZO (xC (zTJ hr) (zU 5) (vR (zXd rfl rfl T.z_sorted rfl T.z_set (hV (zU 5))))))))) (zR (yX kF)) yB)
     (zV qX rfl (wY Wi rfl (zXB (zU 5)) (yK 7 vV.nd) (zV uO rfl (wX (zQV (aH (jE (rJ (zXQ (T:="int") (TT:="int") rfl zRN rfl T.z_isinstance rfl T.z_int (zU 7)))) (zZO (rJ (zXQ (T:="bool") (TT:="bool") rfl zST rfl T.z_isinstance rfl T.z_bool (zU 7)))))) (zR (yX kF)) yB)
     (zV sI rfl (zN 8 vV.nd (xR (iC T) hr (zZ (zU 0) (zZ (zU 2) (zZ (zU 7) zW)))))
     (zR (wX (zQV (aH (xC (zVf hr) (zU 8) (zU 6)) (zZO (xC zTk (xR (fH T) hr (zZ (zU 4) (zZ (zU 8) zW))) kF)))) (zR (yX kF)) yB)))))
     (zR (yX (qA zQX (xR (fH T) hr (zZ (zU 4) (zZ (zU 4) zW))) kF))))))))
theorem vO:FnScope ["_law_cell","_law_dims","_law_level_here","_law_base_here","_law_k","_law_big"] ["_law_cell","_law_dims","_law_level_here"] (zT oR):=yI (by decide +kernel)
def vI:Sf:=(yY 3 (bR (eV 3) (eIx (eL (yE (zY (eC (.int 4)) (zY (eC (.int 8)) zS)))) (mD (eV 1) (eC (.int 2))))))
def gA:Sf:=(xQ (eV 5))
def uL:Sf:=(zI (sIf (eB2 gEq (xJ (eV 0) (eC (.int 5))) (eC (.int 1))) (xQ (mD (eV 3) (eC (.int 1)))) tO)
   (gA))
def wW:Sf:=(zI (sIf (eB2 gEq (xJ (eV 0) (eC (.int 5))) (eC (.int 0))) (xQ (eC (.int 0))) tO)
   (uL))
def rY:Sf:=(zI (yY 5 (xJ (bR (eV 0) (zS5 (eC (.int 7046029254386353131)) (eC (.int 3)))) (eV 3)))
   (wW))
def sD:Sf:=(zI (vU (iR (eV 2)) (gN 4) (vI))
   (rY))
def w9:Sf:=(zI (yY 3 (eC (.int 1)))
   (sD))
def zZ0:Sf :=
   (w9)
def oW:List D->Option D:=fnF 6 zZ0
theorem cK (T:Txt K mg):OkT P w base T.q36 1 3 oW :=
 xB (k:=0) T.q36.F vO fun cdv A outer s H E hr =>
   (zV w9 rfl (zN 3 vO.nd zX)
     (zV sD rfl (wY Wi rfl (kI rfl T.z_range (zU 2)) (yK 4 vO.nd) (zR (zN 3 vO.nd (zWA (zU 3) (wK (vR (yP (zZ zX (zZ zX zW)))) (lA (zU 1) zX))))))
     (zV rY rfl (zN 5 vO.nd (xW (zWA (zU 0) (zQB zX zX)) (zU 3)))
     (zV wW rfl (wX (xC uJ (xW (zU 0) zX) zX) (zR (yX zX)) yB)
     (zV uL rfl (wX (xC uJ (xW (zU 0) zX) zX) (zR (yX (lA (zU 3) zX))) yB)
     (zR (yX (zU 5))))))))
theorem kO:FnScope ["_law_script","_law_cell","_law_number_here","_law_dims","_law_level_here","_law_parts","_law_curve_here"] ["_law_script"] (zT zTP):=yI (by decide +kernel)
def zZc:Sf:=(sIf (qZ (tB1 (zF 4 mP (zY (eV 6) (zY (eV 5) (zY (eV 4) (zY (zF 3 oW (zY (eV 1) (zY (eV 3) (zY (eV 4) zS)))) zS))))))) (xQ (eC (.bl false))) tO)
def fE:Sf:=(zI (yY 6 (zF 3 nA (zY (eV 3) (zY (wF (eB2 gEq (xJ (vD (eV 2) (eC (.int 800))) (eC (.int 2))) (eC (.int 1)))) (zY (eV 5) zS)))))
   (zZc))
def eB:Sf:=(zI (yY 5 (eL (wE 2 oA (zY (eV 3) (zY (eV 1) zS)))))
   (fE))
def dW:Sf:=(zI (yY 4 (zF 1 nE (zY (vD (eV 2) (eC (.int 2))) zS)))
   (eB))
def fJ:Sf:=(zI (yY 3 (mG (eC (.int 2)) (xJ (eV 2) (eC (.int 2)))))
   (dW))
def pJ:Sf:=(zI (yY 2 (zF 2 wH (zY (eV 1) (zY (eC (.int 69621)) zS))))
   (fJ))
def zWI:Sf:=(xQ (eC (.bl true)))
def zWS:Sf:=(zI (vU (gM (lD (eV 0) oNo (lQ (eC (.int 4)))) (yE (zY (eC (.int 11)) zS))) (gN 1) (pJ))
   (zWI))
def zPF:Sf :=
   (zWS)
def bF:List D->Option D:=fnF 7 zPF
theorem zQU (T:Txt K mg):OkT P w base T.q37 7 1 bF :=
 xB (k:=6) T.q37.F kO fun cdv A outer s H E hr =>
   (zV zWS rfl (wY Wi rfl (zUL (zUW (zT0 (zU 0) zUA (zWk zX)) (yP (zZ zX zW)))) (yK 1 kO.nd) (zV pJ rfl (zN 2 kO.nd (xR (sE T) hr (zZ (zU 1) (zZ zX zW))))
     (zV fJ rfl (zN 3 kO.nd (qU zX (xW (zU 2) zX)))
     (zV dW rfl (zN 4 kO.nd (xR (zZ9 T) hr (zZ (wQ (zU 2) zX) zW)))
     (zV eB rfl (zN 5 kO.nd (vR (cH (zZn T) hr (zZ (zU 3) (zZ (zU 1) zW)))))
     (zV fE rfl (zN 6 kO.nd (xR (zZT T) hr (zZ (zU 3) (zZ (qA uJ (xW (wQ (zU 2) zX) zX) zX) (zZ (zU 5) zW)))))
     (zR (wX (jE (rJ (xR (zZA T) hr (zZ (zU 6) (zZ (zU 5) (zZ (zU 4) (zZ (xR (cK T) hr (zZ (zU 1) (zZ (zU 3) (zZ (zU 4) zW)))) zW))))))) (zR (yX kF)) yB))))))))
     (zR (yX kF)))
end
open PySem.W
theorem zRU {l:OpenLaw}{w:World}{K:Frag}{h:Heap}{mg:Str->Option Value}{fa:Addr}
   {cC0 cF0:Addr} {codi0 cani0:Option Addr} {csl0:Array (Option Value)} {coc0 ckV0 cdc0 cpm0 ccd0 cct0:Value}
   {cC1 cF1:Addr} {codi1 cani1:Option Addr} {csl1:Array (Option Value)} {coc1 ckV1 cdc1 cpm1 ccd1 cct1:Value} (X:K.In h) (G:h.Ns mainGlobals mg) (hfa:mg "law"=some (.ref fa))
   (g0:wN K "_law_mix" jA)
   (g1:wN K "_law_level" nF)
   (g2:wN K "_law_base" kP)
   (g3:wN K "_law_turn" oU)
   (g4:wN K "_law_after" rK)
   (g5:wN K "_law_undone" pG)
   (g6:wN K "_law_turned" sL)
   (g7:wN K "_law_joined" sP)
   (g8:wN K "_law_altered" qG)
   (g9:wN K "_law_corners" vM)
   (g10:wN K "_law_loose" nV)
   (g11:wN K "_law_drawn" nN)
   (g12:wN K "_law_curve" rE)
   (g13:wN K "_law_state" rG)
   (g14:wN K "_law_part_at" qC)
   (g15:wN K "_law_place" rH)
   (g16:wN K "places_around" tE)
   (g17:wN K "still" gH)
   (g18:wN K "first_state" qF)
   (g19:wN K "digits_of" mU)
   (g20:wN K "walked" fK)
   (g21:wN K "after" gE)
   (g22:wN K "turned" kC)
   (g23:wN K "part_at" iZ)
   (g24:wN K "deeper" jF)
   (g25:wN K "full" zXn)
   (g26:wN K "place_at" kU)
   (g27:wN K "has_place" rM)
   (g28:wN K "ask_place" mW)
   (g29:wN K "undone" dE)
   (g30:wN K "digit_at" oM)
   (g31:wN K "number_at" rN)
   (g32:wN K "neighbours" sN)
   (g33:wN K "_law_beside" oX)
   (g34:wN K "next_to" mL)
   (g35:wN K "_law_right" nL)
   (g36:wN K "_law_number" oR)
   (g37:wN K "law" zTP)
   (ca0:nsIn K mainGlobals "Curve"=some (some (.ref cC0))) (ci0:findIn K (.ref cC0) "__init__"=some (some (.ref cF0))) (cn0:isFn K (.ref cF0)=true) (cl0:K.lookup cF0=some ⟨coc0,codi0,.func (fnOf "__init__" "Curve.__init__" (uW pM) (wP pM) (zT pM) .none ckV0 cdc0 cpm0 cani0 ccd0 cct0),csl0⟩) (cc0:codeIn K ccd0 "Curve.__init__"=true) (ck0:keepIn K (.ref cF0)=true)
   (cpg0:plainGet K cC0 Str.empty=true) (chd0:hasDictIn K cC0=true) (cpo0:plainOver K cC0=true) (csa0:findIn K (.ref cC0) "__setattr__"=some (some (.builtin "object.__setattr__"))) (cmk0:makesIn K cC0=true) (ckc0:keepIn K (.ref cC0)=true)
   (cf0_dims:findIn K (.ref cC0) "dims"=some none)
   (cf0_joined:findIn K (.ref cC0) "joined"=some none)
   (cf0_name:findIn K (.ref cC0) "name"=some none)
   (cf0_parts:findIn K (.ref cC0) "parts"=some none)
   (ca1:nsIn K mainGlobals "Part"=some (some (.ref cC1))) (ci1:findIn K (.ref cC1) "__init__"=some (some (.ref cF1))) (cn1:isFn K (.ref cF1)=true) (cl1:K.lookup cF1=some ⟨coc1,codi1,.func (fnOf "__init__" "Part.__init__" (uW mN) (wP mN) (zT mN) .none ckV1 cdc1 cpm1 cani1 ccd1 cct1),csl1⟩) (cc1:codeIn K ccd1 "Part.__init__"=true) (ck1:keepIn K (.ref cF1)=true)
   (cpg1:plainGet K cC1 Str.empty=true) (chd1:hasDictIn K cC1=true) (cpo1:plainOver K cC1=true) (csa1:findIn K (.ref cC1) "__setattr__"=some (some (.builtin "object.__setattr__"))) (cmk1:makesIn K cC1=true) (ckc1:keepIn K (.ref cC1)=true)
   (cf1_back:findIn K (.ref cC1) "back"=some none)
   (cf1_corner:findIn K (.ref cC1) "corner"=some none)
   (cf1_turn:findIn K (.ref cC1) "turn"=some none)
   (z_abs:nsIn K mainGlobals "abs"=some none)
   (z_all:nsIn K mainGlobals "all"=some none)
   (z_bool:nsIn K mainGlobals "bool"=some none)
   (z_int:nsIn K mainGlobals "int"=some none)
   (z_isinstance:nsIn K mainGlobals "isinstance"=some none)
   (z_len:nsIn K mainGlobals "len"=some none)
   (z_list:nsIn K mainGlobals "list"=some none)
   (z_range:nsIn K mainGlobals "range"=some none)
   (z_reversed:nsIn K mainGlobals "reversed"=some none)
   (z_set:nsIn K mainGlobals "set"=some none)
   (z_sorted:nsIn K mainGlobals "sorted"=some none)
   (z_sum:nsIn K mainGlobals "sum"=some none)
   (z_tuple:nsIn K mainGlobals "tuple"=some none)
   (z_zip:nsIn K mainGlobals "zip"=some none) :
   ∃fd:FuncData,(∀(s:Shared) (v:Value),BindsTo s fd ⟨[v],[]⟩ [("_law_script",v)])/\∀base:Heap,K.In base->base.Ns mainGlobals mg->FnOk l.prog w K mg base CX0 7 fa fd ["_law_script"] (spF K 1 bF):=by
 have cFF0:=zZ1 (st:=pM) cl0 cc0 ck0
 have cb0:=cFF0.binds (ps:=["self","name","dims","joined","parts"]) fun _ _ _ _ _ _ us hl=>match us,hl with | [_,_,_,_,_],_=>rfl
 have cFF1:=zZ1 (st:=mN) cl1 cc1 ck1
 have cb1:=cFF1.binds (ps:=["self","corner","turn","back"]) fun _ _ _ _ _ _ us hl=>match us,hl with | [_,_,_,_],_=>rfl
 exact zRc _ (bd1 fun _ _ _ _ _ _ _=>rfl) hfa fun base=>zQU ({ q0:=wL X G g0 (bd2 fun _ _ _ _ _ _ _ _=>rfl),q1:=wL X G g1 (bd1 fun _ _ _ _ _ _ _=>rfl),q2:=wL X G g2 (bd1 fun _ _ _ _ _ _ _=>rfl),q3:=wL X G g3 (bd2 fun _ _ _ _ _ _ _ _=>rfl),q4:=wL X G g4 (bd2 fun _ _ _ _ _ _ _ _=>rfl),q5:=wL X G g5 (bd1 fun _ _ _ _ _ _ _=>rfl),q6:=wL X G g6 (bd2 fun _ _ _ _ _ _ _ _=>rfl),q7:=wL X G g7 (bd2 fun _ _ _ _ _ _ _ _=>rfl),q8:=wL X G g8 (bd2 fun _ _ _ _ _ _ _ _=>rfl),q9:=wL X G g9 (bd1 fun _ _ _ _ _ _ _=>rfl),q10:=wL X G g10 (bd2 fun _ _ _ _ _ _ _ _=>rfl),q11:=wL X G g11 (bd2 fun _ _ _ _ _ _ _ _=>rfl),q12:=wL X G g12 (bd3 fun _ _ _ _ _ _ _ _ _=>rfl),q13:=wL X G g13 (bd1 fun _ _ _ _ _ _ _=>rfl),q14:=wL X G g14 (bd3 fun _ _ _ _ _ _ _ _ _=>rfl),q15:=wL X G g15 (bd4 fun _ _ _ _ _ _ _ _ _ _=>rfl),q16:=wL X G g16 (bd1 fun _ _ _ _ _ _ _=>rfl),q17:=wL X G g17 (bd1 fun _ _ _ _ _ _ _=>rfl),q18:=wL X G g18 (bd1 fun _ _ _ _ _ _ _=>rfl),q19:=wL X G g19 (bd3 fun _ _ _ _ _ _ _ _ _=>rfl),q20:=wL X G g20 (bd3 fun _ _ _ _ _ _ _ _ _=>rfl),q21:=wL X G g21 (bd2 fun _ _ _ _ _ _ _ _=>rfl),q22:=wL X G g22 (bd2 fun _ _ _ _ _ _ _ _=>rfl),q23:=wL X G g23 (bd3 fun _ _ _ _ _ _ _ _ _=>rfl),q24:=wL X G g24 (bd2 fun _ _ _ _ _ _ _ _=>rfl),q25:=wL X G g25 (bd2 fun _ _ _ _ _ _ _ _=>rfl),q26:=wL X G g26 (bd3 fun _ _ _ _ _ _ _ _ _=>rfl),q27:=wL X G g27 (bd3 fun _ _ _ _ _ _ _ _ _=>rfl),q28:=wL X G g28 (bd3 fun _ _ _ _ _ _ _ _ _=>rfl),q29:=wL X G g29 (bd1 fun _ _ _ _ _ _ _=>rfl),q30:=wL X G g30 (bd3 fun _ _ _ _ _ _ _ _ _=>rfl),q31:=wL X G g31 (bd3 fun _ _ _ _ _ _ _ _ _=>rfl),q32:=wL X G g32 (bd3 fun _ _ _ _ _ _ _ _ _=>rfl),q33:=wL X G g33 (bd2 fun _ _ _ _ _ _ _ _=>rfl),q34:=wL X G g34 (bd2 fun _ _ _ _ _ _ _ _=>rfl),q35:=wL X G g35 (bd4 fun _ _ _ _ _ _ _ _ _ _=>rfl),q36:=wL X G g36 (bd3 fun _ _ _ _ _ _ _ _ _=>rfl),q37:=wL X G g37 (bd1 fun _ _ _ _ _ _ _=>rfl),C_Curve:=_,fi_Curve:=_,fdi_Curve:=_,ca_Curve:=ca0,cl_Curve:=⟨cpg0,chd0,cpo0,csa0⟩,mc_Curve:=mg_of X G ca0,Fi_Curve:=cFF0,bi_Curve:=cb0,mk_Curve:=⟨cmk0,ci0,cn0,ckc0⟩,n_Curve_dims:=cf0_dims,n_Curve_joined:=cf0_joined,n_Curve_name:=cf0_name,n_Curve_parts:=cf0_parts,C_Part:=_,fi_Part:=_,fdi_Part:=_,ca_Part:=ca1,cl_Part:=⟨cpg1,chd1,cpo1,csa1⟩,mc_Part:=mg_of X G ca1,Fi_Part:=cFF1,bi_Part:=cb1,mk_Part:=⟨cmk1,ci1,cn1,ckc1⟩,n_Part_back:=cf1_back,n_Part_corner:=cf1_corner,n_Part_turn:=cf1_turn,z_abs:=mg_none_of X G z_abs,z_all:=mg_none_of X G z_all,z_bool:=mg_none_of X G z_bool,z_int:=mg_none_of X G z_int,z_isinstance:=mg_none_of X G z_isinstance,z_len:=mg_none_of X G z_len,z_list:=mg_none_of X G z_list,z_range:=mg_none_of X G z_range,z_reversed:=mg_none_of X G z_reversed,z_set:=mg_none_of X G z_set,z_sorted:=mg_none_of X G z_sorted,z_sum:=mg_none_of X G z_sum,z_tuple:=mg_none_of X G z_tuple,z_zip:=mg_none_of X G z_zip }:Txt K mg)
theorem zRL {K:Frag}{H:Hp}{a:Addr}{ns:List Int}(hS:SqL K H a (ns.map V.int))(h:bF [.lst (ns.map .int)]=some (.bl true)):spF K 1 bF [.ref a] H (fun v _=>v = .bl true) fun _ _ _=>False:=by
 have rs:∀ns:List Int,Reps K H (ns.map .int) (ns.map V.int):=fun ns=>by
   induction ns with
   | nil=>exact z0.mpr rfl
   | cons n r ih=>exact zH.mpr ⟨_,_,rfl,zG.mpr rfl,ih⟩
 exact⟨H,[.lst (ns.map .int)],.bl true,Same.refl _,zH.mpr ⟨_,_,rfl,y0.mpr ⟨a,_,rfl,hS,rs ns⟩,z0.mpr rfl⟩,rfl,h,fun v H' G' _ r=>yG.mp r⟩
end My
namespace My
open PySem L2
theorem zSh:rO 0 2=[.int 0,.int 1]:=rfl
theorem zQx:rO 0 3=[.int 0,.int 1,.int 2]:=rfl
theorem bit (x:Int):x % 2=0∨x % 2=1:=by omega
def zVy (a b c:Int):Prop:=(a=0/\b=1/\c=2)∨(a=0/\b=2/\c=1)∨(a=1/\b=0/\c=2)∨(a=1/\b=2/\c=0)∨(a=2/\b=0/\c=1)∨(a=2/\b=1/\c=0)
abbrev Tn:=List (Int×Int)
def kQ (p:Int×Int):D:=.tup [.int p.1,.int p.2]
def zK (t:Tn):D:=.tup (t.map kQ)
def zQ (c:List Int):D:=.tup (c.map .int)
def zM (t:Tn)(c:List Int):List Int:=t.map fun p=>Builtin.bitXor (c.getD p.1.toNat 0) p.2
def yS (t u:Tn):Tn:=t.map fun p=>((u.getD p.1.toNat (0,0)).1,Builtin.bitXor (u.getD p.1.toNat (0,0)).2 p.2)
theorem kX {elt:Ef}{h:Int×Int->D}{rest:List B}:∀(t:Tn) (x0 x1:B) (acc:List D),(∀p∈t,elt (.fz (.int p.1) :: .fz (.int p.2)::rest)=some (h p)) ->
   uE (gT (zO (gN 0) (zO (gN 1) yD))) tOK elt (t.map kQ) (x0::x1::rest) acc=some (acc++t.map h)
 | [],_,_,acc,_=>by simp[uE]
 | p::r,x0,x1,acc,hh=>by
   rw[Qb]
   unfold uE
   have e1:gT (zO (gN 0) (zO (gN 1) yD)) (kQ p) (x0::x1::rest)=some (.fz (.int p.1) :: .fz (.int p.2)::rest):=rfl
   rw[e1,Qe]
   have e2:tOK (.fz (.int p.1) :: .fz (.int p.2)::rest)=some true:=rfl
   rw[e2,Qe,Qc rfl,hh p Qj,Qe,kX r _ _ _ fun q hq=>hh q (Qd _ hq)]
   simp
theorem fT {α:Type}(xs:List α)(i:Int)(d:α)(h0:0<=i)(h1:i < xs.length):atI xs i=some (xs.getD i.toNat d):=by
 unfold atI ixN
 rw[Qc h0,Qc h1]
 have:i.toNat < xs.length:=by omega
 simp[List.getD,this]
def zQK (t:Tn)(n:Nat):Prop:=∀p∈t,0<=p.1/\p.1 < n
theorem zWO {t:List D}(h:t.length<=1000):okL t=some t:=by
 unfold okL
 rw[Qc (Wh h (by decide))]
theorem jW {α β:Type}(f:α->β)(xs:List α)(i:Int):atI (xs.map f) i=(atI xs i).map f:=by
 unfold atI
 rw[Qo]
 cases ixN xs.length i with
 | none=>rfl
 | some j=>simp
theorem iP (t:Tn)(c:List Int)(h:zQK t c.length)(hl:t.length<=1000):uI [zK t,zQ c]=some (zQ (zM t c)):=by
 have e1:rV 2 [zK t,zQ c]=[.fz (zK t),.fz (zQ c)]:=rfl
 have e2:=kX (elt:=zZU (eIx (eV 2) (eV 0)) (eV 1)) (h:=fun p=>.int (Builtin.bitXor (c.getD p.1.toNat 0) p.2)) (rest:=[.fz (zQ c)]) t .no .no [] fun p hp=>by
   obtain⟨h0,h1⟩:=h p hp
   simp[eI,eIx,eV,sQ,zQ,atD,jW,fT c p.1 0 h0 h1]
 have e3:okL (t.map kQ)=some (t.map kQ):=zWO (by rw[Qo];exact hl)
 have e4:upB 2 [1] [.fz (zK t),.fz (zQ c)]=[.no,.no,.fz (zQ c)]:=rfl
 unfold uI fnF
 rw[e1]
 have e5:yO (iT (eV 0)) 2 [1] (gT (zO (gN 0) (zO (gN 1) yD))) tOK (zZU (eIx (eV 2) (eV 0)) (eV 1)) [.fz (zK t),.fz (zQ c)]=some (t.map fun p=>D.int (Builtin.bitXor (c.getD p.1.toNat 0) p.2)):=by
   unfold yO
   have e6:iT (eV 0) [.fz (zK t),.fz (zQ c)]=some (t.map kQ):=rfl
   rw[e6,Qe,e3,Qe,e4,e2]
   simp
 simp only[zYa,eN,xQ,yA,eL,e5,Wq,Qe,zXV,vQ]
 simp only[zQ,zM,Tj,Function.comp_def]
theorem zY0 (t u:Tn)(h:zQK t u.length)(hl:t.length<=1000):pC [zK t,zK u]=some (zK (yS t u)):=by
 have e1:rV 2 [zK t,zK u]=[.fz (zK t),.fz (zK u)]:=rfl
 have e2:=kX (elt:=zC (zY (eIx (eIx (eV 2) (eV 0)) (eC (.int 0))) (zY (zZU (eIx (eIx (eV 2) (eV 0)) (eC (.int 1))) (eV 1)) zS))) (h:=fun p=>kQ ((u.getD p.1.toNat (0,0)).1,Builtin.bitXor (u.getD p.1.toNat (0,0)).2 p.2)) (rest:=[.fz (zK u)]) t .no .no [] fun p hp=>by
   obtain⟨h0,h1⟩:=h p hp
   have a0:∀x y:D,atI [x,y] 0=some x:=fun _ _=>rfl
   have a1:∀x y:D,atI [x,y] 1=some y:=fun _ _=>rfl
   simp[eI,eIx,eV,eC,sQ,zK,atD,jW,fT u p.1 (0,0) h0 h1,kQ,zC,zY,zS,okL,lim,a0,a1]
 have e3:okL (t.map kQ)=some (t.map kQ):=zWO (by rw[Qo];exact hl)
 have e4:upB 2 [1] [.fz (zK t),.fz (zK u)]=[.no,.no,.fz (zK u)]:=rfl
 unfold pC fnF
 rw[e1]
 have e5:yO (iT (eV 0)) 2 [1] (gT (zO (gN 0) (zO (gN 1) yD))) tOK (zC (zY (eIx (eIx (eV 2) (eV 0)) (eC (.int 0))) (zY (zZU (eIx (eIx (eV 2) (eV 0)) (eC (.int 1))) (eV 1)) zS))) [.fz (zK t),.fz (zK u)]=some (t.map fun p=>kQ ((u.getD p.1.toNat (0,0)).1,Builtin.bitXor (u.getD p.1.toNat (0,0)).2 p.2)):=by
   unfold yO
   have e6:iT (eV 0) [.fz (zK t),.fz (zK u)]=some (t.map kQ):=rfl
   rw[e6,Qe,e3,Qe,e4,e2]
   simp
 simp only[zWj,aZ,xQ,yA,eL,e5,Wq,Qe,zXV,vQ]
 simp only[zK,yS,Tj,Function.comp_def]
def vE:List Int:=[0,1]
def wS:List Tn:=[((0:Int),(1:Int)),(1,0)].flatMap fun o=>vE.flatMap fun f=>vE.map fun g=>[(o.1,f),(o.2,g)]
def wO:List Tn:=[((0:Int),(1:Int),(2:Int)),(0,2,1),(1,0,2),(1,2,0),(2,0,1),(2,1,0)].flatMap fun o=>vE.flatMap fun f=>vE.flatMap fun g=>vE.map fun h=>[(o.1,f),(o.2.1,g),(o.2.2,h)]
theorem zQR {a b f g:Int}(h1:a=0/\b=1∨a=1/\b=0)(h2:f=0∨f=1)(h3:g=0∨g=1):[(a,f),(b,g)]∈wS:=by
 rcases h1 with⟨rfl,rfl⟩ | ⟨rfl,rfl⟩<;>rcases h2 with rfl | rfl<;>rcases h3 with rfl | rfl<;>decide
theorem zQq {a b c f g h:Int}(h1:zVy a b c)(h2:f=0∨f=1)(h3:g=0∨g=1)(h4:h=0∨h=1):[(a,f),(b,g),(c,h)]∈wO:=by
 rcases h1 with⟨rfl,rfl,rfl⟩ | ⟨rfl,rfl,rfl⟩ | ⟨rfl,rfl,rfl⟩ | ⟨rfl,rfl,rfl⟩ | ⟨rfl,rfl,rfl⟩ | ⟨rfl,rfl,rfl⟩<;>rcases h2 with rfl | rfl<;>rcases h3 with rfl | rfl<;>rcases h4 with rfl | rfl<;>decide
theorem zZZ {t:Tn}(h:t∈wS):∃a b f g,(a=0/\b=1∨a=1/\b=0)/\(f=0∨f=1)/\(g=0∨g=1)/\t=[(a,f),(b,g)]:=by
 simp only[wS,vE,List.mem_flatMap,Wc,Qk,We,Rw] at h
 obtain⟨o,ho,f,hf,g,hg,rfl⟩:=h
 refine⟨o.1,o.2,f,g,?_,hf,hg,rfl⟩
 rcases ho with rfl | rfl
 · exact .inl ⟨rfl,rfl⟩
 · exact .inr ⟨rfl,rfl⟩
theorem zZy {t:Tn}(h:t∈wO):∃a b c f g j,zVy a b c/\(f=0∨f=1)/\(g=0∨g=1)/\(j=0∨j=1)/\t=[(a,f),(b,g),(c,j)]:=by
 simp only[wO,vE,List.mem_flatMap,Wc,Qk,We,Rw] at h
 obtain⟨o,ho,f,hf,g,hg,j,hj,rfl⟩:=h
 refine⟨o.1,o.2.1,o.2.2,f,g,j,?_,hf,hg,hj,rfl⟩
 unfold zVy
 rcases ho with rfl | rfl | rfl | rfl | rfl | rfl<;>simp
structure Tr (n:Nat)(t:Tn):Prop where
 len:t.length=n
 fits:zQK t n
 flip:∀p∈t,p.2=0∨p.2=1
theorem tr2 {t:Tn}(h:t∈wS):Tr 2 t:=by
 obtain⟨a,b,f,g,h1,h2,h3,rfl⟩:=zZZ h
 refine⟨rfl,fun p hp=>?_,fun p hp=>?_⟩
 · simp only[Qk,We,Rw] at hp
   rcases h1 with⟨rfl,rfl⟩ | ⟨rfl,rfl⟩<;>rcases hp with rfl | rfl<;>exact⟨by simp,by simp⟩
 · simp only[Qk,We,Rw] at hp
   rcases hp with rfl | rfl
   · exact h2
   · exact h3
theorem tr3 {t:Tn}(h:t∈wO):Tr 3 t:=by
 obtain⟨a,b,c,f,g,j,h1,h2,h3,h4,rfl⟩:=zZy h
 refine⟨rfl,fun p hp=>?_,fun p hp=>?_⟩
 · simp only[Qk,We,Rw] at hp
   unfold zVy at h1
   rcases h1 with⟨rfl,rfl,rfl⟩ | ⟨rfl,rfl,rfl⟩ | ⟨rfl,rfl,rfl⟩ | ⟨rfl,rfl,rfl⟩ | ⟨rfl,rfl,rfl⟩ | ⟨rfl,rfl,rfl⟩<;>rcases hp with rfl | rfl | rfl<;>exact⟨by simp,by simp⟩
 · simp only[Qk,We,Rw] at hp
   rcases hp with rfl | rfl | rfl
   · exact h2
   · exact h3
   · exact h4
def zTF (t:Tn):Bool:=match t with | [(a,f),(b,g)]=>(decide (a=0)&&decide (b=1)||decide (a=1)&&decide (b=0))&&(decide (f=0)||decide (f=1))&&(decide (g=0)||decide (g=1)) | _=>false
def zQh (a b c:Int):Bool:=(decide (a=0)&&decide (b=1)&&decide (c=2))||(decide (a=0)&&decide (b=2)&&decide (c=1))||(decide (a=1)&&decide (b=0)&&decide (c=2))||(decide (a=1)&&decide (b=2)&&decide (c=0))||(decide (a=2)&&decide (b=0)&&decide (c=1))||(decide (a=2)&&decide (b=1)&&decide (c=0))
def zUs (t:Tn):Bool:=match t with | [(a,f),(b,g),(c,h)]=>zQh a b c&&(decide (f=0)||decide (f=1))&&(decide (g=0)||decide (g=1))&&(decide (h=0)||decide (h=1)) | _=>false
theorem zYg {t:Tn}(h:zTF t=true):t∈wS:=by
 unfold zTF at h
 split at h
 · simp only[Qh,Tw,Qz] at h
   exact zQR h.1.1 h.1.2 h.2
 · cases h
theorem zYH {t:Tn}(h:zUs t=true):t∈wO:=by
 unfold zUs zQh at h
 split at h
 · simp only[Qh,Tw,Qz] at h
   obtain⟨⟨⟨h1,h2⟩,h3⟩,h4⟩:=h
   refine zQq ?_ h2 h3 h4
   unfold zVy
   rcases h1 with((((h1 | h1) | h1) | h1) | h1) | h1
   · exact .inl ⟨h1.1.1,h1.1.2,h1.2⟩
   · exact .inr (.inl ⟨h1.1.1,h1.1.2,h1.2⟩)
   · exact .inr (.inr (.inl ⟨h1.1.1,h1.1.2,h1.2⟩))
   · exact .inr (.inr (.inr (.inl ⟨h1.1.1,h1.1.2,h1.2⟩)))
   · exact .inr (.inr (.inr (.inr (.inl ⟨h1.1.1,h1.1.2,h1.2⟩))))
   · exact .inr (.inr (.inr (.inr (.inr ⟨h1.1.1,h1.1.2,h1.2⟩))))
 · cases h
theorem zXq {t u:Tn}(ht:t∈wS)(hu:u∈wS):yS t u∈wS:=by
 have key:(wS.all fun t=>wS.all fun u=>zTF (yS t u))=true:=by decide +kernel
 exact zYg (Ww.mp (Ww.mp key t ht) u hu)
theorem zXf {t u:Tn}(ht:t∈wO)(hu:u∈wO):yS t u∈wO:=by
 have key:(wO.all fun t=>wO.all fun u=>zUs (yS t u))=true:=by decide +kernel
 exact zYH (Ww.mp (Ww.mp key t ht) u hu)
def zS7 (k n:Nat):List Int:=(List.range n).map fun i=>(((k >>> i) % 2:Nat):Int)
def zD (n:Nat):List (List Int):=(List.range (2^n)).map fun k=>zS7 k n
def yL (n:Nat):Tn:=(List.range n).map fun(i:Nat)=>((i:Int),(0:Int))
def xL (t:Tn):Tn:=(List.range t.length).map fun(i:Nat)=>match t.zipIdx.find? fun q=>q.1.1==(i:Int) with | some q=>((q.2:Int),q.1.2) | none=>(0,0)
def pK (n:Nat)(ok:Tn->Bool)(t:Tn):Bool:=ok (xL t)&&decide (yS (xL t) t=yL n)&&decide (yS t (xL t)=yL n)&&(zD n).all fun c=>decide (zM (xL t) (zM t c)=c)
theorem zXu {t:Tn}(ht:t∈wS):pK 2 zTF t=true:=Ww.mp (show(wS.all (pK 2 zTF))=true by decide +kernel) t ht
theorem zXJ {t:Tn}(ht:t∈wO):pK 3 zUs t=true:=Ww.mp (show(wO.all (pK 3 zUs))=true by decide +kernel) t ht
theorem zS4 {t:Tn}(ht:t∈wS):pN [zK t]=some (zK (xL t)):=by
 obtain⟨a,b,f,g,h1,h2,h3,rfl⟩:=zZZ ht
 rcases h1 with⟨rfl,rfl⟩ | ⟨rfl,rfl⟩<;>rcases h2 with rfl | rfl<;>rcases h3 with rfl | rfl<;>kernel_rfl
theorem zS8 {t:Tn}(ht:t∈wO):pN [zK t]=some (zK (xL t)):=by
 obtain⟨a,b,c,f,g,j,h1,h2,h3,h4,rfl⟩:=zZy ht
 rcases h1 with⟨rfl,rfl,rfl⟩ | ⟨rfl,rfl,rfl⟩ | ⟨rfl,rfl,rfl⟩ | ⟨rfl,rfl,rfl⟩ | ⟨rfl,rfl,rfl⟩ | ⟨rfl,rfl,rfl⟩<;>rcases h2 with rfl | rfl<;>rcases h3 with rfl | rfl<;>rcases h4 with rfl | rfl<;>kernel_rfl
def yZ (n:Nat):List Tn:=if n=2 then wS else wO
section
variable {n:Nat} (hn:n=2∨n=3)
include hn
theorem trM {t:Tn}(h:t∈yZ n):Tr n t:=by
 rcases hn with rfl | rfl
 · exact tr2 h
 · exact tr3 h
theorem rS {t u:Tn}(h:t∈yZ n)(h':u∈yZ n):yS t u∈yZ n:=by
 rcases hn with rfl | rfl
 · exact zXq h h'
 · exact zXf h h'
theorem zTo {t:Tn}(h:t∈yZ n):pN [zK t]=some (zK (xL t)):=by
 rcases hn with rfl | rfl
 · exact zS4 h
 · exact zS8 h
theorem nB {t:Tn}(h:t∈yZ n):xL t∈yZ n/\∀c∈zD n,zM (xL t) (zM t c)=c:=by
 rcases hn with rfl | rfl
 · have q:=zXu h
   unfold pK at q
   simp only[Qh,Qz,Ww] at q
   exact⟨zYg q.1.1.1,q.2⟩
 · have q:=zXJ h
   unfold pK at q
   simp only[Qh,Qz,Ww] at q
   exact⟨zYH q.1.1.1,q.2⟩
end
theorem zXZ (t:Tn)(c:List Int):(zM t c).length=t.length:=by simp[zM]
def zYx (c f:Int):Int:=((c*f+12345) % 2147483647)*((c*f+12345) % 2147483647) % 2147483629 / 3
theorem dH (c f:Int)(h1 : -18446744073709551616 < f)(h2:f < 18446744073709551616):wH [.int c,.int f]=some (.int (zYx c f)):=by
 have e1:zZ5 c f=true:=zXo h1 h2
 have e2:zZ5 ((c*f+12345) % 2147483647) ((c*f+12345) % 2147483647)=true:=zXK (by omega) (by omega)
 have d1:decide ((0:Int) < 2147483647)=true:=rfl
 have d2:decide ((0:Int) < 2147483629)=true:=rfl
 have d3:(decide ((0:Int) < 3)&&decide ((3:Int) < 1073741824))=true:=rfl
 simp only[wH,fnF,bJ,mR,hW,rV,zI,yY,xQ,eI,eV,eC,sQ,List.map,Qa,Ed,List.replicate,Ie,Ev,Wo,Qx,Qe,Wq,e1,e2,d1,d2,d3,Rt,vQ,List.set,cB]
 rfl
mutual
def okS:Nat->D->Bool
 | 0,_=>false
 | _+1,.obj _ _ _=>false
 | _+1,.exc _ _ _=>false
 | n+1,.tup ds=>decide (ds.length<=1000)&&zQT n ds
 | n+1,.lst ds=>decide (ds.length<=1000)&&zQT n ds
 | _+1,_=>true
def zQT:Nat->List D->Bool
 | _,[]=>true
 | n,d::r=>okS n d&&zQT n r
end
structure Pt where
 c:List Int
 t:Tn
 b:Bool
def zL (p:Pt):D:=.tup [zQ p.c,zK p.t,.bl p.b]
def wU (p:Pt):D:=.obj (Str.ofString "Part") [Str.ofString "corner",Str.ofString "turn",Str.ofString "back"] [zQ p.c,zK p.t,.bl p.b]
def zB (n:Int)(j:Bool)(ps:List Pt):D:=.obj (Str.ofString "Curve") [Str.ofString "name",Str.ofString "dims",Str.ofString "joined",Str.ofString "parts"] [.str (Str.ofString "fold"),.int n,.bl j,.lst (ps.map wU)]
theorem zYl (ρ:List B)(f:Ef)(p:Pt)(h:f ρ=some (wU p)):xA (Str.ofString "Part") (Str.ofString "corner") f ρ=some (zQ p.c):=by
 unfold xA;rw[h];rfl
theorem zQS (ρ:List B)(f:Ef)(p:Pt)(h:f ρ=some (wU p)):xA (Str.ofString "Part") (Str.ofString "turn") f ρ=some (zK p.t):=by
 unfold xA;rw[h];rfl
theorem zQA (ρ:List B)(f:Ef)(p:Pt)(h:f ρ=some (wU p)):xA (Str.ofString "Part") (Str.ofString "back") f ρ=some (.bl p.b):=by
 unfold xA;rw[h];rfl
theorem gG (ρ:List B)(f:Ef){n:Int}{j:Bool}{ps:List Pt}(h:f ρ=some (zB n j ps)):xA (Str.ofString "Curve") (Str.ofString "parts") f ρ=some (.lst (ps.map wU)):=by
 unfold xA;rw[h];rfl
structure PtsOk (n:Nat)(ps:List Pt):Prop where
 perm:(ps.map (·.c)).Perm (zD n)
 turn:∀p∈ps,p.t∈yZ n
theorem dR {n:Nat}(hn:n=2∨n=3):(zD n).Nodup:=by
 rcases hn with rfl | rfl<;>decide +kernel
theorem vX {n:Nat}(hn:n=2∨n=3):∀c∈zD n,c.length=n:=by
 rcases hn with rfl | rfl<;>decide +kernel
theorem lJ (n:Nat):(zD n).length=2^n:=by simp[zD]
theorem PtsOk.len {n:Nat}{ps:List Pt}(h:PtsOk n ps):ps.length=2^n:=by
 have:=h.perm.length_eq
 rw[Qo,lJ] at this
 exact this
theorem PtsOk.small {n:Nat}{ps:List Pt}(hn:n=2∨n=3)(h:PtsOk n ps):ps.length<=8:=by
 rw[h.len]
 rcases hn with rfl | rfl<;>decide
theorem zZV (q:Int){n:Nat}(hn:n=2∨n=3):∃t∈yZ n,xS [.int q,.int n]=some (zK t):=by
 have q1:q / 1=q:=Int.ediv_one q
 rcases hn with rfl | rfl
 · rcases bit (q / 8) with h | h
   · refine⟨[(0,q / 1 % 2),(1,q / 2 % 2)],zQR (.inl ⟨rfl,rfl⟩) (bit _) (bit _),?_⟩
     simp[xS,fnF,pD,uM,uG,uH,rV,zI,yY,sIf,xQ,tO,eI,eV,eC,sQ,vQ,cB,eL,yE,zS,zY,okL,lim,eB2,gEq,h,yO,iR,zSh,upB,uE,gN,tOK,zC,eIx,atD,atI,ixN,yA,zXV,zK,kQ]
   · refine⟨[(1,q / 1 % 2),(0,q / 2 % 2)],zQR (.inr ⟨rfl,rfl⟩) (bit _) (bit _),?_⟩
     simp[xS,fnF,pD,uM,uG,uH,rV,zI,yY,sIf,xQ,tO,eI,eV,eC,sQ,vQ,cB,eL,yE,zS,zY,okL,lim,eB2,gEq,h,yO,iR,zSh,upB,uE,gN,tOK,zC,eIx,atD,atI,ixN,yA,zXV,zK,kQ]
 · have h6:q / 8 % 6=0∨q / 8 % 6=1∨q / 8 % 6=2∨q / 8 % 6=3∨q / 8 % 6=4∨q / 8 % 6=5:=by omega
   have key:∀a b c:Int,zVy a b c->atD (.lst [.lst [.int 0,.int 1,.int 2],.lst [.int 0,.int 2,.int 1],.lst [.int 1,.int 0,.int 2],.lst [.int 1,.int 2,.int 0],.lst [.int 2,.int 0,.int 1],.lst [.int 2,.int 1,.int 0]]) (.int (q / 8 % 6))=some (.lst [.int a,.int b,.int c])->∃t∈yZ 3,xS [.int q,.int 3]=some (zK t):=fun a b c ho ha=>by
     refine⟨[(a,q / 1 % 2),(b,q / 2 % 2),(c,q / 4 % 2)],zQq ho (bit _) (bit _) (bit _),?_⟩
     have r:xS [.int q,.int 3]=(uH [.fz (.int q),.fz (.int 3),.fz (.lst [.int a,.int b,.int c])]).bind vQ:=by
       have d6:decide ((0:Int) < 6)=true:=rfl
       have o3:∀x y z:D,okL [x,y,z]=some [x,y,z]:=fun _ _ _=>rfl
       have o2:∀x y:D,okL [x,y]=some [x,y]:=fun _ _=>rfl
       have o6:∀x y z u v w:D,okL [x,y,z,u,v,w]=some [x,y,z,u,v,w]:=fun _ _ _ _ _ _=>rfl
       have g3:gEq (.int 3) (.int 3)=some true:=rfl
       have c8:cB q 8=true:=rfl
       simp only[xS,fnF,pD,uM,uG,rV,zI,yY,sIf,eI,eV,eC,sQ,eL,yE,zS,zY,eB2,eIx,Qb,Ym,Qa,Ed,List.replicate,Ie,Ev,Wo,Qx,Qe,Wq,o2,o3,o6,g3,c8,d6,Rt,ha,List.set]
     rw[r]
     simp[uH,xQ,eI,eV,eC,sQ,vQ,cB,eL,yE,zS,zY,okL,lim,yO,iR,zQx,upB,uE,gN,tOK,zC,eIx,atD,atI,ixN,yA,zXV,zK,kQ]
   rcases h6 with h | h | h | h | h | h
   · exact key 0 1 2 (.inl ⟨rfl,rfl,rfl⟩) (by rw[h];rfl)
   · exact key 0 2 1 (.inr (.inl ⟨rfl,rfl,rfl⟩)) (by rw[h];rfl)
   · exact key 1 0 2 (.inr (.inr (.inl ⟨rfl,rfl,rfl⟩))) (by rw[h];rfl)
   · exact key 1 2 0 (.inr (.inr (.inr (.inl ⟨rfl,rfl,rfl⟩)))) (by rw[h];rfl)
   · exact key 2 0 1 (.inr (.inr (.inr (.inr (.inl ⟨rfl,rfl,rfl⟩))))) (by rw[h];rfl)
   · exact key 2 1 0 (.inr (.inr (.inr (.inr (.inr ⟨rfl,rfl,rfl⟩))))) (by rw[h];rfl)
theorem zWY {n:Nat}(hn:n=2∨n=3):tW [.int n]=some ((zD n).map zQ):=by
 rcases hn with rfl | rfl<;>kernel_rfl
def iO:Sf:=zI (yY 4 (zF 2 wH (zY (eV 1) (zY (mG (eC (.int 48271)) (mH (eC (.int 997)) (lN 2))) zS))))
   (zI (zVx 5 2 (xJ (eV 4) (lN 2)))
   (jZ 3 (zC (zY (eV 5) (zY (zF 2 xS (zY (vD (eV 4) (eC (.int 8))) (zY (eV 0) zS))) (zY (wF (eB2 gEq (xJ (vD (eV 4) (eC (.int 800))) (eC (.int 2))) (eC (.int 1)))) zS))))))
theorem lY {α:Type}:∀(l:List α) (i:Nat) (x:α),l[i]?=some x->(x::l.eraseIdx i).Perm l
 | [],_,_,h=>by simp at h
 | a::r,0,x,h=>by cases h;exact .refl _
 | a::r,i+1,x,h=>by
   rw[Qx] at h
   rw[Yl]
   exact(List.Perm.swap a x _).trans (List.Perm.cons a (lY r i x h))
theorem jT {α β:Type}(f:α->β):∀(l:List α) (i:Nat),(l.map f).eraseIdx i=(l.eraseIdx i).map f
 | [],_=>rfl
 | a::r,0=>rfl
 | a::r,i+1=>by rw[Qb,Yl,Yl,Qb,jT f r i]
theorem zXO {n:Nat}(hn:n=2∨n=3)(cell:Int)(left:List (List Int))(acc:List Pt)(x4 x5:B)(h0:left≠[])(hl:left.length<=8)(ha:acc.length<=8)(ht:∀p∈acc,p.t∈yZ n) :
   ∃(left':List (List Int)) (acc':List Pt) (y4 y5:B),left'.length+1=left.length/\acc'.length=acc.length+1/\(acc'.map (·.c)++left').Perm (acc.map (·.c)++left)/\(∀p∈acc',p.t∈yZ n) /\
     iO [.fz (.int n),.fz (.int cell),.ow (left.map zQ),.ow (acc.map zL),x4,x5]=some (.nx [.fz (.int n),.fz (.int cell),.ow (left'.map zQ),.ow (acc'.map zL),y4,y5]):=by
 have hpos:0 < left.length:=List.length_pos_iff.mpr h0
 have m1:zZ5 997 (left.length:Int)=true:=zXK (by decide) (by decide)
 have hm:=dH cell (48271+997*(left.length:Int)) (by omega) (by omega)
 generalize zYx cell (48271+997*(left.length:Int))=r at hm
 have i0:0<=r % (left.length:Int):=Ue _ (by omega)
 have i1:r % (left.length:Int) < left.length:=Yp _ (by omega)
 generalize hi:r % (left.length:Int)=iv at i0 i1
 have hlt:iv.toNat < left.length:=by omega
 obtain⟨t,tm,te⟩:=zZV (r / 8) hn
 have px:=Qu hlt
 have pm:=lY left iv.toNat _ px
 generalize left[iv.toNat]=c at px pm
 refine⟨left.eraseIdx iv.toNat,acc++[⟨c,t,decide (r / 800 % 2=1)⟩],.fz (.int r),.fz (zQ c),?_,?_,?_,?_,?_⟩
 · rw[Ye hlt];omega
 · simp
 · rw[Ew,Td]
   exact List.Perm.append_left _ pm
 · intro p hp
   rcases Tx.mp hp with q | q
   · exact ht p q
   · rw[To.mp q];exact tm
 · have d1:decide ((0:Int) < (left.length:Nat))=true:=Qg (by omega)
   have d2:decide ((0:Int) < 2)=true:=rfl
   have c8:cB r 8=true:=rfl
   have c800:cB r 800=true:=rfl
   have ix:ixN left.length iv=some iv.toNat:=by unfold ixN;rw[Qc i0,Qc i1]
   have lz:left.length<=lim:=by show left.length<=100000;omega
   have az:acc.length < lim:=by show acc.length < 100000;omega
   have gx:(left.map zQ)[iv.toNat]?=some (zQ c):=by rw[Wt,px];rfl
   have o3:okL [zQ c,zK t,.bl (decide (r / 800 % 2=1))]=some [zQ c,zK t,.bl (decide (r / 800 % 2=1))]:=rfl
   simp only[iO,zI,yY,zVx,jZ,zF,zY,zS,eI,eV,eC,sQ,lN,zC,wF,eB2,gEq,Wo,Qx,Qo,Qa,Ed,Qe,Wq,m1,hm,d1,d2,hi,ix,Qc lz,Qc az,gx,c8,c800,te,o3,Rt,List.set,jT,Ew,Qb,Ym,zL]
theorem eU {n:Nat}(hn:n=2∨n=3)(cell:Int):∀(m fuel:Nat) (left:List (List Int)) (acc:List Pt) (x4 x5:B),left.length=m->m < fuel->left.length+acc.length<=8->(∀p∈acc,p.t∈yZ n) ->
   ∃(acc':List Pt) (y4 y5:B),(acc'.map (·.c)).Perm (acc.map (·.c)++left)/\(∀p∈acc',p.t∈yZ n) /\
     uC (jB 2) iO fuel [.fz (.int n),.fz (.int cell),.ow (left.map zQ),.ow (acc.map zL),x4,x5]=some (.nx [.fz (.int n),.fz (.int cell),.ow [],.ow (acc'.map zL),y4,y5])
 | 0,0,_,_,_,_,_,hf,_,_=>by omega
 | m+1,0,_,_,_,_,_,hf,_,_=>by omega
 | 0,f+1,left,acc,x4,x5,hm,_,_,ht=>by
   have e:left=[]:=List.eq_nil_of_length_eq_zero hm
   subst e
   exact⟨acc,x4,x5,by rw[Et],ht,rfl⟩
 | m+1,f+1,left,acc,x4,x5,hm,hf,hs,ht=>by
   have hne:left≠[]:=fun z=>by rw[z] at hm;simp at hm
   obtain⟨left',acc',y4,y5,l1,l2,l3,l4,l5⟩:=zXO hn cell left acc x4 x5 hne (by omega) (by omega) ht
   obtain⟨acc2,z4,z5,p1,p2,p3⟩:=eU hn cell m f left' acc' y4 y5 (by omega) (by omega) (by omega) l4
   refine⟨acc2,z4,z5,p1.trans l3,p2,?_⟩
   have t:jB 2 [.fz (.int n),.fz (.int cell),.ow (left.map zQ),.ow (acc.map zL),x4,x5]=some true:=by
     cases left with
     | nil=>exact absurd rfl hne
     | cons a r=>rfl
   rw[uC,t,Qe,Qc rfl,l5,Qe]
   exact p3
theorem zUf {n:Nat}(hn:n=2∨n=3)(cell:Int):∃ps:List Pt,PtsOk n ps/\rA [.int n,.int cell]=some (ps.map zL):=by
 have hl:(zD n).length+([]:List Pt).length<=8:=by rw[lJ];rcases hn with rfl | rfl<;>decide
 have hl2:(zD n).length<=8:=by simpa using hl
 obtain⟨ps,y4,y5,p1,p2,p3⟩:=eU hn cell _ 100 (zD n) [] .no .no rfl (by omega) hl (by simp)
 refine⟨ps,⟨p1,p2⟩,?_⟩
 have hc:=zWY hn
 have s0:vC 2 (wE 1 tW (zY (eV 0) zS)) [.fz (.int n),.fz (.int cell),.no,.no,.no,.no]=some (.nx [.fz (.int n),.fz (.int cell),.ow ((zD n).map zQ),.no,.no,.no]):=by
   simp only[vC,wE,zY,zS,eV,sQ,Wo,Qe,Wq,Qa,Ed,Rt,hc,List.set]
 have s1:vC 3 (yE zS) [.fz (.int n),.fz (.int cell),.ow ((zD n).map zQ),.no,.no,.no]=some (.nx [.fz (.int n),.fz (.int cell),.ow ((zD n).map zQ),.ow [],.no,.no]):=rfl
 rw[Ym] at p3
 show(tR [.fz (.int n),.fz (.int cell),.no,.no,.no,.no]).bind zZ2=_
 unfold tR
 rw[yU s0]
 unfold qI
 rw[yU s1]
 unfold qB
 have p4:uC (jB 2) (zI (yY 4 (zF 2 wH (zY (eV 1) (zY (mG (eC (.int 48271)) (mH (eC (.int 997)) (lN 2))) zS)))) (zI (zVx 5 2 (xJ (eV 4) (lN 2))) (jZ 3 (zC (zY (eV 5) (zY (zF 2 xS (zY (vD (eV 4) (eC (.int 8))) (zY (eV 0) zS))) (zY (wF (eB2 gEq (xJ (vD (eV 4) (eC (.int 800))) (eC (.int 2))) (eC (.int 1)))) zS))))))) 100 _=_:=p3
 rw[yU p4]
 rfl
theorem zYm {elt:Ef}{h:Pt->D}:∀(ps:List Pt) (x0 x1 x2:B) (acc:List D),(∀p∈ps,elt [.fz (zQ p.c),.fz (zK p.t),.fz (.bl p.b)]=some (h p)) ->
   uE (gT (zO (gN 0) (zO (gN 1) (zO (gN 2) yD)))) tOK elt (ps.map zL) [x0,x1,x2] acc=some (acc++ps.map h)
 | [],_,_,_,acc,_=>by simp[uE]
 | p::r,x0,x1,x2,acc,hh=>by
   rw[Qb]
   unfold uE
   have e1:gT (zO (gN 0) (zO (gN 1) (zO (gN 2) yD))) (zL p) [x0,x1,x2]=some [.fz (zQ p.c),.fz (zK p.t),.fz (.bl p.b)]:=rfl
   have e2:tOK [.fz (zQ p.c),.fz (zK p.t),.fz (.bl p.b)]=some true:=rfl
   rw[e1,Qe,e2,Qe,Qc rfl,hh p Qj,Qe,zYm r _ _ _ _ fun q hq=>hh q (Qd _ hq)]
   simp
theorem zUl (n:Int)(j:Bool)(ps:List Pt)(h:ps.length<=8):nA [.int n,.bl j,.lst (ps.map zL)]=some (zB n j ps):=by
 have e3:okL (ps.map zL)=some (ps.map zL):=lB (by rw[Qo];omega)
 have e2:=zYm (elt:=lP (Str.ofString "Part") [Str.ofString "corner",Str.ofString "turn",Str.ofString "back"] 3 kB (zY (eV 0) (zY (eV 1) (zY (eV 2) zS)))) (h:=wU) ps .no .no .no [] fun p hp=>rfl
 have e5:yO (iL (eV 2)) 3 [] (gT (zO (gN 0) (zO (gN 1) (zO (gN 2) yD)))) tOK (lP (Str.ofString "Part") [Str.ofString "corner",Str.ofString "turn",Str.ofString "back"] 3 kB (zY (eV 0) (zY (eV 1) (zY (eV 2) zS)))) [.fz (.int n),.fz (.bl j),.fz (.lst (ps.map zL))]=some (ps.map wU):=by
   unfold yO
   have e6:iL (eV 2) [.fz (.int n),.fz (.bl j),.fz (.lst (ps.map zL))]=some (ps.map zL):=rfl
   have e4:upB 3 [] [.fz (.int n),.fz (.bl j),.fz (.lst (ps.map zL))]=[.no,.no,.no]:=rfl
   rw[e6,Qe,e3,Qe,e4,e2]
   simp
 have ea:=yQ (f:=eC (.str (Str.ofString "fold"))) (ρ:=[.fz (.int n),.fz (.bl j),.fz (.lst (ps.map zL))]) (d:=.str (Str.ofString "fold")) rfl (yQ (f:=eV 0) (d:=.int n) rfl (yQ (f:=eV 1) (d:=.bl j) rfl (yQ (kD e5) (g:=zS) (ds:=[]) rfl)))
 have em:=zTX (c:=Str.ofString "Curve") (ns:=[Str.ofString "name",Str.ofString "dims",Str.ofString "joined",Str.ofString "parts"]) (n:=4) (f:=jS) (xs:=[.str (Str.ofString "fold"),.int n,.bl j,.lst (ps.map wU)]) ea rfl rfl rfl
 have q:=zUj (lP (Str.ofString "Curve") [Str.ofString "name",Str.ofString "dims",Str.ofString "joined",Str.ofString "parts"] 4 jS (zY (eC (.str (Str.ofString "fold"))) (zY (eV 0) (zY (eV 1) (zY (eL (yO (iL (eV 2)) 3 [] (gT (zO (gN 0) (zO (gN 1) (zO (gN 2) yD)))) tOK (lP (Str.ofString "Part") [Str.ofString "corner",Str.ofString "turn",Str.ofString "back"] 3 kB (zY (eV 0) (zY (eV 1) (zY (eV 2) zS)))))) zS)))) [.fz (.int n),.fz (.bl j),.fz (.lst (ps.map zL))])
 exact q.trans em
theorem bA (n:Int)(j:Bool)(ps:List Pt)(b:Bool)(k:Int):tN [zB n j ps,.bl b,.int k]=some (.int (if b=true then(ps.length:Int) - 1 - k else k)):=by
 have e:=gG [.fz (zB n j ps),.fz (.bl b),.fz (.int k)] (eV 0) (n:=n) (j:=j) (ps:=ps) rfl
 have l:vZ (xA (Str.ofString "Curve") (Str.ofString "parts") (eV 0)) [.fz (zB n j ps),.fz (.bl b),.fz (.int k)]=some (.int (ps.length:Nat)):=by
   unfold vZ
   rw[e]
   show some (D.int ((ps.map wU).length:Nat))=_
   rw[Qo]
 have q:=zUj (eIf (tB1 (eV 1)) (mD (mD (vZ (xA (Str.ofString "Curve") (Str.ofString "parts") (eV 0))) (eC (.int 1))) (eV 2)) (eV 2) [.fz (zB n j ps),.fz (.bl b),.fz (.int k)])
 have r:eIf (tB1 (eV 1)) (mD (mD (vZ (xA (Str.ofString "Curve") (Str.ofString "parts") (eV 0))) (eC (.int 1))) (eV 2)) (eV 2) [.fz (zB n j ps),.fz (.bl b),.fz (.int k)]=some (.int (if b=true then(ps.length:Int) - 1 - k else k)):=by
   cases b with
   | true=>simp only[eIf,tB1,eI,l,eV,eC,sQ,Wo,Qx,Qe,Rt]
   | false=>rfl
 exact q.trans r
theorem dP:uZ=uI:=rfl
theorem aR:xG=pC:=rfl
def ixB (b:Bool)(len k:Nat):Nat:=if b=true then len - 1 - k else k
theorem fS {b:Bool}{len k:Nat}(h:k < len):(if b=true then(len:Int) - 1 - (k:Int) else(k:Int))=((ixB b len k:Nat):Int):=by
 unfold ixB
 cases b
 · rfl
 · rw[Qc rfl,Qc rfl];omega
theorem uD {b:Bool}{len k:Nat}(h:k < len):ixB b len k < len:=by
 unfold ixB
 split<;>omega
theorem zWN {b:Bool}{len k:Nat}(h:k < len):ixB b len (ixB b len k)=k:=by
 unfold ixB
 cases b
 · rfl
 · rw[Qc rfl,Qc rfl];omega
def stD (t:Tn)(b:Bool):D:=.tup [zK t,.bl b]
def zQt (t:Tn)(b:Bool)(p:Pt):D:=.tup [zQ (zM t p.c),.tup [zK (yS t p.t),.bl (b != p.b)]]
theorem zU2 (x y:Bool):gNe (.bl x) (.bl y)=some (x != y):=by cases x<;>cases y<;>rfl
section
variable {n:Nat} (hn:n=2∨n=3) {ps:List Pt} (ok:PtsOk n ps) {t:Tn} (ht:t∈yZ n) (b j:Bool)
include hn ok ht
theorem zYL {p:Pt}(hp:p∈ps):uI [zK t,zQ p.c]=some (zQ (zM t p.c))/\pC [zK t,zK p.t]=some (zK (yS t p.t)):=by
 have T:=trM hn ht
 have U:=trM hn (ok.turn p hp)
 have small:n<=1000:=by rcases hn with rfl | rfl<;>decide
 have hc:p.c.length=n:=vX hn _ (ok.perm.mem_iff.mp (Wc.mpr ⟨p,hp,rfl⟩))
 exact⟨iP t p.c (by rw[hc];exact T.fits) (by rw[T.len];exact small),zY0 t p.t (by rw[U.len];exact T.fits) (by rw[T.len];exact small)⟩
theorem zWe {k:Nat}(hk:k < ps.length):pR [zB n j ps,stD t b,.int k]=some (zQt t b (ps[ixB b ps.length k]'(uD hk))):=by
 generalize hp:ps[ixB b ps.length k]'(uD hk)=p
 have hm:p∈ps:=by rw[←hp];exact Rc _
 obtain⟨f1,f2⟩:=zYL hn ok ht hm
 have s0:oP (eV 1) (gT (zO (gN 3) (zO (gN 4) yD))) [.fz (zB n j ps),.fz (stD t b),.fz (.int k),.no,.no,.no,.no]=some (.nx [.fz (zB n j ps),.fz (stD t b),.fz (.int k),.fz (zK t),.fz (.bl b),.no,.no]):=rfl
 have q7:=fun r hk=>xY (g:=nH) (r:=r) s0 hk
 refine q7 _ ?_
 have w:=bA n j ps b k
 rw[fS hk] at w
 have at_:atD (.lst (ps.map wU)) (.int ((ixB b ps.length k:Nat):Int))=some (wU p):=by
   show atI (ps.map wU) _=_
   rw[jW,zWv (Qu (uD hk)),hp]
   rfl
 have s1:yY 5 (eIx (xA (Str.ofString "Curve") (Str.ofString "parts") (eV 0)) (zF 3 tN (zY (eV 0) (zY (eV 4) (zY (eV 2) zS))))) [.fz (zB n j ps),.fz (stD t b),.fz (.int k),.fz (zK t),.fz (.bl b),.no,.no]=some (.nx [.fz (zB n j ps),.fz (stD t b),.fz (.int k),.fz (zK t),.fz (.bl b),.fz (wU p),.no]):=by
   have e:=gG [.fz (zB n j ps),.fz (stD t b),.fz (.int k),.fz (zK t),.fz (.bl b),.no,.no] (eV 0) (n:=n) (j:=j) (ps:=ps) rfl
   have e2:zF 3 tN (zY (eV 0) (zY (eV 4) (zY (eV 2) zS))) [.fz (zB n j ps),.fz (stD t b),.fz (.int k),.fz (zK t),.fz (.bl b),.no,.no]=some (.int ((ixB b ps.length k:Nat):Int)):=w
   simp only[yY,eIx,e,e2,Qe,at_,Wq,List.set]
 have q8:=fun r hk=>xY (g:=mS) (r:=r) s1 hk
 refine q8 _ ?_
 have o2:∀x y:D,okL [x,y]=some [x,y]:=fun _ _=>rfl
 have s2:yY 6 (zC (zY (zF 2 pC (zY (eV 3) (zY (xA (Str.ofString "Part") (Str.ofString "turn") (eV 5)) zS))) (zY (wF (eB2 gNe (eV 4) (xA (Str.ofString "Part") (Str.ofString "back") (eV 5)))) zS))) [.fz (zB n j ps),.fz (stD t b),.fz (.int k),.fz (zK t),.fz (.bl b),.fz (wU p),.no]=some (.nx [.fz (zB n j ps),.fz (stD t b),.fz (.int k),.fz (zK t),.fz (.bl b),.fz (wU p),.fz (.tup [zK (yS t p.t),.bl (b != p.b)])]):=by
   have e1:=zQS [.fz (zB n j ps),.fz (stD t b),.fz (.int k),.fz (zK t),.fz (.bl b),.fz (wU p),.no] (eV 5) p rfl
   have e2:=zQA [.fz (zB n j ps),.fz (stD t b),.fz (.int k),.fz (zK t),.fz (.bl b),.fz (wU p),.no] (eV 5) p rfl
   simp only[yY,zC,zY,zS,zF,wF,eB2,e1,e2]
   simp only[eV,sQ,Wo,Qx,Qa,Ed,Qe,Wq,Rt,f2,zU2,o2,List.set]
 have q9:=fun r hk=>xY (g:=iE) (r:=r) s2 hk
 refine q9 _ ?_
 have e3:=zYl [.fz (zB n j ps),.fz (stD t b),.fz (.int k),.fz (zK t),.fz (.bl b),.fz (wU p),.fz (.tup [zK (yS t p.t),.bl (b != p.b)])] (eV 5) p rfl
 show((zC (zY (zF 2 uI (zY (eV 3) (zY (xA (Str.ofString "Part") (Str.ofString "corner") (eV 5)) zS))) (zY (eV 6) zS)) _).map Out.rt).bind vQ=_
 simp only[zC,zY,zS,zF,e3]
 simp only[eV,sQ,Wo,Qx,Qa,Ed,Qe,Wq,Rt,f1,o2,vQ]
 rfl
end
theorem bP (m:Nat):∀(xs ys:List Int),xs.length=ys.length->kM (eqD (m+1)) (xs.map .int) (ys.map .int)=some (decide (xs=ys))
 | [],[],_=>rfl
 | [],_::_,h=>by simp at h
 | _::_,[],h=>by simp at h
 | x::xs,y::ys,h=>by
   rw[Qb,Qb,kM,bP m xs ys (by simpa using h)]
   show((some (x==y)).bind fun a=>(some (decide (xs=ys))).map fun b=>a&&b)=_
   rw[Qe,Wq]
   by_cases h1:x=y
   · by_cases h2:xs=ys
     · subst h1;subst h2;simp
     · simp[h2]
   · simp[h1]
theorem zUS {c c':List Int}(h:c.length=c'.length):eqD 8 (zQ c) (zQ c')=some (decide (c=c')):=by
 show(kM (eqD 7) (c.map .int) (c'.map .int)).map (fun b=>b&&(c.map D.int).length==(c'.map D.int).length)=_
 rw[bP 6 c c' h,Wq,Qo,Qo,h]
 simp
theorem eZ {n:Nat}:∀(cs:List (List Int)) (i:Nat) (c:List Int),cs.Nodup->(∀x∈cs,x.length=n)->cs[i]?=some c->ixD (zQ c) (cs.map zQ)=some i
 | [],_,_,_,_,h=>by simp at h
 | x::r,0,c,nd,hl,h=>by
   cases h
   rw[Qb,ixD,zUS rfl,Qg rfl,Qe,Qc rfl,Qc]
   rw[List.all_map,Ww]
   intro y hy
   show(eqD 8 (zQ y) (zQ x)).isSome=true
   rw[zUS (by rw[hl y (Qd _ hy),hl x Qj])]
   rfl
 | x::r,i+1,c,nd,hl,h=>by
   rw[Qx] at h
   have hc:c∈r:=Ej h
   have hne:¬x=c:=fun z=>(Re.mp nd).1 (z ▸ hc)
   rw[Qb,ixD,zUS (by rw[hl x Qj,hl c (Qd _ hc)]),Wr hne,Qe,Wd (by decide),eZ r i c (Re.mp nd).2 (fun y hy=>hl y (Qd _ hy)) h]
   rfl
theorem hG:∀(ps:List Pt) (x0:B) (acc:List D),uE (gN 0) tOK (xA (Str.ofString "Part") (Str.ofString "corner") (eV 0)) (ps.map wU) [x0] acc=some (acc++(ps.map (·.c)).map zQ)
 | [],_,acc=>by simp[uE]
 | p::r,x0,acc=>by
   rw[Qb]
   unfold uE
   have e1:gN 0 (wU p) [x0]=some [.fz (wU p)]:=rfl
   have e2:tOK [.fz (wU p)]=some true:=rfl
   rw[e1,Qe,e2,Qe,Qc rfl,zYl [.fz (wU p)] (eV 0) p rfl,Qe,hG r]
   simp
section
variable {n:Nat} (hn:n=2∨n=3) {ps:List Pt} (ok:PtsOk n ps) {t:Tn} (ht:t∈yZ n) (b j:Bool)
include hn ok ht
theorem zUa {k:Nat}(hk:k < ps.length):oY [zB n j ps,stD t b,zQ (zM t (ps[ixB b ps.length k]'(uD hk)).c)]=some (.int (k:Nat)):=by
 generalize hp:ps[ixB b ps.length k]'(uD hk)=p
 have hm:p∈ps:=by rw[←hp];exact Rc _
 have hcm:p.c∈zD n:=ok.perm.mem_iff.mp (Wc.mpr ⟨p,hm,rfl⟩)
 have T:=trM hn ht
 have small:n<=1000:=by rcases hn with rfl | rfl<;>decide
 obtain⟨um,ub⟩:=nB hn ht
 have U:=trM hn um
 have e1:=zTo hn ht
 have e2:=iP (xL t) (zM t p.c) (by rw[zXZ,T.len];exact U.fits) (by rw[U.len];exact small)
 rw[ub _ hcm] at e2
 have s0:oP (eV 1) (gT (zO (gN 3) (zO (gN 4) yD))) [.fz (zB n j ps),.fz (stD t b),.fz (zQ (zM t p.c)),.no,.no,.no,.no]=some (.nx [.fz (zB n j ps),.fz (stD t b),.fz (zQ (zM t p.c)),.fz (zK t),.fz (.bl b),.no,.no]):=rfl
 have q10:=fun r hk=>xY (g:=pE) (r:=r) s0 hk
 refine q10 _ ?_
 have s1:yY 5 (zF 2 uI (zY (zF 1 pN (zY (eV 3) zS)) (zY (eV 2) zS))) [.fz (zB n j ps),.fz (stD t b),.fz (zQ (zM t p.c)),.fz (zK t),.fz (.bl b),.no,.no]=some (.nx [.fz (zB n j ps),.fz (stD t b),.fz (zQ (zM t p.c)),.fz (zK t),.fz (.bl b),.fz (zQ p.c),.no]):=by
   simp only[yY,zF,zY,zS,eV,sQ,Wo,Qx,Qa,Ed,Qe,Wq,Rt,e1,e2,List.set]
 have q11:=fun r hk=>xY (g:=oN) (r:=r) s1 hk
 refine q11 _ ?_
 have sm:=ok.small hn
 have s2:vC 6 (yO (iL (xA (Str.ofString "Curve") (Str.ofString "parts") (eV 0))) 1 [] (gN 0) tOK (xA (Str.ofString "Part") (Str.ofString "corner") (eV 0))) [.fz (zB n j ps),.fz (stD t b),.fz (zQ (zM t p.c)),.fz (zK t),.fz (.bl b),.fz (zQ p.c),.no]=some (.nx [.fz (zB n j ps),.fz (stD t b),.fz (zQ (zM t p.c)),.fz (zK t),.fz (.bl b),.fz (zQ p.c),.ow ((ps.map (·.c)).map zQ)]):=by
   have e:=gG [.fz (zB n j ps),.fz (stD t b),.fz (zQ (zM t p.c)),.fz (zK t),.fz (.bl b),.fz (zQ p.c),.no] (eV 0) (n:=n) (j:=j) (ps:=ps) rfl
   have i:iL (xA (Str.ofString "Curve") (Str.ofString "parts") (eV 0)) [.fz (zB n j ps),.fz (stD t b),.fz (zQ (zM t p.c)),.fz (zK t),.fz (.bl b),.fz (zQ p.c),.no]=some (ps.map wU):=by
     unfold iL
     rw[e]
     rfl
   unfold vC yO
   rw[i,Qe,lB (by rw[Qo];omega),Qe]
   show((uE (gN 0) tOK _ (ps.map wU) [.no] []).map _)=_
   rw[hG]
   rfl
 have q12:=fun r hk=>xY (g:=jG) (r:=r) s2 hk
 refine q12 _ ?_
 have hix:ixD (zQ p.c) ((ps.map (·.c)).map zQ)=some (ixB b ps.length k):=by
   refine eZ (n:=n) _ _ _ (ok.perm.nodup_iff.mpr (dR hn)) (fun x hx=>vX hn x (ok.perm.mem_iff.mp hx)) ?_
   rw[Wt,Qu (uD hk),hp]
   rfl
 have ei:dY (iL (eV 6)) (eV 5) [.fz (zB n j ps),.fz (stD t b),.fz (zQ (zM t p.c)),.fz (zK t),.fz (.bl b),.fz (zQ p.c),.fz (.lst ((ps.map (·.c)).map zQ))]=some (.int ((ixB b ps.length k:Nat):Int)):=by
   show(if ((ps.map (·.c)).map zQ).length<=100000 then(ixD (zQ p.c) ((ps.map (·.c)).map zQ)).map _ else none)=_
   rw[Qc (by rw[Qo,Qo];omega),hix]
   rfl
 have w:=bA n j ps b ((ixB b ps.length k:Nat):Int)
 rw[fS (uD hk),zWN hk] at w
 show((zF 3 tN (zY (eV 0) (zY (eV 4) (zY (dY (iL (eV 6)) (eV 5)) zS))) [.fz (zB n j ps),.fz (stD t b),.fz (zQ (zM t p.c)),.fz (zK t),.fz (.bl b),.fz (zQ p.c),.fz (.lst ((ps.map (·.c)).map zQ))]).map Out.rt).bind vQ=_
 unfold zF zY
 rw[ei]
 show(((tN [zB n j ps,.bl b,.int ((ixB b ps.length k:Nat):Int)])).map Out.rt).bind vQ=_
 rw[w]
 rfl
end
theorem vN {i:Nat}{f:Ef}{g:Sf}{ρ:List B}{d:D}(h:f ρ=some d):zI (yY i f) g ρ=g (ρ.set i (.fz d)):=yU (by unfold yY;rw[h];rfl)
theorem bW {f:List D->Option D}{fa:Ef}{ρ:List B}{x:D}(h:fa ρ=some x):zF 1 f (zY fa zS) ρ=f [x]:=kH (yQ h rfl) rfl
theorem uS {f:List D->Option D}{fa fb:Ef}{ρ:List B}{x y:D}(h1:fa ρ=some x)(h2:fb ρ=some y):zF 2 f (zY fa (zY fb zS)) ρ=f [x,y]:=kH (yQ h1 (yQ h2 rfl)) rfl
theorem pO {f:List D->Option D}{fa fb fc:Ef}{ρ:List B}{x y z:D}(h1:fa ρ=some x)(h2:fb ρ=some y)(h3:fc ρ=some z):zF 3 f (zY fa (zY fb (zY fc zS))) ρ=f [x,y,z]:=kH (yQ h1 (yQ h2 (yQ h3 rfl))) rfl
theorem zSb {f:List D->Option D}{fa fb fc fd:Ef}{ρ:List B}{x y z u:D}(h1:fa ρ=some x)(h2:fb ρ=some y)(h3:fc ρ=some z)(h4:fd ρ=some u):zF 4 f (zY fa (zY fb (zY fc (zY fd zS)))) ρ=f [x,y,z,u]:=kH (yQ h1 (yQ h2 (yQ h3 (yQ h4 rfl)))) rfl
theorem iH {f:List D->Option (List D)}{fa fb:Ef}{ρ:List B}{x y:D}(h1:fa ρ=some x)(h2:fb ρ=some y):wE 2 f (zY fa (zY fb zS)) ρ=f [x,y]:=by unfold wE;rw[yQ h1 (yQ h2 rfl),Qe];rfl
theorem zQD {f:List D->Option (List D)}{fa fb fc:Ef}{ρ:List B}{x y z:D}(h1:fa ρ=some x)(h2:fb ρ=some y)(h3:fc ρ=some z):wE 3 f (zY fa (zY fb (zY fc zS))) ρ=f [x,y,z]:=by unfold wE;rw[yQ h1 (yQ h2 (yQ h3 rfl)),Qe];rfl
theorem yH {C:Int->Int->Bool}{g:Int->Int->Int}{fa fb:Ef}{ρ:List B}{i j:Int}(h1:fa ρ=some (.int i))(h2:fb ρ=some (.int j))(h:C i j=true):eI C g fa fb ρ=some (.int (g i j)):=by
 unfold eI
 rw[h1,Qe,h2,Qe]
 show(if C i j then _ else none)=_
 rw[Qc h]
theorem uT {t:Tf}{f:Sf}{ρ:List B}{b:Bool}(h:t ρ=some b):sIf t f tO ρ=if b then f ρ else some (.nx ρ):=by unfold sIf;rw[h];cases b<;>rfl
theorem zZQ {i:Nat}{f:Ef}{ρ:List B}{d:D}{ds:List D}(e1:f ρ=some d)(e2:ρ[i]?=some (.ow ds))(e3:ds.length<=1000):jZ i f ρ=some (.nx (ρ.set i (.ow (ds++[d])))):=by
 unfold jZ;rw[e1,Qe,e2]
 show(if ds.length < lim then _ else none)=_
 rw[Qc (show ds.length < 100000 by omega)]
theorem sA {f:Ef}{ρ:List B}{x k:Int}(h:f ρ=some (.int x)):eB2 gEq f (eC (.int k)) ρ=some (decide (x=k)):=by unfold eB2;rw[h];rfl
theorem zR1 {fa fb fc:Ef}{ρ:List B}{x y z:D}(h1:fa ρ=some x)(h2:fb ρ=some y)(h3:fc ρ=some z):zC (zY fa (zY fb (zY fc zS))) ρ=some (.tup [x,y,z]):=by
 unfold zC;rw[yQ h1 (yQ h2 (yQ h3 rfl))];rfl
theorem zUz {t:Tn}(ht:t∈wS):w4 [zK t]=some (zK (xL t)):=by
 obtain⟨a,b,f,g,h1,h2,h3,rfl⟩:=zZZ ht
 rcases h1 with⟨rfl,rfl⟩ | ⟨rfl,rfl⟩<;>rcases h2 with rfl | rfl<;>rcases h3 with rfl | rfl<;>kernel_rfl
theorem zUX {t:Tn}(ht:t∈wO):w4 [zK t]=some (zK (xL t)):=by
 obtain⟨a,b,c,f,g,j,h1,h2,h3,h4,rfl⟩:=zZy ht
 rcases h1 with⟨rfl,rfl,rfl⟩ | ⟨rfl,rfl,rfl⟩ | ⟨rfl,rfl,rfl⟩ | ⟨rfl,rfl,rfl⟩ | ⟨rfl,rfl,rfl⟩ | ⟨rfl,rfl,rfl⟩<;>rcases h2 with rfl | rfl<;>rcases h3 with rfl | rfl<;>rcases h4 with rfl | rfl<;>kernel_rfl
theorem aT {n:Nat}(hn:n=2∨n=3){t:Tn}(h:t∈yZ n):w4 [zK t]=some (zK (xL t)):=by
 rcases hn with rfl | rfl
 · exact zUz h
 · exact zUX h
theorem nX {n:Nat}(hn:n=2∨n=3){t u:Tn}(h:t∈yZ n)(h':u∈yZ n):xG [zK t,zK u]=some (zK (yS t u)):=by
 have T:=trM hn h
 have U:=trM hn h'
 have small:n<=1000:=by rcases hn with rfl | rfl<;>decide
 rw[aR]
 exact zY0 t u (by rw[U.len];exact T.fits) (by rw[T.len];exact small)
def zRA:List (List Int×Tn):=[([0,0],[(1,0),(0,0)]),([0,1],[(0,0),(1,0)]),([1,1],[(0,0),(1,0)]),([1,0],[(1,1),(0,1)])]
def zQL:List (List Int×Tn):=[([0,0,0],[(1,0),(0,0),(2,0)]),([0,1,0],[(1,0),(2,0),(0,0)]),([0,1,1],[(0,0),(1,0),(2,0)]),([0,0,1],[(1,1),(2,1),(0,0)]),([1,0,1],[(1,0),(2,1),(0,1)]),([1,1,1],[(0,0),(1,0),(2,0)]),([1,1,0],[(1,1),(2,0),(0,1)]),([1,0,0],[(1,1),(0,1),(2,0)])]
def nG (x:List Int×Tn):D:=.tup [zQ x.1,zK x.2]
def lX (n:Nat):List (List Int×Tn):=if n=2 then zRA else zQL
theorem zTh {n:Nat}(hn:n=2∨n=3):kS [.int n]=some ((lX n).map nG):=by
 rcases hn with rfl | rfl<;>kernel_rfl
theorem zWb {n:Nat}(hn:n=2∨n=3):∀x∈lX n,x.1∈zD n/\x.2∈yZ n:=by
 rcases hn with rfl | rfl<;>decide +kernel
theorem aV {n:Nat}(hn:n=2∨n=3):∀t∈yZ n,((lX n).map fun x=>zM t x.1).Perm (zD n):=by
 rcases hn with rfl | rfl<;>decide +kernel
theorem zVr {n:Nat}(hn:n=2∨n=3){t m u:Tn}{c:List Int}(ht:t∈yZ n)(hm:m∈yZ n)(hu:u∈yZ n)(hc:c∈zD n)(x0 x1 x2 x9:B)(acc:List D)(ha:acc.length<=100)(vE:Int) :
   ∃p:Pt,p.c=zM t c/\p.t∈yZ n/\xI [x0,x1,x2,.fz (zK t),.fz (zK m),.ow acc,.fz (.int vE),.fz (zQ c),.fz (zK u),x9]=some (.nx [x0,x1,x2,.fz (zK t),.fz (zK m),.ow (acc++[zL p]),.fz (.int (vE / 2)),.fz (zQ c),.fz (zK u),.fz (zK p.t)]):=by
 have um:=(nB hn ht).1
 have e1:=aT hn ht
 have e2:=nX hn hu um
 have m2:=rS hn hu um
 have e3:=nX hn ht m2
 have m3:=rS hn ht m2
 generalize hl:yS t (yS u (xL t))=l at e3 m3
 have e4:=nX hn m3 hm
 have m4:=rS hn m3 hm
 have T:=trM hn ht
 have small:n<=1000:=by rcases hn with rfl | rfl<;>decide
 have e5:uZ [zK t,zQ c]=some (zQ (zM t c)):=by
   rw[dP]
   exact iP t c (by rw[vX hn c hc];exact T.fits) (by rw[T.len];exact small)
 have fin:∀w:Tn,w∈yZ n->vK [x0,x1,x2,.fz (zK t),.fz (zK m),.ow acc,.fz (.int vE),.fz (zQ c),.fz (zK u),.fz (zK w)]=some (.nx [x0,x1,x2,.fz (zK t),.fz (zK m),.ow (acc++[zL ⟨zM t c,w,decide (vE % 2=1)⟩]),.fz (.int (vE / 2)),.fz (zQ c),.fz (zK u),.fz (zK w)]):=fun w hw=>by
   unfold vK
   rw[yU (zZQ (d:=zL ⟨zM t c,w,decide (vE % 2=1)⟩) (ds:=acc) (zR1 ((uS rfl rfl).trans e5) rfl (by unfold wF;rw[sA (x:=vE % 2) (yH rfl rfl rfl)];rfl)) rfl (by omega))]
   rfl
 unfold xI
 rw[vN (d:=zK l) ((uS rfl ((uS rfl ((bW rfl).trans e1)).trans e2)).trans e3)]
 unfold tG
 have ht1:eB2 gEq (xJ (eV 6) (eC (.int 2))) (eC (.int 1)) [x0,x1,x2,.fz (zK t),.fz (zK m),.ow acc,.fz (.int vE),.fz (zQ c),.fz (zK u),.fz (zK l)]=some (decide (vE % 2=1)):=sA (yH rfl rfl rfl)
 by_cases hb:vE % 2=1
 · refine⟨⟨zM t c,yS l m,decide (vE % 2=1)⟩,rfl,m4,?_⟩
   rw[yU (ρ':=[x0,x1,x2,.fz (zK t),.fz (zK m),.ow acc,.fz (.int vE),.fz (zQ c),.fz (zK u),.fz (zK (yS l m))])]
   · exact fin _ m4
   · refine(uT ht1).trans ?_
     rw[Qg hb,Qc rfl]
     unfold yY
     rw[uS rfl rfl,e4]
     rfl
 · refine⟨⟨zM t c,l,decide (vE % 2=1)⟩,rfl,m3,?_⟩
   rw[yU (ρ':=[x0,x1,x2,.fz (zK t),.fz (zK m),.ow acc,.fz (.int vE),.fz (zQ c),.fz (zK u),.fz (zK l)])]
   · exact fin _ m3
   · refine(uT ht1).trans ?_
     rw[Wr hb]
     rfl
theorem aW {n:Nat}(hn:n=2∨n=3){t m:Tn}(ht:t∈yZ n)(hm:m∈yZ n)(x0 x1 x2:B):∀(bs:List (List Int×Tn)) (acc:List Pt) (vE:Int) (x7 x8 x9:B),(∀x∈bs,x.1∈zD n/\x.2∈yZ n)->acc.length+bs.length<=100->(∀p∈acc,p.t∈yZ n) ->
   ∃(ps:List Pt) (y6 y7 y8 y9:B),ps.map (·.c)=acc.map (·.c)++bs.map (fun x=>zM t x.1)/\(∀p∈ps,p.t∈yZ n) /\
     tM (gT (zO (gN 7) (zO (gN 8) yD))) xI (bs.map nG) [x0,x1,x2,.fz (zK t),.fz (zK m),.ow (acc.map zL),.fz (.int vE),x7,x8,x9]=some (.nx [x0,x1,x2,.fz (zK t),.fz (zK m),.ow (ps.map zL),y6,y7,y8,y9])
 | [],acc,vE,x7,x8,x9,_,_,ha=>⟨acc,.fz (.int vE),x7,x8,x9,by simp,ha,rfl⟩
 | x::r,acc,vE,x7,x8,x9,hb,hl,ha=>by
   obtain⟨h1,h2⟩:=hb x Qj
   obtain⟨p,p1,p2,p3⟩:=zVr hn ht hm h2 h1 x0 x1 x2 x9 (acc.map zL) (by rw[Qo];simp at hl;omega) vE
   obtain⟨ps,y6,y7,y8,y9,q1,q2,q3⟩:=aW hn ht hm x0 x1 x2 r (acc++[p]) (vE / 2) (.fz (zQ x.1)) (.fz (zK x.2)) (.fz (zK p.t)) (fun y hy=>hb y (Qd _ hy)) (by simp at hl ⊢;omega) (fun q hq=>by
     rcases Tx.mp hq with z | z
     · exact ha q z
     · rw[To.mp z];exact p2)
   refine⟨ps,y6,y7,y8,y9,?_,q2,?_⟩
   · rw[q1];simp[p1]
   · rw[Qb,wZ (ρ1:=[x0,x1,x2,.fz (zK t),.fz (zK m),.ow (acc.map zL),.fz (.int vE),.fz (zQ x.1),.fz (zK x.2),x9]) rfl p3]
     rw[Ew] at q3
     exact q3
theorem aO {n:Nat}(hn:n=2∨n=3)(q:Int):∃ps:List Pt,PtsOk n ps/\vA [.int n,.int q]=some (ps.map zL):=by
 obtain⟨t,tm,te⟩:=zZV q hn
 have hmir:∃m∈yZ n,∀r:List B,yA (eL (yO (iR (eV 0)) 1 [] (gN 0) tOK (zC (zY (eV 0) (zY (zZh (wF (eB2 gEq (eV 0) (eC (.int 0))))) zS))))) (.fz (.int (n:Nat))::r)=some (zK m):=by
   rcases hn with rfl | rfl
   · exact⟨[(0,1),(1,0)],by decide +kernel,fun r=>by kernel_rfl⟩
   · exact⟨[(0,1),(1,0),(2,0)],by decide +kernel,fun r=>by kernel_rfl⟩
 obtain⟨m,mm,me⟩:=hmir
 have um:=(nB hn tm).1
 have e1:=aT hn tm
 have e2:=nX hn mm um
 have m2:=rS hn mm um
 have e3:=nX hn tm m2
 have m3:=rS hn tm m2
 have go:∀bs:List (List Int×Tn),(∀x∈bs,x.1∈zD n/\x.2∈yZ n)->bs.length<=100->(bs.map fun x=>zM t x.1).Perm (zD n)->∃ps:List Pt,PtsOk n ps/\(uP [.fz (.int n),.fz (.int q),.fz (.lst (bs.map nG)),.fz (zK t),.no,.no,.no,.no,.no,.no]).bind zZ2=some (ps.map zL):=fun bs h1 h2 h3=>by
   obtain⟨ps,y6,y7,y8,y9,q1,q2,q3⟩:=aW hn tm m3 (.fz (.int n)) (.fz (.int q)) (.fz (.lst (bs.map nG))) bs [] (q / 96) .no .no .no h1 (by simpa using h2) (by simp)
   refine⟨ps,⟨?_,q2⟩,?_⟩
   · rw[q1];simpa using h3
   · unfold uP
     rw[vN (d:=zK m) (me _)]
     unfold rZ
     rw[vN (d:=zK (yS t (yS m (xL t)))) ((uS rfl ((uS rfl ((bW rfl).trans e1)).trans e2)).trans e3)]
     unfold sJ
     rw[yU (ρ':=[.fz (.int n),.fz (.int q),.fz (.lst (bs.map nG)),.fz (zK t),.fz (zK (yS t (yS m (xL t)))),.ow [],.no,.no,.no,.no]) rfl]
     unfold rR
     rw[vN (d:=.int (q / 96)) (yH rfl rfl rfl)]
     unfold rW
     have fr:vU (iL (eV 2)) (gT (zO (gN 7) (zO (gN 8) yD))) xI [.fz (.int n),.fz (.int q),.fz (.lst (bs.map nG)),.fz (zK t),.fz (zK (yS t (yS m (xL t)))),.ow [],.fz (.int (q / 96)),.no,.no,.no]=some (.nx [.fz (.int n),.fz (.int q),.fz (.lst (bs.map nG)),.fz (zK t),.fz (zK (yS t (yS m (xL t)))),.ow (ps.map zL),y6,y7,y8,y9]):=q3
     dsimp only[List.set]
     rw[yU fr]
     rfl
 have small:(lX n).length<=100:=by rcases hn with rfl | rfl<;>decide
 show ∃ps:List Pt,PtsOk n ps/\(uR [.fz (.int n),.fz (.int q),.no,.no,.no,.no,.no,.no,.no,.no]).bind zZ2=some (ps.map zL)
 unfold uR
 rw[vN (d:=.lst ((lX n).map nG)) (kD (by unfold wE;rw[yQ (d:=.int n) rfl rfl,Qe];exact zTh hn))]
 unfold rP
 rw[vN (d:=zK t) ((uS rfl rfl).trans te)]
 unfold sF
 have ht1:eB2 gEq (xJ (vD (eV 1) (eC (.int 48))) (eC (.int 2))) (eC (.int 1)) [.fz (.int n),.fz (.int q),.fz (.lst ((lX n).map nG)),.fz (zK t),.no,.no,.no,.no,.no,.no]=some (decide (q / 48 % 2=1)):=sA (yH (yH rfl rfl rfl) rfl rfl)
 by_cases hb:q / 48 % 2=1
 · obtain⟨ps,g1,g2⟩:=go (lX n).reverse (fun x hx=>zWb hn x (Rn.mp hx)) (by rw[Ee];exact small) (by rw[Yc];exact(List.reverse_perm _).trans (aV hn t tm))
   refine⟨ps,g1,?_⟩
   rw[yU (ρ':=[.fz (.int n),.fz (.int q),.fz (.lst ((lX n).reverse.map nG)),.fz (zK t),.no,.no,.no,.no,.no,.no])]
   · exact g2
   · refine(uT ht1).trans ?_
     rw[Qg hb,Qc rfl,Yc]
     rfl
 · obtain⟨ps,g1,g2⟩:=go (lX n) (zWb hn) small (aV hn t tm)
   refine⟨ps,g1,?_⟩
   rw[yU (ρ':=[.fz (.int n),.fz (.int q),.fz (.lst ((lX n).map nG)),.fz (zK t),.no,.no,.no,.no,.no,.no])]
   · exact g2
   · refine(uT ht1).trans ?_
     rw[Wr hb]
     rfl
theorem zX5 {n:Nat}(hn:n=2∨n=3)(cell:Int):∃ps:List Pt,PtsOk n ps/\qM [.int n,.int cell]=some (ps.map zL):=by
 have e1:=dH cell 16807 (by decide) (by decide)
 have e2:=dH cell 39373 (by decide) (by decide)
 generalize zYx cell 16807=r at e1
 generalize zYx cell 39373=o at e2
 obtain⟨ps,ok,e3⟩:=aO hn (r / 8)
 have sm:=ok.small hn
 have pos:0 < ps.length:=by rw[ok.len];rcases hn with rfl | rfl<;>decide
 have i0:0<=r % (ps.length:Int):=Ue _ (by omega)
 have i1:r % (ps.length:Int) < ps.length:=Yp _ (by omega)
 generalize hi:r % (ps.length:Int)=iv at i0 i1
 have hlt:iv.toNat < ps.length:=by omega
 have px:=Qu hlt
 generalize hp:ps[iv.toNat]=p at px
 have hat:atI (ps.map zL) iv=some (zL p):=by
   rw[jW,fT (α:=Pt) ps iv p i0 i1,Wu,px];rfl
 have pm:p∈ps:=Ej px
 obtain⟨t,tm,te⟩:=zZV (o / 3) hn
 have okset:∀(w:Tn) (bb:Bool),w∈yZ n->PtsOk n (ps.set iv.toNat ⟨p.c,w,bb⟩):=fun w bb hw=>by
   refine⟨?_,fun x hx=>?_⟩
   · have:(ps.set iv.toNat ⟨p.c,w,bb⟩).map (·.c)=ps.map (·.c):=by
       rw[List.map_set]
       refine List.ext_getElem? fun k=>?_
       rw[Uh]
       split
       · rename_i e
         subst e
         rw[Wt,px,Qo]
         simp[hlt]
       · rfl
     rw[this];exact ok.perm
   · rcases List.mem_or_eq_of_mem_set hx with z | z
     · exact ok.turn x z
     · rw[z];exact hw
 have sit:∀(f:Ef) (ρ:List B) (q:Pt),f ρ=some (zL q)->ρ[3]?=some (.ow (ps.map zL))->eV 4 ρ=some (.int iv)->lV 3 (eV 4) f ρ=some (.nx (ρ.set 3 (.ow ((ps.set iv.toNat q).map zL)))):=fun f ρ q h1 h2 h3=>by
   unfold lV
   rw[h1,Qe,h3,Qe,h2]
   show(if (ps.map zL).length<=lim then _ else none)=_
   rw[Qc (by rw[Qo];show ps.length<=100000;omega),Qo]
   have:ixN ps.length iv=some iv.toNat:=by unfold ixN;rw[Qc i0,Qc i1]
   rw[this,List.map_set]
   rfl
 show ∃ps:List Pt,PtsOk n ps/\(vJ [.fz (.int n),.fz (.int cell),.no,.no,.no,.no,.no,.no,.no]).bind zZ2=some (ps.map zL)
 unfold vJ
 rw[vN (d:=.int r) ((uS rfl rfl).trans e1)]
 unfold tD
 rw[yU (ρ':=[.fz (.int n),.fz (.int cell),.fz (.int r),.ow (ps.map zL),.no,.no,.no,.no,.no]) (by
   unfold vC
   rw[iH rfl (yH (i:=r) (j:=8) rfl rfl rfl),e3]
   rfl)]
 unfold tH
 rw[vN (d:=.int iv) (by
   rw[←hi]
   refine yH (i:=r) (j:=(ps.length:Int)) rfl ?_ (Qg (by omega))
   show some (D.int ((ps.map zL).length:Nat))=_
   rw[Qo])]
 unfold tI
 rw[vN (d:=.int o) ((uS rfl rfl).trans e2)]
 unfold sV
 rw[yU (ρ':=[.fz (.int n),.fz (.int cell),.fz (.int r),.ow (ps.map zL),.fz (.int iv),.fz (.int o),.fz (zQ p.c),.fz (zK p.t),.fz (.bl p.b)]) (by
   unfold oP
   dsimp only[List.set]
   rw[show zYq 3 (eV 4) [.fz (.int n),.fz (.int cell),.fz (.int r),.ow (ps.map zL),.fz (.int iv),.fz (.int o),.no,.no,.no]=some (zL p) from hat]
   rfl)]
 unfold tJ
 have ht1:eB2 gEq (xJ (eV 5) (eC (.int 3))) (eC (.int 0)) [.fz (.int n),.fz (.int cell),.fz (.int r),.ow (ps.map zL),.fz (.int iv),.fz (.int o),.fz (zQ p.c),.fz (zK p.t),.fz (.bl p.b)]=some (decide (o % 3=0)):=sA (yH rfl rfl rfl)
 by_cases hb:o % 3=0
 · refine⟨_,okset p.t (!p.b) (ok.turn p pm),?_⟩
   rw[yU (ρ':=[.fz (.int n),.fz (.int cell),.fz (.int r),.ow ((ps.set iv.toNat ⟨p.c,p.t,!p.b⟩).map zL),.fz (.int iv),.fz (.int o),.fz (zQ p.c),.fz (zK p.t),.fz (.bl p.b)])]
   · rfl
   · unfold sIf
     rw[ht1,Qe,Qg hb,Qc rfl]
     exact sit _ _ ⟨p.c,p.t,!p.b⟩ (zR1 rfl rfl rfl) rfl rfl
 · refine⟨_,okset t (decide (o / 200 % 2=1)) tm,?_⟩
   rw[yU (ρ':=[.fz (.int n),.fz (.int cell),.fz (.int r),.ow ((ps.set iv.toNat ⟨p.c,t,decide (o / 200 % 2=1)⟩).map zL),.fz (.int iv),.fz (.int o),.fz (zQ p.c),.fz (zK p.t),.fz (.bl p.b)])]
   · rfl
   · unfold sIf
     rw[ht1,Qe,Wr hb,Wd (by decide)]
     exact sit _ _ ⟨p.c,t,decide (o / 200 % 2=1)⟩ (zR1 rfl ((uS (yH rfl rfl rfl) rfl).trans te) (by unfold wF;rw[sA (x:=o / 200 % 2) (yH (yH rfl rfl rfl) rfl rfl)];rfl)) rfl rfl
theorem zUT {n:Nat}(hn:n=2∨n=3)(cell:Int):∃ps:List Pt,PtsOk n ps/\oA [.int n,.int cell]=some (ps.map zL):=by
 have e1:=dH cell 40692 (by decide) (by decide)
 generalize zYx cell 40692=r at e1
 show ∃ps:List Pt,PtsOk n ps/\(tS [.fz (.int n),.fz (.int cell),.no]).bind zZ2=some (ps.map zL)
 unfold tS
 rw[vN (d:=.int r) ((uS rfl rfl).trans e1)]
 dsimp only[List.set]
 unfold pZ
 have t0:eB2 gEq (xJ (eV 2) (eC (.int 4))) (eC (.int 0)) [.fz (.int n),.fz (.int cell),.fz (.int r)]=some (decide (r % 4=0)):=sA (yH rfl rfl rfl)
 have t1:eB2 gEq (xJ (eV 2) (eC (.int 4))) (eC (.int 1)) [.fz (.int n),.fz (.int cell),.fz (.int r)]=some (decide (r % 4=1)):=sA (yH rfl rfl rfl)
 by_cases h0:r % 4=0
 · obtain⟨ps,ok,e⟩:=zUf hn cell
   refine⟨ps,ok,?_⟩
   rw[show zI (sIf _ (oE (wE 2 rA (zY (eV 0) (zY (eV 1) zS)))) tO) uA _=some (.rl (ps.map zL)) from by
     unfold zI
     rw[show sIf _ _ _ _=some (Out.rl (ps.map zL)) from(uT t0).trans (by rw[Qg h0,Qc rfl];unfold oE;rw[iH rfl rfl,e];rfl)]
     rfl]
   rfl
 · rw[yU (ρ':=[.fz (.int n),.fz (.int cell),.fz (.int r)]) ((uT t0).trans (by rw[Wr h0];rfl))]
   unfold uA
   by_cases h1:r % 4=1
   · obtain⟨ps,ok,e⟩:=aO hn (r / 4)
     refine⟨ps,ok,?_⟩
     rw[show zI (sIf _ (oE (wE 2 vA (zY (eV 0) (zY (vD (eV 2) (eC (.int 4))) zS)))) tO) qR _=some (.rl (ps.map zL)) from by
       unfold zI
       rw[show sIf _ _ _ _=some (Out.rl (ps.map zL)) from(uT t1).trans (by rw[Qg h1,Qc rfl];unfold oE;rw[iH rfl (yH (i:=r) (j:=4) rfl rfl rfl),e];rfl)]
       rfl]
     rfl
   · obtain⟨ps,ok,e⟩:=zX5 hn cell
     refine⟨ps,ok,?_⟩
     rw[yU (ρ':=[.fz (.int n),.fz (.int cell),.fz (.int r)]) ((uT t1).trans (by rw[Wr h1];rfl))]
     unfold qR oE
     rw[iH rfl rfl,e]
     rfl
section
variable {n:Nat} (hn:n=2∨n=3) {ps:List Pt} (ok:PtsOk n ps) {t:Tn} (ht:t∈yZ n) (b j:Bool)
include hn ok ht
theorem zYX {k:Nat}(hk:k < ps.length):qN [.lst (ps.map zL),stD t b,.int k]=some (zQt t b (ps[ixB b ps.length k]'(uD hk))):=by
 generalize hp:ps[ixB b ps.length k]'(uD hk)=p
 have hm:p∈ps:=by rw[←hp];exact Rc _
 obtain⟨f1,f2⟩:=zYL hn ok ht hm
 have at_:atD (.lst (ps.map zL)) (.int ((ixB b ps.length k:Nat):Int))=some (zL p):=by
   show atI (ps.map zL) _=_
   rw[jW,zWv (Qu (uD hk)),hp]
   rfl
 have s0:oP (eV 1) (gT (zO (gN 3) (zO (gN 4) yD))) [.fz (.lst (ps.map zL)),.fz (stD t b),.fz (.int k),.no,.no,.no,.no,.no]=some (.nx [.fz (.lst (ps.map zL)),.fz (stD t b),.fz (.int k),.fz (zK t),.fz (.bl b),.no,.no,.no]):=rfl
 have q4:=fun r hk=>xY (g:=sX) (r:=r) s0 hk
 refine q4 _ ?_
 have s1:sIf (tB1 (eV 4)) (yY 2 (mD (mD (vZ (eV 0)) (eC (.int 1))) (eV 2))) tO [.fz (.lst (ps.map zL)),.fz (stD t b),.fz (.int k),.fz (zK t),.fz (.bl b),.no,.no,.no]=some (.nx [.fz (.lst (ps.map zL)),.fz (stD t b),.fz (.int ((ixB b ps.length k:Nat):Int)),.fz (zK t),.fz (.bl b),.no,.no,.no]):=by
   rw[←fS hk]
   cases b with
   | true=>simp only[sIf,yY,tB1,eI,vZ,zR8,eV,eC,sQ,Wo,Qx,Qe,Wq,Rt,Qo,List.set]
   | false=>rfl
 have q5:=fun r hk=>xY (g:=sU) (r:=r) s1 hk
 refine q5 _ ?_
 have s2:oP (eIx (eV 0) (eV 2)) (gT (zO (gN 5) (zO (gN 6) (zO (gN 7) yD)))) [.fz (.lst (ps.map zL)),.fz (stD t b),.fz (.int ((ixB b ps.length k:Nat):Int)),.fz (zK t),.fz (.bl b),.no,.no,.no]=some (.nx [.fz (.lst (ps.map zL)),.fz (stD t b),.fz (.int ((ixB b ps.length k:Nat):Int)),.fz (zK t),.fz (.bl b),.fz (zQ p.c),.fz (zK p.t),.fz (.bl p.b)]):=by
   unfold oP
   have e:eIx (eV 0) (eV 2) [.fz (.lst (ps.map zL)),.fz (stD t b),.fz (.int ((ixB b ps.length k:Nat):Int)),.fz (zK t),.fz (.bl b),.no,.no,.no]=some (zL p):=at_
   rw[e]
   rfl
 have q6:=fun r hk=>xY (g:=sY) (r:=r) s2 hk
 refine q6 _ ?_
 have o2:∀x y:D,okL [x,y]=some [x,y]:=fun _ _=>rfl
 simp only[sY,xQ,zC,zY,zS,zF,dP,aR,wF,eB2,eV,sQ,Wo,Qx,Qa,Ed,Qe,Wq,Rt,f1,f2,zU2,o2,vQ]
 rfl
end
def xV (ps:List Pt)(b:Bool)(k:Nat):Pt:=ps.getD (ixB b ps.length k) ⟨[],[],false⟩
theorem jX {ps:List Pt}{b:Bool}{k:Nat}(hk:k < ps.length):ps[ixB b ps.length k]'(uD hk)=xV ps b k:=by
 unfold xV
 rw[Wu,Qu (uD hk)]
 rfl
theorem zZg {ps:List Pt}{b:Bool}{k:Nat}(hk:k < ps.length):xV ps b k∈ps:=by rw[←jX hk];exact Rc _
def cW (ps:List Pt)(i:Nat):Tn->Bool->Int->List Nat->Int
 | _,_,x,[]=>x
 | t,b,x,d::r=>cW ps i (yS t (xV ps b d).t) (b != (xV ps b d).b) (2*x+(zM t (xV ps b d).c).getD i 0) r
def plW (ps:List Pt)(n:Nat)(t:Tn)(b:Bool)(f:Nat->Int)(ds:List Nat):List Int:=(List.range n).map fun i=>cW ps i t b (f i) ds
theorem eO (ps:List Pt)(i:Nat):∀(ds:List Nat) (t:Tn) (b:Bool) (x:Int),cW ps i t b x ds=x*2^ds.length+cW ps i t b 0 ds
 | [],t,b,x=>by simp[cW]
 | d::r,t,b,x=>by
   unfold cW
   rw[eO ps i r _ _ (2*x+_),eO ps i r _ _ (2*0+_)]
   rw[Qa]
   generalize(zM t (xV ps b d).c).getD i 0=e
   generalize cW ps i _ _ 0 r=y
   rw[Tq]
   generalize(2:Int)^r.length=p
   rw[Int.add_mul,Int.add_mul,Ya 2 x,Up,Ya 2 p]
   omega
theorem iA {n:Nat}(hn:n=2∨n=3){c:List Int}(hc:c∈zD n)(i:Nat):c.getD i 0=0∨c.getD i 0=1:=by
 have key:∀c∈zD n,∀x∈c,x=0∨x=1:=by rcases hn with rfl | rfl<;>decide +kernel
 rw[Wu]
 cases h:c[i]? with
 | none=>exact .inl rfl
 | some x=>exact key c hc x (Ej h)
theorem nZ {n:Nat}(hn:n=2∨n=3):∀t∈yZ n,∀c∈zD n,zM t c∈zD n:=by
 rcases hn with rfl | rfl<;>decide +kernel
section
variable {n:Nat} (hn:n=2∨n=3) {ps:List Pt} (ok:PtsOk n ps)
include hn ok
theorem zUt {b:Bool}{k:Nat}(hk:k < ps.length):(xV ps b k).c∈zD n:=ok.perm.mem_iff.mp (Wc.mpr ⟨_,zZg hk,rfl⟩)
theorem zSP {t:Tn}(ht:t∈yZ n){b:Bool}{k:Nat}(hk:k < ps.length):yS t (xV ps b k).t∈yZ n:=rS hn ht (ok.turn _ (zZg hk))
theorem jJ (i:Nat):∀(ds:List Nat) (t:Tn) (b:Bool),t∈yZ n->(∀d∈ds,d < ps.length)->0<=cW ps i t b 0 ds/\cW ps i t b 0 ds < 2^ds.length
 | [],t,b,_,_=>by simp[cW]
 | d::r,t,b,ht,hd=>by
   have hk:=hd d Qj
   have ih:=jJ i r (yS t (xV ps b d).t) (b != (xV ps b d).b) (zSP hn ok ht hk) fun x hx=>hd x (Qd _ hx)
   have hb:=iA hn (nZ hn t ht _ (zUt hn ok (b:=b) hk)) i
   unfold cW
   rw[eO]
   rw[Qa,Tq]
   generalize(zM t (xV ps b d).c).getD i 0=e at hb
   generalize cW ps i _ _ 0 r=y at ih
   generalize(2:Int)^r.length=p at ih
   rcases hb with h | h<;>subst h<;>omega
theorem zP6 (f:Nat->Int)(c:List Int)(hc:c.length=n)(x0 x2 x3 x4 x6 x7 x8:B) :
   eL (yO (iR (eV 1)) 1 [9,5] (gN 0) tOK (mG (mH (eC (.int 2)) (eIx (eV 2) (eV 0))) (eIx (eV 1) (eV 0)))) [x0,.fz (.int n),x2,x3,x4,.fz (.lst (((List.range n).map f).map .int)),x6,x7,x8,.fz (zQ c)]=some (.lst (((List.range n).map fun i=>2*f i+c.getD i 0).map .int)):=by
 rcases hn with rfl | rfl
 · match c,hc with
   | [a,b],_=>show _=some (D.lst [D.int (2*f 0+a),.int (2*f 1+b)]);generalize f 0=u;generalize f 1=v;kernel_rfl
 · match c,hc with
   | [a,b,e],_=>show _=some (D.lst [D.int (2*f 0+a),.int (2*f 1+b),.int (2*f 2+e)]);generalize f 0=u;generalize f 1=v;generalize f 2=w;kernel_rfl
theorem zYC (x2 x3 x6 x7:B):∀(ds:List Nat) (t:Tn) (b:Bool) (f:Nat->Int) (x8 x9:B),t∈yZ n->(∀d∈ds,d < ps.length) ->
   ∃y4 y8 y9,tM (gN 8) w8 (ds.map fun d=>.int (d:Nat)) [.fz (.lst (ps.map zL)),.fz (.int n),x2,x3,.fz (stD t b),.fz (.lst (((List.range n).map f).map .int)),x6,x7,x8,x9] =
     some (.nx [.fz (.lst (ps.map zL)),.fz (.int n),x2,x3,y4,.fz (.lst ((plW ps n t b f ds).map .int)),x6,x7,y8,y9])
 | [],t,b,f,x8,x9,_,_=>⟨_,x8,x9,rfl⟩
 | d::r,t,b,f,x8,x9,ht,hd=>by
   have hk:=hd d Qj
   have e1:=zYX hn ok ht b hk
   rw[jX hk] at e1
   have hcl:(zM t (xV ps b d).c).length=n:=vX hn _ (nZ hn t ht _ (zUt hn ok (b:=b) hk))
   obtain⟨y4,y8,y9,ih⟩:=zYC x2 x3 x6 x7 r (yS t (xV ps b d).t) (b != (xV ps b d).b) (fun i=>2*f i+(zM t (xV ps b d).c).getD i 0) (.fz (.int (d:Nat))) (.fz (zQ (zM t (xV ps b d).c))) (zSP hn ok ht hk) fun x hx=>hd x (Qd _ hx)
   refine⟨y4,y8,y9,?_⟩
   rw[Qb]
   rw[wZ (ρ1:=[.fz (.lst (ps.map zL)),.fz (.int n),x2,x3,.fz (stD t b),.fz (.lst (((List.range n).map f).map .int)),x6,x7,.fz (.int (d:Nat)),x9])
     (ρ2:=[.fz (.lst (ps.map zL)),.fz (.int n),x2,x3,.fz (stD (yS t (xV ps b d).t) (b != (xV ps b d).b)),.fz (.lst (((List.range n).map fun i=>2*f i+(zM t (xV ps b d).c).getD i 0).map .int)),x6,x7,.fz (.int (d:Nat)),.fz (zQ (zM t (xV ps b d).c))]) rfl ?_]
   · exact ih
   · unfold w8
     rw[yU (ρ':=[.fz (.lst (ps.map zL)),.fz (.int n),x2,x3,.fz (stD (yS t (xV ps b d).t) (b != (xV ps b d).b)),.fz (.lst (((List.range n).map f).map .int)),x6,x7,.fz (.int (d:Nat)),.fz (zQ (zM t (xV ps b d).c))])]
     · unfold nO yY
       rw[zP6 hn ok f _ hcl]
       rfl
     · unfold oP
       rw[pO rfl rfl rfl,e1]
       rfl
theorem zSU (f:Nat->Int)(c:List Int)(hc:c.length=n):nC [zQ ((List.range n).map f),zQ c]=some (zQ ((List.range n).map fun i=>2*f i+c.getD i 0)):=by
 rcases hn with rfl | rfl
 · match c,hc with
   | [a,b],_=>show nC [.tup [.int (f 0),.int (f 1)],.tup [.int a,.int b]]=some (.tup [.int (2*f 0+a),.int (2*f 1+b)]);generalize f 0=u;generalize f 1=v;kernel_rfl
 · match c,hc with
   | [a,b,e],_=>show nC [.tup [.int (f 0),.int (f 1),.int (f 2)],.tup [.int a,.int b,.int e]]=some (.tup [.int (2*f 0+a),.int (2*f 1+b),.int (2*f 2+e)]);generalize f 0=u;generalize f 1=v;generalize f 2=w;kernel_rfl
theorem dN (j:Bool)(x1 x2:B):∀(ds:List Nat) (t:Tn) (b:Bool) (f:Nat->Int) (x5 x6:B),t∈yZ n->(∀d∈ds,d < ps.length) ->
   ∃y3 y5 y6,tM (gN 5) tU (ds.map fun d=>.int (d:Nat)) [.fz (zB n j ps),x1,x2,.fz (stD t b),.fz (zQ ((List.range n).map f)),x5,x6] =
     some (.nx [.fz (zB n j ps),x1,x2,y3,.fz (zQ (plW ps n t b f ds)),y5,y6])
 | [],t,b,f,x5,x6,_,_=>⟨_,x5,x6,rfl⟩
 | d::r,t,b,f,x5,x6,ht,hd=>by
   have hk:=hd d Qj
   have e1:=zWe hn ok ht b j hk
   rw[jX hk] at e1
   have hcl:(zM t (xV ps b d).c).length=n:=vX hn _ (nZ hn t ht _ (zUt hn ok (b:=b) hk))
   have e2:=zSU hn ok f _ hcl
   obtain⟨y3,y5,y6,ih⟩:=dN j x1 x2 r (yS t (xV ps b d).t) (b != (xV ps b d).b) (fun i=>2*f i+(zM t (xV ps b d).c).getD i 0) (.fz (.int (d:Nat))) (.fz (zQ (zM t (xV ps b d).c))) (zSP hn ok ht hk) fun x hx=>hd x (Qd _ hx)
   refine⟨y3,y5,y6,?_⟩
   rw[Qb]
   rw[wZ (ρ1:=[.fz (zB n j ps),x1,x2,.fz (stD t b),.fz (zQ ((List.range n).map f)),.fz (.int (d:Nat)),x6])
     (ρ2:=[.fz (zB n j ps),x1,x2,.fz (stD (yS t (xV ps b d).t) (b != (xV ps b d).b)),.fz (zQ ((List.range n).map fun i=>2*f i+(zM t (xV ps b d).c).getD i 0)),.fz (.int (d:Nat)),.fz (zQ (zM t (xV ps b d).c))]) rfl ?_]
   · exact ih
   · unfold tU
     rw[yU (ρ':=[.fz (zB n j ps),x1,x2,.fz (stD (yS t (xV ps b d).t) (b != (xV ps b d).b)),.fz (zQ ((List.range n).map f)),.fz (.int (d:Nat)),.fz (zQ (zM t (xV ps b d).c))])]
     · unfold lW yY
       rw[uS rfl rfl,e2]
       rfl
     · unfold oP
       rw[pO rfl rfl rfl,e1]
       rfl
end
def xN (B:Nat):Nat->Nat->List Nat
 | _,0=>[]
 | a,L+1=>a % B::xN B (a / B) L
theorem dX (B:Nat):∀(L a:Nat),(xN B a L).length=L
 | 0,a=>rfl
 | L+1,a=>by unfold xN;rw[Qa,dX B L]
theorem jK {B:Nat}(hB:0 < B):∀(L a:Nat),∀d∈xN B a L,d < B
 | 0,a,d,h=>by cases h
 | L+1,a,d,h=>by
   unfold xN at h
   rcases Qk.mp h with e | e
   · rw[e];exact Nat.mod_lt _ hB
   · exact jK hB L _ d e
theorem zYA {B:Nat}(hB:0 < B):∀(L a acc:Nat),a < B^L->(xN B a L).reverse.foldl (fun s d=>s*B+d) acc=acc*B^L+a
 | 0,a,acc,h=>by
   have:a=0:=by simpa using h
   subst this
   simp[xN]
 | L+1,a,acc,h=>by
   unfold xN
   have h':a / B < B^L:=Nat.div_lt_of_lt_mul (by rw[Rf,←Tk];exact h)
   rw[Ts,List.foldl_append,zYA hB L (a / B) acc h']
   show(acc*B^L+a / B)*B+a % B=_
   have:=Nat.div_add_mod a B
   rw[Tk,Nat.add_mul,Ua,Rf (a / B) B]
   omega
section
variable {ps:List Pt} (hB:0 < ps.length) (hs:ps.length<=8)
include hB hs
theorem zWy {f:Ef}{ρ:List B}{g:Ef}{a:Nat}(h1:f ρ=some (.int (a:Nat)))(h2:g ρ=some (.int (ps.length:Nat))):xJ f g ρ=some (.int ((a % ps.length:Nat):Nat)):=by
 rw[Int.natCast_emod]
 exact yH h1 h2 (Qg (by omega))
theorem zWa {f:Ef}{ρ:List B}{g:Ef}{a:Nat}(h1:f ρ=some (.int (a:Nat)))(h2:g ρ=some (.int (ps.length:Nat))):vD f g ρ=some (.int ((a / ps.length:Nat):Nat)):=by
 rw[Int.natCast_ediv]
 refine yH h1 h2 ?_
 unfold cB
 rw[Qg (show(0:Int) < (ps.length:Nat) by omega),Qg (show((ps.length:Nat):Int) < 1073741824 by omega)]
 rfl
theorem fA (x1 x2 x4 x5:B):∀(its:List D) (acc:List Nat) (a:Nat) (x7 x8 x9:B),acc.length+its.length<=1000 ->
   ∃y7,tM (gN 7) vB its [.fz (.lst (ps.map zL)),x1,x2,.fz (.int (a:Nat)),x4,x5,.ow (acc.map fun d=>.int (d:Nat)),x7,x8,x9] =
     some (.nx [.fz (.lst (ps.map zL)),x1,x2,.fz (.int ((a / ps.length^its.length:Nat):Nat)),x4,x5,.ow ((acc++xN ps.length a its.length).map fun d=>.int (d:Nat)),y7,x8,x9])
 | [],acc,a,x7,x8,x9,_=>⟨x7,by simp[tM,xN]⟩
 | d::r,acc,a,x7,x8,x9,hl=>by
   obtain⟨y7,ih⟩:=fA x1 x2 x4 x5 r (acc++[a % ps.length]) (a / ps.length) (.fz d) x8 x9 (by simp at hl ⊢;omega)
   refine⟨y7,?_⟩
   rw[wZ (ρ1:=[.fz (.lst (ps.map zL)),x1,x2,.fz (.int (a:Nat)),x4,x5,.ow (acc.map fun d=>.int (d:Nat)),.fz d,x8,x9])
     (ρ2:=[.fz (.lst (ps.map zL)),x1,x2,.fz (.int ((a / ps.length:Nat):Nat)),x4,x5,.ow ((acc++[a % ps.length]).map fun d=>.int (d:Nat)),.fz d,x8,x9]) rfl ?_,ih]
   · rw[Qa,Tk,Rf,←Nat.div_div_eq_div_mul]
     simp[xN]
   · have hlen:∀ρ:List B,ρ[0]?=some (.fz (.lst (ps.map zL)))->vZ (eV 0) ρ=some (.int (ps.length:Nat)):=fun ρ h=>by
       unfold vZ eV sQ
       rw[h,Qe]
       show some (D.int ((ps.map zL).length:Nat))=_
       rw[Qo]
     unfold vB
     rw[yU (zZQ (d:=.int ((a % ps.length:Nat):Nat)) (ds:=acc.map fun d=>.int (d:Nat)) (zWy hB hs rfl (hlen _ rfl)) rfl (by rw[Qo];simp at hl;omega))]
     unfold nU yY
     rw[zWa hB hs (a:=a) rfl (hlen _ rfl),Ew]
     rfl
theorem zY8 (x1:B)(x2:B)(h1:x1 = .fz (.int (ps.length:Nat))):∀(its:List D) (acc:List Nat) (a:Nat) (x4:B),acc.length+its.length<=1000 ->
   ∃y4,tM (gN 4) wA its [.fz (.int (a:Nat)),x1,x2,.ow (acc.map fun d=>.int (d:Nat)),x4] =
     some (.nx [.fz (.int ((a / ps.length^its.length:Nat):Nat)),x1,x2,.ow ((acc++xN ps.length a its.length).map fun d=>.int (d:Nat)),y4])
 | [],acc,a,x4,_=>⟨x4,by simp[tM,xN]⟩
 | d::r,acc,a,x4,hl=>by
   subst h1
   obtain⟨y4,ih⟩:=zY8 (.fz (.int (ps.length:Nat))) x2 rfl r (acc++[a % ps.length]) (a / ps.length) (.fz d) (by simp at hl ⊢;omega)
   refine⟨y4,?_⟩
   rw[wZ (ρ1:=[.fz (.int (a:Nat)),.fz (.int (ps.length:Nat)),x2,.ow (acc.map fun d=>.int (d:Nat)),.fz d])
     (ρ2:=[.fz (.int ((a / ps.length:Nat):Nat)),.fz (.int (ps.length:Nat)),x2,.ow ((acc++[a % ps.length]).map fun d=>.int (d:Nat)),.fz d]) rfl ?_,ih]
   · rw[Qa,Tk,Rf,←Nat.div_div_eq_div_mul]
     simp[xN]
   · unfold wA
     rw[yU (zZQ (d:=.int ((a % ps.length:Nat):Nat)) (ds:=acc.map fun d=>.int (d:Nat)) (zWy hB hs rfl rfl) rfl (by rw[Qo];simp at hl;omega))]
     unfold nK yY
     rw[zWa hB hs (a:=a) rfl rfl,Ew]
     rfl
theorem zUU {f:Ef}{ρ:List B}{L:Nat}(h:f ρ=some (.int (L:Nat)))(hL:L<=1000):iR f ρ=some (rO 0 L):=by
 unfold iR
 rw[h,Qe]
 show(if decide (-1000000<=(L:Int))&&decide ((L:Int)<=1000000) then some (rO 0 (L:Int).toNat) else none)=_
 rw[Qg (by omega),Qg (by omega),Wb]
 rfl
theorem zV1 (a L:Nat)(hL:L<=100):nR [.int (a:Nat),.int (ps.length:Nat),.int (L:Nat)]=some ((xN ps.length a L).reverse.map fun d=>.int (d:Nat)):=by
 obtain⟨y4,e⟩:=zY8 hB hs (.fz (.int (ps.length:Nat))) (.fz (.int (L:Nat))) rfl (rO 0 L) [] a .no (by rw[tP];simp;omega)
 rw[tP,Ev] at e
 show(tV [.fz (.int (a:Nat)),.fz (.int (ps.length:Nat)),.fz (.int (L:Nat)),.no,.no]).bind zZ2=_
 unfold tV
 rw[yU (ρ':=[.fz (.int (a:Nat)),.fz (.int (ps.length:Nat)),.fz (.int (L:Nat)),.ow [],.no]) rfl]
 unfold qJ
 have fr:vU (iR (eV 2)) (gN 4) wA [.fz (.int (a:Nat)),.fz (.int (ps.length:Nat)),.fz (.int (L:Nat)),.ow [],.no]=some (.nx [.fz (.int ((a / ps.length^L:Nat):Nat)),.fz (.int (ps.length:Nat)),.fz (.int (L:Nat)),.ow ((xN ps.length a L).map fun d=>.int (d:Nat)),y4]):=by
   unfold vU
   rw[zUU hB hs (L:=L) rfl (by omega),Qe]
   exact e
 rw[yU fr]
 unfold lK
 rw[Yc]
 rfl
end
theorem zSf {t:Tf}{f g:Sf}{ρ:List B}{r:Option D}(h:t ρ=some false)(k:(g ρ).bind vQ=r):(zI (sIf t f tO) g ρ).bind vQ=r:=xY (by unfold sIf;rw[h];rfl) k
theorem vS {i:Nat}{f:Ef}{g:Sf}{ρ:List B}{d:D}{r:Option D}(h:f ρ=some d)(k:(g (ρ.set i (.fz d))).bind vQ=r):(zI (yY i f) g ρ).bind vQ=r:=xY (by unfold yY;rw[h];rfl) k
theorem zSe {f:Ef}{ρ:List B}(h:f ρ=some (.bl true)):qZ (tB1 f) ρ=some false:=by unfold qZ tB1;rw[h];rfl
theorem bB (x0 x1:B):∀(its:List D) (p:Int) (x3:B),∃y3,tM (gN 3) iF its [x0,x1,.fz (.int p),x3]=some (.nx [x0,x1,.fz (.int (p*2^its.length)),y3])
 | [],p,x3=>⟨x3,by simp[tM]⟩
 | d::r,p,x3=>by
   obtain⟨y3,ih⟩:=bB x0 x1 r (p*2) (.fz d)
   refine⟨y3,?_⟩
   rw[wZ (ρ1:=[x0,x1,.fz (.int p),.fz d]) (ρ2:=[x0,x1,.fz (.int (p*2)),.fz d]) rfl ?_,ih,Qa,Tq,Ya (2^r.length) 2,←Up]
   unfold iF yY
   rw[show mH (eV 2) (eC (.int 2)) [x0,x1,.fz (.int p),.fz d]=some (.int (p*2)) from yH rfl rfl (zXo (by decide) (by decide))]
   rfl
theorem gI (n L:Nat)(hn:n<=3)(hL:L<=100):fB [.int (n:Nat),.int (L:Nat)]=some (.int (2^(n*L))):=by
 have hm:n*L<=300:=Wh (Uy hn hL) (by decide)
 obtain⟨y3,e⟩:=bB (.fz (.int (n:Nat))) (.fz (.int (L:Nat))) (rO 0 (n*L)) 1 .no
 rw[tP,Int.one_mul] at e
 show(kK [.fz (.int (n:Nat)),.fz (.int (L:Nat)),.no,.no]).bind vQ=_
 unfold kK
 refine vS (d:=.int 1) rfl ?_
 unfold dB
 refine xY (ρ':=[.fz (.int (n:Nat)),.fz (.int (L:Nat)),.fz (.int (2^(n*L))),y3]) ?_ rfl
 unfold vU
 have hmul:mH (eV 0) (eV 1) [.fz (.int (n:Nat)),.fz (.int (L:Nat)),.fz (.int 1),.no]=some (.int ((n*L:Nat):Nat)):=by
   rw[Uq]
   exact yH rfl rfl (zXK (by omega) (by omega))
 have hir:iR (mH (eV 0) (eV 1)) [.fz (.int (n:Nat)),.fz (.int (L:Nat)),.fz (.int 1),.no]=some (rO 0 (n*L)):=by
   unfold iR
   rw[hmul,Qe]
   show(if decide (-1000000<=((n*L:Nat):Int))&&decide (((n*L:Nat):Int)<=1000000) then some (rO 0 ((n*L:Nat):Int).toNat) else none)=_
   generalize n*L=m at hm
   rw[Qg (by omega),Qg (by omega),Wb]
   rfl
 dsimp only[List.set]
 rw[hir,Qe]
 exact e
theorem zRY {n L:Nat}(hn:n=2∨n=3)(hL:L<=100)(xs:List Int)(hl:xs.length=n)(hb:∀x∈xs,0<=x/\x < 2^L):wT [.int (n:Nat),.int (L:Nat),.tup (xs.map D.int)]=some (.bl true):=by
 have hf:=gI 1 L (by decide) hL
 rw[Yz] at hf
 generalize(2:Int)^L=S at hb hf
 show(wI [.fz (.int (n:Nat)),.fz (.int (L:Nat)),.fz (.tup (xs.map D.int)),.no]).bind vQ=_
 unfold wI
 refine vS (d:=.int S) ((uS rfl rfl).trans hf) ?_
 unfold qT xQ
 have e1:wF (eB2 gEq (vZ (eV 2)) (eV 0)) [.fz (.int (n:Nat)),.fz (.int (L:Nat)),.fz (.tup (xs.map D.int)),.fz (.int S)]=some (.bl true):=by
   show(gEq (.int ((xs.map D.int).length:Nat)) (.int (n:Nat))).map D.bl=_
   rw[Qo,hl]
   show(some (decide ((n:Int)=n))).map D.bl=_
   rw[Qg rfl];rfl
 have e2:zXi (eL (yO (iT (eV 2)) 1 [3] (gN 0) tOK (wF (eB3 gLe gLt (eC (.int 0)) (eV 0) (eV 1))))) [.fz (.int (n:Nat)),.fz (.int (L:Nat)),.fz (.tup (xs.map D.int)),.fz (.int S)]=some (.bl true):=by
   have e3:yO (iT (eV 2)) 1 [3] (gN 0) tOK (wF (eB3 gLe gLt (eC (.int 0)) (eV 0) (eV 1))) [.fz (.int (n:Nat)),.fz (.int (L:Nat)),.fz (.tup (xs.map D.int)),.fz (.int S)]=some ((xs.map D.int).map fun _=>.bl true):=by
     show(okL (xs.map D.int)).bind (fun ds=>uE (gN 0) tOK _ ds [.no,.fz (.int S)] [])=_
     rw[lB (by rw[Qo];omega),Qe]
     rw[kJ (h:=fun _=>.bl true)]
     · rfl
     · intro d hd
       obtain⟨a,ha,rfl⟩:=Wc.mp hd
       obtain⟨h1,h2⟩:=hb a ha
       simp[wF,eB3,gLe,gLt,eC,eV,sQ,h1,h2]
   unfold zXi
   rw[kD e3,Qe,Tj]
   show(zYD (xs.map fun _=>.bl true)).map _=_
   rw[gB (fun _=>true)]
   simp
 unfold zWH tB1
 dsimp only[List.set]
 rw[e1,e2]
 rfl
theorem zYU {n:Nat}(hn:n=2∨n=3):tY [.int (n:Nat)]=some (stD (yL n) false):=by rcases hn with rfl | rfl<;>kernel_rfl
theorem sK {n:Nat}(hn:n=2∨n=3):yL n∈yZ n:=by rcases hn with rfl | rfl<;>decide +kernel
theorem aQ {n:Int}{j:Bool}{ps:List Pt}{ρ:List B}(h:eV 0 ρ=some (zB n j ps)):vZ (xA (Str.ofString "Curve") (Str.ofString "parts") (eV 0)) ρ=some (.int (ps.length:Nat)):=by
 unfold vZ
 rw[gG ρ (eV 0) h,Qe]
 show some (D.int ((ps.map wU).length:Nat))=_
 rw[Qo]
theorem pQ {n:Int}{j:Bool}{ps:List Pt}{ρ:List B}(h:eV 0 ρ=some (zB n j ps)):xA (Str.ofString "Curve") (Str.ofString "dims") (eV 0) ρ=some (.int n):=by
 unfold xA;rw[h];rfl
def zZ4:Sf:=zI (yY 6 (yA (eL (yO (iT (eV 2)) 1 [5] (gN 0) tOK (xJ (jC (eV 0) (eV 1)) (eC (.int 2)))))))
   (zI (yY 7 (zF 3 oY (zY (eV 0) (zY (eV 3) (zY (eV 6) zS)))))
   (zI (yY 4 (mG (mH (eV 4) (vZ (xA "Curve" "parts" (eV 0)))) (eV 7)))
   (zI (yY 3 (eIx (zF 3 pR (zY (eV 0) (zY (eV 3) (zY (eV 7) zS)))) (eC (.int 1))))
   (yY 5 (jC (eV 5) (eC (.int 2)))))))
theorem zVS (x:Int){k:Nat}(hk:k<=100):zWc x (2^k)=true:=by
 unfold zWc
 have h0:(0:Int) < 2^k:=Ij (by decide)
 have h1:((2:Int)^k).natAbs=2^k:=by rw[Int.natAbs_pow];rfl
 have h2:((2:Int)^k).natAbs.log2 < 9000:=by
   rw[h1,Nat.log2_two_pow];omega
 rw[Qg h0,Qg h2]
 rfl
theorem zYv (x1 x3 x4 x6 x7:B)(x0:B){k:Nat}(hk:k<=100)(xs:List Int)(hl:xs.length<=100):yA (eL (yO (iT (eV 2)) 1 [5] (gN 0) tOK (xJ (jC (eV 0) (eV 1)) (eC (.int 2))))) [x0,x1,.fz (zQ xs),x3,x4,.fz (.int (2^k)),x6,x7]=some (zQ (xs.map fun x=>x / 2^k % 2)):=by
 have hc:=fun x=>zVS x hk
 generalize(2:Int)^k=h at hc
 have e3:yO (iT (eV 2)) 1 [5] (gN 0) tOK (xJ (jC (eV 0) (eV 1)) (eC (.int 2))) [x0,x1,.fz (zQ xs),x3,x4,.fz (.int h),x6,x7]=some ((xs.map D.int).map fun d=>match d with | .int x=>.int (x / h % 2) | d=>d):=by
   show(okL (xs.map D.int)).bind (fun ds=>uE (gN 0) tOK _ ds [.no,.fz (.int h)] [])=_
   rw[lB (by rw[Qo];omega),Qe]
   rw[kJ (h:=fun d=>match d with | .int x=>.int (x / h % 2) | d=>d)]
   · rfl
   · intro d hd
     obtain⟨a,ha,rfl⟩:=Wc.mp hd
     exact yH (yH rfl rfl (hc a)) rfl rfl
 unfold yA
 rw[kD e3,Qe,Tj]
 unfold zQ
 rw[Tj]
 rfl
section
variable {n:Nat} (hn:n=2∨n=3) {ps:List Pt} (ok:PtsOk n ps) (j:Bool)
include hn ok
theorem zYK (x1:B):∀(ds:List Nat) (t:Tn) (b:Bool) (g:Nat->Int) (acc:Nat) (h:Int) (fuel:Nat) (x6 x7:B),t∈yZ n->(∀d∈ds,d < ps.length)->ds.length < fuel->ds.length<=60->h=(match ds.length with | 0=>0 | m+1=>2^m) ->
   (∀i,i < n->g i % 2^ds.length=cW ps i t b 0 ds) ->
   ∃y3 y5 y6 y7,uC (eB2 gGt (eV 5) (eC (.int 0))) zZ4 fuel [.fz (zB n j ps),x1,.fz (zQ ((List.range n).map g)),.fz (stD t b),.fz (.int (acc:Nat)),.fz (.int h),x6,x7] =
     some (.nx [.fz (zB n j ps),x1,.fz (zQ ((List.range n).map g)),y3,.fz (.int ((ds.foldl (fun s d=>s*ps.length+d) acc:Nat):Nat)),y5,y6,y7])
 | [],t,b,g,acc,h,0,x6,x7,_,_,hf,_,_,_=>by cases hf
 | [],t,b,g,acc,h,fuel+1,x6,x7,_,_,_,_,hh,_=>by
   subst hh
   exact⟨.fz (stD t b),.fz (.int 0),x6,x7,rfl⟩
 | d::r,t,b,g,acc,h,0,x6,x7,_,_,hf,_,_,_=>by cases hf
 | d::r,t,b,g,acc,h,fuel+1,x6,x7,ht,hd,hf,hl,hh,hg=>by
   rw[Qa] at hf hl hh
   have hk:=hd d Qj
   have hr:∀x∈r,x < ps.length:=fun x hx=>hd x (Qd _ hx)
   have hs:=ok.small hn
   have ht':=zSP hn ok ht (b:=b) hk
   -- coordinates
   have hco:∀i,i < n->g i / 2^r.length % 2=(zM t (xV ps b d).c).getD i 0/\g i % 2^r.length=cW ps i (yS t (xV ps b d).t) (b != (xV ps b d).b) 0 r:=fun i hi=>by
     have h1:=hg i hi
     have h2:=jJ hn ok i r _ (b != (xV ps b d).b) ht' hr
     have hb:=iA hn (nZ hn t ht _ (zUt hn ok (b:=b) hk)) i
     unfold cW at h1
     rw[eO,Qa,Tq] at h1
     have hp:(0:Int) < 2^r.length:=Ij (by decide)
     generalize(zM t (xV ps b d).c).getD i 0=e at hb h1
     generalize cW ps i _ _ 0 r=y at h1 h2
     generalize(2:Int)^r.length=p at h1 h2 hp
     have hdm:=Int.emod_add_mul_ediv (g i) (p*2)
     generalize hq:g i / (p*2)=q at hdm
     rw[h1] at hdm
     have hx:g i=y+p*(e+2*q):=by
       rw[←hdm,Int.mul_add,Ya p e,←Up,Int.mul_zero,Int.zero_add]
       omega
     have hdiv:g i / p=e+2*q:=by
       rw[hx,Int.add_mul_ediv_left _ _ (by omega),Int.ediv_eq_zero_of_lt h2.1 h2.2,Int.zero_add]
     refine⟨by rw[hdiv];omega,?_⟩
     rw[hx,Int.add_mul_emod_self_left]
     exact Int.emod_eq_of_lt h2.1 h2.2
   have hcorner:((List.range n).map g).map (fun x=>x / 2^r.length % 2)=zM t (xV ps b d).c:=by
     have hcl:(zM t (xV ps b d).c).length=n:=vX hn _ (nZ hn t ht _ (zUt hn ok (b:=b) hk))
     refine Rv (by simp[hcl]) fun i h1 h2=>?_
     have hi:i < n:=by simpa using h1
     rw[Ir,Ir,List.getElem_range,(hco i hi).1,Wu,Qu h2]
     rfl
   have e1:=zYv x1 (.fz (stD t b)) (.fz (.int (acc:Nat))) x6 x7 (.fz (zB n j ps)) (k:=r.length) (by omega) ((List.range n).map g) (by rw[Qo,Uj];omega)
   rw[hcorner] at e1
   have e2:=zUa hn ok ht b j hk
   rw[jX hk] at e2
   have e3:=zWe hn ok ht b j hk
   rw[jX hk] at e3
   obtain⟨y3,y5,y6,y7,ih⟩:=zYK x1 r (yS t (xV ps b d).t) (b != (xV ps b d).b) g (acc*ps.length+d) (h / 2) fuel (.fz (zQ (zM t (xV ps b d).c))) (.fz (.int (d:Nat))) ht' hr (by omega) (by omega) (by
     rw[hh]
     show(2:Int)^r.length / 2=_
     cases hz:r.length with
     | zero=>rfl
     | succ m=>show(2:Int)^(m+1) / 2=2^m;rw[Tq];omega) fun i hi=>(hco i hi).2
   refine⟨y3,y5,y6,y7,?_⟩
   have hh':h=2^r.length:=hh
   subst hh'
   have hp:(0:Int) < 2^r.length:=Ij (by decide)
   have tt:eB2 gGt (eV 5) (eC (.int 0)) [.fz (zB n j ps),x1,.fz (zQ ((List.range n).map g)),.fz (stD t b),.fz (.int (acc:Nat)),.fz (.int (2^r.length)),x6,x7]=some true:=by
     show some (decide ((0:Int) < 2^r.length))=_
     rw[Qg hp]
   rw[uC,tt,Qe,Qc rfl]
   have hbody:zZ4 [.fz (zB n j ps),x1,.fz (zQ ((List.range n).map g)),.fz (stD t b),.fz (.int (acc:Nat)),.fz (.int (2^r.length)),x6,x7]=some (.nx [.fz (zB n j ps),x1,.fz (zQ ((List.range n).map g)),.fz (stD (yS t (xV ps b d).t) (b != (xV ps b d).b)),.fz (.int ((acc*ps.length+d:Nat):Nat)),.fz (.int (2^r.length / 2)),.fz (zQ (zM t (xV ps b d).c)),.fz (.int (d:Nat))]):=by
     unfold zZ4
     rw[vN e1]
     dsimp only[List.set]
     rw[vN (d:=.int (d:Nat)) ((pO rfl rfl rfl).trans e2)]
     dsimp only[List.set]
     rw[vN (d:=.int ((acc*ps.length+d:Nat):Nat)) (by
       rw[Int.natCast_add,Uq]
       exact yH (yH rfl (aQ rfl) (zXo (by omega) (by omega))) rfl rfl)]
     dsimp only[List.set]
     rw[vN (d:=stD (yS t (xV ps b d).t) (b != (xV ps b d).b)) (by
       unfold eIx
       rw[pO rfl rfl rfl,e3]
       rfl)]
     dsimp only[List.set]
     unfold yY
     rw[show jC (eV 5) (eC (.int 2)) _=some (.int (2^r.length / 2)) from yH rfl rfl (by rfl)]
     rfl
   rw[hbody,Qe]
   exact ih
end
theorem zRl {x y z:D}(h:wT [x,y,z]=some (.bl true)):qY [x,y,z]=some .non:=by
 show(qE [.fz x,.fz y,.fz z]).bind vQ=_
 unfold qE sIf
 rw[zSe ((pO rfl rfl rfl).trans h)]
 rfl
section
variable {n:Nat} (hn:n=2∨n=3) {ps:List Pt} (ok:PtsOk n ps) (j:Bool) {L a:Nat} (hL:L<=60) (ha:a < ps.length^L)
include hn ok hL
theorem zQG:mZ [.int (n:Nat)]=some (stD (yL n) false):=by rcases hn with rfl | rfl<;>kernel_rfl
theorem zZW:mV [.lst (ps.map zL),.int (n:Nat),.int (L:Nat),.int (a:Nat)]=some (zQ (plW ps n (yL n) false (fun _=>0) (xN ps.length a L).reverse)):=by
 have hB:0 < ps.length:=by rw[ok.len];exact Ro (by decide)
 have hs:=ok.small hn
 have e0:=zQG hn ok hL
 obtain⟨y7,e1⟩:=fA hB hs (.fz (.int (n:Nat))) (.fz (.int (L:Nat))) (.fz (stD (yL n) false)) (.fz (.lst (((List.range n).map fun _=>(0:Int)).map .int))) (rO 0 L) [] a .no .no .no (by rw[tP];simp;omega)
 rw[tP,Ev] at e1
 obtain⟨z4,z8,z9,e2⟩:=zYC hn ok (.fz (.int (L:Nat))) (.fz (.int ((a / ps.length^L:Nat):Nat))) (.fz (.lst ((xN ps.length a L).map fun d=>.int (d:Nat)))) y7 (xN ps.length a L).reverse (yL n) false (fun _=>0) .no .no (sK hn) (fun d hd=>jK hB L a d (Rn.mp hd))
 show(tZ [.fz (.lst (ps.map zL)),.fz (.int (n:Nat)),.fz (.int (L:Nat)),.fz (.int (a:Nat)),.no,.no,.no,.no,.no,.no]).bind vQ=_
 unfold tZ
 refine vS ((bW rfl).trans e0) ?_
 unfold qW
 refine vS (d:=.lst (((List.range n).map fun _=>(0:Int)).map .int)) (by rcases hn with rfl | rfl<;>kernel_rfl) ?_
 unfold qP
 refine xY (ρ':=[.fz (.lst (ps.map zL)),.fz (.int (n:Nat)),.fz (.int (L:Nat)),.fz (.int (a:Nat)),.fz (stD (yL n) false),.fz (.lst (((List.range n).map fun _=>(0:Int)).map .int)),.ow [],.no,.no,.no]) rfl ?_
 unfold pV
 refine xY (ρ':=[.fz (.lst (ps.map zL)),.fz (.int (n:Nat)),.fz (.int (L:Nat)),.fz (.int ((a / ps.length^L:Nat):Nat)),.fz (stD (yL n) false),.fz (.lst (((List.range n).map fun _=>(0:Int)).map .int)),.ow ((xN ps.length a L).map fun d=>.int (d:Nat)),y7,.no,.no]) ?_ ?_
 · unfold vU
   rw[zUU hB hs (L:=L) rfl (by omega),Qe]
   exact e1
 unfold pW
 refine xY (ρ':=[.fz (.lst (ps.map zL)),.fz (.int (n:Nat)),.fz (.int (L:Nat)),.fz (.int ((a / ps.length^L:Nat):Nat)),z4,.fz (.lst ((plW ps n (yL n) false (fun _=>0) (xN ps.length a L).reverse).map .int)),.fz (.lst ((xN ps.length a L).map fun d=>.int (d:Nat))),y7,z8,z9]) ?_ rfl
 show vU (nD (iL (eV 6))) (gN 8) w8 [.fz (.lst (ps.map zL)),.fz (.int (n:Nat)),.fz (.int (L:Nat)),.fz (.int ((a / ps.length^L:Nat):Nat)),.fz (stD (yL n) false),.fz (.lst (((List.range n).map fun _=>(0:Int)).map .int)),.fz (.lst ((xN ps.length a L).map fun d=>.int (d:Nat))),y7,.no,.no]=_
 unfold vU
 have src:nD (iL (eV 6)) [.fz (.lst (ps.map zL)),.fz (.int (n:Nat)),.fz (.int (L:Nat)),.fz (.int ((a / ps.length^L:Nat):Nat)),.fz (stD (yL n) false),.fz (.lst (((List.range n).map fun _=>(0:Int)).map .int)),.fz (.lst ((xN ps.length a L).map fun d=>.int (d:Nat))),y7,.no,.no]=some ((xN ps.length a L).reverse.map fun d=>.int (d:Nat)):=by
   rw[Yc];rfl
 rw[src,Qe]
 exact e2
include ha
theorem zYE:vG [zB n j ps,.int (L:Nat),.int (a:Nat)]=some (zQ (plW ps n (yL n) false (fun _=>0) (xN ps.length a L).reverse)):=by
 have hB:0 < ps.length:=by rw[ok.len];exact Ro (by decide)
 have hs:=ok.small hn
 have hf:=gI n L (by omega) (by omega)
 have hlt:(a:Int) < 2^(n*L):=by
   have h1:ps.length^L=2^(n*L):=by rw[ok.len,←Nat.pow_mul]
   rw[h1] at ha
   have h2:((2^(n*L):Nat):Int)=2^(n*L):=by rw[Int.natCast_pow];rfl
   rw[←h2]
   exact Int.ofNat_lt.mpr ha
 obtain⟨y3,y5,y6,e2⟩:=dN hn ok j (.fz (.int (L:Nat))) (.fz (.int (a:Nat))) (xN ps.length a L).reverse (yL n) false (fun _=>0) .no .no (sK hn) (fun d hd=>jK hB L a d (Rn.mp hd))
 have e1:=zV1 hB hs a L (by omega)
 show(sS [.fz (zB n j ps),.fz (.int (L:Nat)),.fz (.int (a:Nat)),.no,.no,.no,.no]).bind vQ=_
 unfold sS
 refine zSf ?_ ?_
 · unfold qZ eB3
   rw[uS (pQ (n:=n) (j:=j) (ps:=ps) rfl) rfl,hf]
   generalize(2:Int)^(n*L)=S at hlt
   simp[eC,eV,sQ,gLe,gLt,hlt]
 unfold oV
 refine vS ((bW (pQ (n:=n) (j:=j) (ps:=ps) rfl)).trans (zYU hn)) ?_
 unfold pH
 refine vS (d:=zQ ((List.range n).map fun _=>(0:Int))) (by
   unfold zWd
   rw[pQ (n:=n) (j:=j) (ps:=ps) rfl]
   rcases hn with rfl | rfl<;>kernel_rfl) ?_
 unfold pB
 refine xY (ρ':=[.fz (zB n j ps),.fz (.int (L:Nat)),.fz (.int (a:Nat)),y3,.fz (zQ (plW ps n (yL n) false (fun _=>0) (xN ps.length a L).reverse)),y5,y6]) ?_ rfl
 unfold vU
 rw[zQD rfl (aQ (n:=n) (j:=j) (ps:=ps) rfl) rfl,e1,Qe]
 exact e2
theorem zVb:vF [zB n j ps,.int (L:Nat),zQ (plW ps n (yL n) false (fun _=>0) (xN ps.length a L).reverse)]=some (.int (a:Nat)):=by
 have hB:0 < ps.length:=by rw[ok.len];exact Ro (by decide)
 have hs:=ok.small hn
 have hf:=gI 1 L (by omega) (by omega)
 rw[Yz] at hf
 have hlen:(xN ps.length a L).reverse.length=L:=by rw[Ee,dX]
 have hds:∀d∈(xN ps.length a L).reverse,d < ps.length:=fun d hd=>jK hB L a d (Rn.mp hd)
 have hbd:∀i,0<=cW ps i (yL n) false 0 (xN ps.length a L).reverse/\cW ps i (yL n) false 0 (xN ps.length a L).reverse < 2^L:=fun i=>by
   have:=jJ hn ok i (xN ps.length a L).reverse (yL n) false (sK hn) hds
   rwa[hlen] at this
 have hhas:=zRY (n:=n) (L:=L) hn (by omega) (plW ps n (yL n) false (fun _=>0) (xN ps.length a L).reverse) (by simp[plW]) (fun x hx=>by
   unfold plW at hx
   obtain⟨i,_,rfl⟩:=Wc.mp hx
   exact hbd i)
 obtain⟨y3,y5,y6,y7,e2⟩:=zYK hn ok j (.fz (.int (L:Nat))) (xN ps.length a L).reverse (yL n) false (fun i=>cW ps i (yL n) false 0 (xN ps.length a L).reverse) 0 (2^L / 2) 100 .no .no (sK hn) hds (by rw[hlen];omega) (by rw[hlen];exact hL) (by
     rw[hlen]
     cases L with
     | zero=>rfl
     | succ m=>show(2:Int)^(m+1) / 2=2^m;rw[Tq];omega) (fun i _=>by rw[hlen];exact Int.emod_eq_of_lt (hbd i).1 (hbd i).2)
 rw[zYA hB L a 0 ha,Nat.zero_mul,Nat.zero_add] at e2
 show(tX [.fz (zB n j ps),.fz (.int (L:Nat)),.fz (zQ (plW ps n (yL n) false (fun _=>0) (xN ps.length a L).reverse)),.no,.no,.no,.no,.no]).bind vQ=_
 unfold tX
 refine xY (ρ':=[.fz (zB n j ps),.fz (.int (L:Nat)),.fz (zQ (plW ps n (yL n) false (fun _=>0) (xN ps.length a L).reverse)),.no,.no,.no,.no,.no]) (by
   unfold zWu
   rw[pO (pQ (n:=n) (j:=j) (ps:=ps) rfl) rfl rfl,show qY [.int (n:Nat),.int (L:Nat),zQ (plW ps n (yL n) false (fun _=>0) (xN ps.length a L).reverse)]=some .non from zRl hhas]
   rfl) ?_
 unfold qL
 refine vS ((bW (pQ (n:=n) (j:=j) (ps:=ps) rfl)).trans (zYU hn)) ?_
 unfold qV
 refine vS (d:=.int 0) rfl ?_
 unfold qD
 refine vS (d:=.int (2^L / 2)) (yH ((uS rfl rfl).trans hf) rfl (by rfl)) ?_
 unfold qH
 exact xY (g:=lF) e2 rfl
end
theorem zTE (q:Int)(h:0<=q):∃L:Nat,L<=60/\nE [.int q]=some (.int (L:Nat)):=by
 have t:eB2 gEq (xJ (eV 0) (eC (.int 6))) (eC (.int 0)) [.fz (.int q)]=some (decide (q % 6=0)):=sA (yH rfl rfl rfl)
 show ∃L:Nat,L<=60/\(tQ [.fz (.int q)]).bind vQ=some (.int (L:Nat))
 unfold tQ
 by_cases hq:q % 6=0
 · refine⟨(q / 6 % 61).toNat,by omega,?_⟩
   rw[show((q / 6 % 61).toNat:Int)=q / 6 % 61 by omega]
   rw[zZX (d:=.int (q / 6 % 61)) ((uT t).trans (by rw[Qg hq,Qc rfl];unfold xQ;rw[show xJ (vD (eV 0) (eC (.int 6))) (eC (.int 61)) [.fz (.int q)]=some (.int (q / 6 % 61)) from yH (yH rfl rfl rfl) rfl rfl];rfl))]
   rfl
 · refine⟨(q / 6 % 13).toNat,by omega,?_⟩
   rw[show((q / 6 % 13).toNat:Int)=q / 6 % 13 by omega]
   rw[yU (ρ':=[.fz (.int q)]) ((uT t).trans (by rw[Wr hq];rfl))]
   unfold lM xQ
   rw[show xJ (vD (eV 0) (eC (.int 6))) (eC (.int 13)) [.fz (.int q)]=some (.int (q / 6 % 13)) from yH (yH rfl rfl rfl) rfl rfl]
   rfl
theorem zXX {x:Int}{m:Nat}(h:x.natAbs < 2^m)(hm:m<=2097152):Builtin.Int.intBits x<=2097152:=Wh (PyProof.Rows.intBits_le h) hm
theorem bL {n:Nat}(hn:n=2∨n=3)(x0 x2:B):∀(its:List D) (p:Nat) (x4 x5:B),p*(2^n)^its.length<=2^200->0 < p ->
   ∃y4,tM (gN 4) vI its [x0,.fz (.int (n:Nat)),x2,.fz (.int (p:Nat)),x4,x5]=some (.nx [x0,.fz (.int (n:Nat)),x2,.fz (.int ((p*(2^n)^its.length:Nat):Nat)),y4,x5])
 | [],p,x4,x5,_,_=>⟨x4,by simp[tM]⟩
 | d::r,p,x4,x5,hp,h0=>by
   have hp':p*2^n*(2^n)^r.length<=2^200:=by
     rw[Qa,Tk,Rf ((2^n)^r.length) (2^n),←Ua] at hp
     exact hp
   obtain⟨y4,ih⟩:=bL hn x0 x2 r (p*2^n) (.fz d) x5 hp' (Nat.mul_pos h0 (Ro (by decide)))
   refine⟨y4,?_⟩
   have hple:p<=2^200:=by
     have h1:p*1<=p*2^n*(2^n)^r.length:=by
       rw[Ua]
       exact Nat.mul_le_mul_left p (Nat.mul_pos (Ro (by decide)) (Ro (Ro (by decide))))
     omega
   have hb:Builtin.Int.intBits (p:Int)<=2097152:=zXX (m:=201) (by
     rw[Int.natAbs_natCast]
     exact Yo hple (Nat.pow_lt_pow_right (by decide) (by decide))) (by decide)
   rw[wZ (ρ1:=[x0,.fz (.int (n:Nat)),x2,.fz (.int (p:Nat)),.fz d,x5]) (ρ2:=[x0,.fz (.int (n:Nat)),x2,.fz (.int ((p*2^n:Nat):Nat)),.fz d,x5]) rfl ?_,ih]
   · rw[Qa,Tk,Rf ((2^n)^r.length) (2^n),←Ua]
   · unfold vI yY
     have hf:eIx (eL (yE (zY (eC (.int 4)) (zY (eC (.int 8)) zS)))) (mD (eV 1) (eC (.int 2))) [x0,.fz (.int (n:Nat)),x2,.fz (.int (p:Nat)),.fz d,x5]=some (.int ((2^n:Nat):Nat)):=by
       rcases hn with rfl | rfl<;>kernel_rfl
     have hb2:Builtin.Int.intBits ((2^n:Nat):Int)<=2097152:=by rcases hn with rfl | rfl<;>decide
     rw[show bR (eV 3) (eIx (eL (yE (zY (eC (.int 4)) (zY (eC (.int 8)) zS)))) (mD (eV 1) (eC (.int 2)))) [x0,.fz (.int (n:Nat)),x2,.fz (.int (p:Nat)),.fz d,x5]=some (.int ((p*2^n:Nat):Nat)) from by
       rw[Uq]
       refine yH rfl hf ?_
       unfold zWK
       rw[Qg hb,Qg hb2];rfl]
     rfl
theorem zZj {n L:Nat}(hn:n=2∨n=3)(hL:L<=60)(c:Int)(hc:Builtin.Int.intBits c<=1048576):∃a:Nat,a < (2^n)^L/\oW [.int c,.int (n:Nat),.int (L:Nat)]=some (.int (a:Nat)):=by
 have hle:(2^n)^L<=2^200:=by
   rw[←Nat.pow_mul]
   exact Nat.pow_le_pow_right (by decide) (Wh (Uy (show n<=3 by omega) hL) (by decide))
 obtain⟨y4,e⟩:=bL hn (.fz (.int c)) (.fz (.int (L:Nat))) (rO 0 L) 1 .no .no (by rw[tP,Yz];exact hle) (by decide)
 rw[tP,Yz] at e
 have hpos:0 < (2^n)^L:=Ro (Ro (by decide))
 generalize(2^n)^L=M at e hpos hle
 have hk:Builtin.Int.intBits ((7046029254386353131:Int)^(3:Int).toNat)<=2097152:=by decide +kernel
 have hmul:bR (eV 0) (zS5 (eC (.int 7046029254386353131)) (eC (.int 3))) [.fz (.int c),.fz (.int (n:Nat)),.fz (.int (L:Nat)),.fz (.int (M:Nat)),y4,.no]=some (.int (c*(7046029254386353131:Int)^(3:Int).toNat)):=by
   refine yH (g:=fun i j=>i*j) rfl (yH (C:=zTd) (g:=fun i j=>i^j.toNat) (i:=7046029254386353131) (j:=3) rfl rfl (by decide)) ?_
   unfold zWK
   rw[Qg (Wh hc (by decide)),Qg hk]
   rfl
 generalize(7046029254386353131:Int)^(3:Int).toNat=K at hmul
 have hbig:xJ (bR (eV 0) (zS5 (eC (.int 7046029254386353131)) (eC (.int 3)))) (eV 3) [.fz (.int c),.fz (.int (n:Nat)),.fz (.int (L:Nat)),.fz (.int (M:Nat)),y4,.no]=some (.int (c*K % (M:Nat))):=yH hmul rfl (Qg (by omega))
 have h0:=Ue (c*K) (show(M:Int)≠0 by omega)
 have h1:=Yp (c*K) (show(0:Int) < M by omega)
 generalize c*K % (M:Nat)=z at hbig h0 h1
 show ∃a:Nat,a < M/\(w9 [.fz (.int c),.fz (.int (n:Nat)),.fz (.int (L:Nat)),.no,.no,.no]).bind vQ=some (.int (a:Nat))
 have go:∀r,(wW [.fz (.int c),.fz (.int (n:Nat)),.fz (.int (L:Nat)),.fz (.int (M:Nat)),y4,.fz (.int z)]).bind vQ=r->(w9 [.fz (.int c),.fz (.int (n:Nat)),.fz (.int (L:Nat)),.no,.no,.no]).bind vQ=r:=fun r h=>by
   unfold w9
   refine vS (d:=.int 1) rfl ?_
   unfold sD
   refine xY (ρ':=[.fz (.int c),.fz (.int (n:Nat)),.fz (.int (L:Nat)),.fz (.int (M:Nat)),y4,.no]) ?_ ?_
   · show vU (iR (eV 2)) (gN 4) vI [.fz (.int c),.fz (.int (n:Nat)),.fz (.int (L:Nat)),.fz (.int ((1:Nat):Nat)),.no,.no]=_
     unfold vU
     have hir:iR (eV 2) [.fz (.int c),.fz (.int (n:Nat)),.fz (.int (L:Nat)),.fz (.int ((1:Nat):Nat)),.no,.no]=some (rO 0 L):=by
       show(if decide (-1000000<=(L:Int))&&decide ((L:Int)<=1000000) then some (rO 0 (L:Int).toNat) else none)=_
       rw[Qg (by omega),Qg (by omega),Wb]
       rfl
     rw[hir,Qe]
     exact e
   unfold rY
   exact vS (d:=.int z) hbig h
 have t0:eB2 gEq (xJ (eV 0) (eC (.int 5))) (eC (.int 0)) [.fz (.int c),.fz (.int (n:Nat)),.fz (.int (L:Nat)),.fz (.int (M:Nat)),y4,.fz (.int z)]=some (decide (c % 5=0)):=sA (yH rfl rfl rfl)
 have t1:eB2 gEq (xJ (eV 0) (eC (.int 5))) (eC (.int 1)) [.fz (.int c),.fz (.int (n:Nat)),.fz (.int (L:Nat)),.fz (.int (M:Nat)),y4,.fz (.int z)]=some (decide (c % 5=1)):=sA (yH rfl rfl rfl)
 by_cases q0:c % 5=0
 · refine⟨0,hpos,go _ ?_⟩
   unfold wW
   rw[zZX (d:=.int 0) ((uT t0).trans (by rw[Qg q0];rfl))]
   rfl
 · by_cases q1:c % 5=1
   · refine⟨M - 1,by omega,go _ ?_⟩
     unfold wW
     rw[yU ((uT t0).trans (by rw[Wr q0];rfl))]
     unfold uL
     rw[zZX (d:=.int ((M:Nat) - 1)) ((uT t1).trans (by rw[Qg q1];rfl))]
     rw[show((M - 1:Nat):Int)=(M:Int) - 1 by omega]
     rfl
   · refine⟨z.toNat,by omega,go _ ?_⟩
     unfold wW
     rw[yU ((uT t0).trans (by rw[Wr q0];rfl))]
     unfold uL
     rw[yU ((uT t1).trans (by rw[Wr q1];rfl))]
     rw[show(z.toNat:Int)=z by omega]
     rfl
def aI (i:Int):Int:=if i < 0 then -i else i
def dst (xs ys:List Int):Int:=(List.zipWith (fun a b=>aI (a - b)) xs ys).sum
theorem zYd:∀xs:List Int,dst xs xs=0
 | []=>rfl
 | x::xs=>by
   have:=zYd xs
   unfold dst at this ⊢
   rw[List.zipWith_cons_cons,List.sum_cons,this,Int.sub_self]
   rfl
theorem zWG {n:Nat}(hn:n=2∨n=3):∀xs ys:List Int,xs.length=n->ys.length=n->pP [zQ xs,zQ ys]=some (.bl (decide (dst xs ys=1))):=by
 rcases hn with rfl | rfl
 · intro xs ys hx hy
   match xs,ys,hx,hy with
   | [a,b],[c,d],_,_=>kernel_rfl
 · intro xs ys hx hy
   match xs,ys,hx,hy with
   | [a,b,e],[c,d,f],_,_=>kernel_rfl
theorem zZv:∀xs ys:List Int,xs.length=ys.length->kM (eqD 7) (xs.map .int) (ys.map .int)=some (xs==ys)
 | [],[],_=>rfl
 | [],_::_,h=>by cases h
 | _::_,[],h=>by cases h
 | x::xs,y::ys,h=>by
   show((eqD 7 (.int x) (.int y)).bind fun a=>(kM (eqD 7) (xs.map .int) (ys.map .int)).map fun b=>a&&b)=_
   rw[zZv xs ys (by simpa using h)]
   rfl
theorem zRS {xs ys:List Int}(h:xs.length=ys.length):eqD 8 (zQ xs) (zQ ys)=some (xs==ys):=by
 show(kM (eqD 7) (xs.map .int) (ys.map .int)).map (fun b=>b&&(xs.map D.int).length==(ys.map D.int).length)=_
 rw[zZv xs ys h,Wq,Qo,Qo,h]
 simp
theorem dL:∀xs:List Int,sT (xs.map .int)=true
 | []=>rfl
 | x::xs=>by show(true&&sT (xs.map .int))=true;rw[dL xs];rfl
theorem aX:∀l:List (List Int),sT (l.map zQ)=true
 | []=>rfl
 | x::l=>by show(sT (x.map .int)&&sT (l.map zQ))=true;rw[dL,aX l];rfl
theorem zWE {n:Nat}{c:List Int}(hc:c.length=n):∀l:List (List Int),(∀x∈l,x.length=n)->zZM (zQ c) (l.map zQ)=some (l.any fun x=>x==c)
 | [],_=>rfl
 | x::l,h=>by
   show((eqD 8 (zQ x) (zQ c)).bind fun a=>(zZM (zQ c) (l.map zQ)).map fun b=>a||b)=_
   rw[zRS (by rw[hc];exact h x Qj),zWE hc l fun y hy=>h y (Qd _ hy)]
   rfl
theorem zQH {n:Nat}{c:List Int}(hc:c.length=n)(l:List (List Int))(h:∀x∈l,x.length=n):zVW (zQ c) (.lst (l.map zQ))=some (l.any fun x=>x==c):=by
 show(if sT (l.map zQ) then zZM (zQ c) (l.map zQ) else none)=_
 rw[Qc (aX l),zWE hc l h]
theorem zTl {n L:Nat}(hn:n=2∨n=3)(hL:L<=100)(xs:List Int)(hl:xs.length=n):wT [.int (n:Nat),.int (L:Nat),.tup (xs.map D.int)]=some (.bl (xs.all fun x=>decide (0<=x)&&decide (x < (2:Int)^L))):=by
 have hf:=gI 1 L (by decide) hL
 rw[Yz] at hf
 generalize(2:Int)^L=S at hf ⊢
 show(wI [.fz (.int (n:Nat)),.fz (.int (L:Nat)),.fz (.tup (xs.map D.int)),.no]).bind vQ=_
 unfold wI
 refine vS (d:=.int S) ((uS rfl rfl).trans hf) ?_
 unfold qT xQ
 have e1:wF (eB2 gEq (vZ (eV 2)) (eV 0)) [.fz (.int (n:Nat)),.fz (.int (L:Nat)),.fz (.tup (xs.map D.int)),.fz (.int S)]=some (.bl true):=by
   show(gEq (.int ((xs.map D.int).length:Nat)) (.int (n:Nat))).map D.bl=_
   rw[Qo,hl]
   show(some (decide ((n:Int)=n))).map D.bl=_
   rw[Qg rfl];rfl
 have e2:zXi (eL (yO (iT (eV 2)) 1 [3] (gN 0) tOK (wF (eB3 gLe gLt (eC (.int 0)) (eV 0) (eV 1))))) [.fz (.int (n:Nat)),.fz (.int (L:Nat)),.fz (.tup (xs.map D.int)),.fz (.int S)]=some (.bl (xs.all fun x=>decide (0<=x)&&decide (x < S))):=by
   have e3:yO (iT (eV 2)) 1 [3] (gN 0) tOK (wF (eB3 gLe gLt (eC (.int 0)) (eV 0) (eV 1))) [.fz (.int (n:Nat)),.fz (.int (L:Nat)),.fz (.tup (xs.map D.int)),.fz (.int S)]=some ((xs.map D.int).map fun d=>match d with | .int x=>.bl (decide (0<=x)&&decide (x < S)) | _=>.bl true):=by
     show(okL (xs.map D.int)).bind (fun ds=>uE (gN 0) tOK _ ds [.no,.fz (.int S)] [])=_
     rw[lB (by rw[Qo];omega),Qe]
     rw[kJ (h:=fun d=>match d with | .int x=>.bl (decide (0<=x)&&decide (x < S)) | _=>.bl true)]
     · rfl
     · intro d hd
       obtain⟨a,ha,rfl⟩:=Wc.mp hd
       by_cases h1:0<=a
       · simp[wF,eB3,gLe,gLt,eC,eV,sQ,h1]
       · simp[wF,eB3,gLe,gLt,eC,eV,sQ,h1]
   unfold zXi
   rw[kD e3,Qe,Tj]
   show(zYD (xs.map fun x=>.bl (decide (0<=x)&&decide (x < S)))).map _=_
   rw[gB (fun x=>decide (0<=x)&&decide (x < S))]
   simp
 unfold zWH tB1
 dsimp only[List.set]
 rw[e1,e2]
 rfl
theorem zXT:((yZ 2).all fun t=>(zD 2).all fun c=>(zD 2).any fun d=>decide (zM t d=c))=true:=by decide +kernel
theorem zXM:((yZ 3).all fun t=>(zD 3).all fun c=>(zD 3).any fun d=>decide (zM t d=c))=true:=by decide +kernel
theorem zVA {n:Nat}(hn:n=2∨n=3){t:Tn}(ht:t∈yZ n){c:List Int}(hc:c∈zD n):∃d∈zD n,zM t d=c:=by
 have h:((zD n).any fun d=>decide (zM t d=c))=true:=by
   rcases hn with rfl | rfl
   · exact Ww.mp (Ww.mp zXT t ht) c hc
   · exact Ww.mp (Ww.mp zXM t ht) c hc
 obtain⟨d,h1,h2⟩:=List.any_eq_true.mp h
 exact⟨d,h1,of_decide_eq_true h2⟩
theorem zXr {n:Nat}(hn:n=2∨n=3)(e:Nat->Int)(he:∀i < n,e i=0∨e i=1):(List.range n).map e∈zD n:=by
 rcases hn with rfl | rfl
 · show [e 0,e 1]∈zD 2
   rcases he 0 (by decide) with h0 | h0<;>rcases he 1 (by decide) with h1 | h1<;>rw[h0,h1]<;>decide +kernel
 · show [e 0,e 1,e 2]∈zD 3
   rcases he 0 (by decide) with h0 | h0<;>rcases he 1 (by decide) with h1 | h1<;>rcases he 2 (by decide) with h2 | h2<;>rw[h0,h1,h2]<;>decide +kernel
theorem zY3 {B:Nat}(hB:0 < B):∀es:List Nat,(∀e∈es,e < B)->∃a,a < B^es.length/\xN B a es.length=es
 | [],_=>⟨0,by simp,rfl⟩
 | e::r,h=>by
   obtain⟨a,h1,h2⟩:=zY3 hB r fun x hx=>h x (Qd _ hx)
   have he:=h e Qj
   refine⟨a*B+e,?_,?_⟩
   · rw[Qa,Tk]
     have:(a+1)*B<=B^r.length*B:=Nat.mul_le_mul_right B h1
     rw[Nat.add_mul,Yz] at this
     omega
   · rw[Qa,xN]
     have q1:(a*B+e) % B=e:=by rw[Ux,Nat.add_mul_mod_self_right];exact Nat.mod_eq_of_lt he
     have q2:(a*B+e) / B=a:=by rw[Ux,Nat.add_mul_div_right _ _ hB,Nat.div_eq_of_lt he,Nat.zero_add]
     rw[q1,q2,h2]
section
variable {n:Nat} (hn:n=2∨n=3) {ps:List Pt} (ok:PtsOk n ps)
include hn ok
theorem bN:∀(L:Nat) (t:Tn) (b:Bool) (y:Nat->Int),t∈yZ n->(∀i < n,0<=y i/\y i < 2^L)->∃ds:List Nat,ds.length=L/\(∀d∈ds,d < ps.length)/\∀i < n,cW ps i t b 0 ds=y i
 | 0,t,b,y,ht,hy=>⟨[],rfl,fun _ h=>absurd h (by simp),fun i hi=>by
     have:=hy i hi
     unfold cW
     simp at this
     omega⟩
 | L+1,t,b,y,ht,hy=>by
   have hp:(0:Int) < 2^L:=Ij (by decide)
   have he:∀i < n,y i / 2^L=0∨y i / 2^L=1:=fun i hi=>by
     have h:=hy i hi
     rw[Tq] at h
     have h1:0<=y i / 2^L:=Int.ediv_nonneg h.1 (Int.le_of_lt hp)
     have h2:y i / 2^L < 2:=Int.ediv_lt_of_lt_mul hp (by rw[Ya];exact h.2)
     omega
   obtain⟨c,hc,ec⟩:=zVA hn ht (zXr hn (fun i=>y i / 2^L) he)
   obtain⟨p,hpm,hpc⟩:=Wc.mp (ok.perm.mem_iff.mpr hc)
   obtain⟨k,hk,ek⟩:=List.getElem_of_mem hpm
   have hd:ixB b ps.length k < ps.length:=uD hk
   have hpt:xV ps b (ixB b ps.length k)=p:=by
     unfold xV
     rw[zWN hk,Wu,Qu hk,ek]
     rfl
   obtain⟨ds,h1,h2,h3⟩:=bN L (yS t p.t) (b != p.b) (fun i=>y i % 2^L) (rS hn ht (ok.turn p hpm)) fun i hi=>⟨Ue _ (Int.ne_of_gt hp),Yp _ hp⟩
   refine⟨ixB b ps.length k::ds,by rw[Qa,h1],fun d hd'=>?_,fun i hi=>?_⟩
   · rcases Qk.mp hd' with rfl | h
     · exact hd
     · exact h2 d h
   · have hg:((List.range n).map fun i=>y i / 2^L).getD i 0=y i / 2^L:=by
       rw[Wu,Wt,List.getElem?_range hi];rfl
     unfold cW
     rw[hpt,hpc,ec,eO,h3 i hi,h1,hg]
     have:=Int.emod_add_mul_ediv (y i) (2^L)
     rw[Ya] at this
     rw[Int.mul_zero,Int.zero_add]
     omega
theorem zXp (L:Nat)(y:Nat->Int)(hy:∀i < n,0<=y i/\y i < 2^L):∃a,a < ps.length^L/\plW ps n (yL n) false (fun _=>0) (xN ps.length a L).reverse=(List.range n).map y:=by
 have hpos:0 < ps.length:=by rw[ok.len];exact Ro (by decide)
 obtain⟨ds,h1,h2,h3⟩:=bN hn ok L (yL n) false y (sK hn) hy
 obtain⟨a,h4,h5⟩:=zY3 hpos ds.reverse fun e he=>h2 e (Rn.mp he)
 rw[Ee,h1] at h4 h5
 refine⟨a,h4,?_⟩
 rw[h5,List.reverse_reverse]
 unfold plW
 exact List.map_congr_left fun i hi=>h3 i (Rj.mp hi)
end
theorem dZ {α:Type}{t:Tf}{elt:Ef}{f:α->D}{p:α->Bool}{h:α->D}{rest:List B}:∀(cs:List α) (x0:B) (acc:List D),(∀c∈cs,t (.fz (f c)::rest)=some (p c)/\(p c=true->elt (.fz (f c)::rest)=some (h c)))->uE (gN 0) t elt (cs.map f) (x0::rest) acc=some (acc++(cs.filter p).map h)
 | [],x0,acc,_=>by simp[uE]
 | c::r,x0,acc,hh=>by
   obtain⟨h1,h2⟩:=hh c Qj
   have ih:=fun acc=>dZ (t:=t) (elt:=elt) (p:=p) (h:=h) (rest:=rest) r (.fz (f c)) acc fun d hd=>hh d (Qd _ hd)
   rw[Qb]
   unfold uE
   show(gN 0 (f c) (x0::rest)).bind _=_
   rw[show gN 0 (f c) (x0::rest)=some (.fz (f c)::rest) from rfl,Qe,h1,Qe]
   cases hp:p c with
   | true=>rw[Qc rfl,h2 hp,Qe,ih];simp[hp]
   | false=>rw[Wd (by decide),ih];simp[hp]
def arM:List Int->List (List Int)
 | [x,y]=>[[x + -1,y],[x+1,y],[x,y + -1],[x,y+1]]
 | [x,y,z]=>[[x + -1,y,z],[x+1,y,z],[x,y + -1,z],[x,y+1,z],[x,y,z + -1],[x,y,z+1]]
 | _=>[]
theorem zVP {n:Nat}(hn:n=2∨n=3)(xs:List Int)(hl:xs.length=n):sZ [zQ xs]=some ((arM xs).map zQ):=by
 rcases hn with rfl | rfl
 · match xs,hl with
   | [x,y],_=>kernel_rfl
 · match xs,hl with
   | [x,y,z],_=>kernel_rfl
def inS (S v:Int):Bool:=decide (0<=v)&&decide (v < S)
theorem zQj {fv:Ef}{ρ:List B}{v S:Int}(h1:fv ρ=some (.int v))(h2:eV 2 ρ=some (.int S)):eB3 gLe gLt (eC (.int 0)) fv (eV 2) ρ=some (inS S v):=by
 unfold eB3
 rw[h1,h2]
 by_cases h:0<=v<;>simp[eC,gLe,gLt,inS,h]
def wV (S v:Int)(c:List Int):List (List Int):=if inS S v then [c] else []
theorem bQ (x0 x1 x4 x5 x6 x7:B):∀(its:List D) (p:Int) (x3:B),∃y3,tM (gN 3) oJ its [x0,x1,.fz (.int p),x3,x4,x5,x6,x7]=some (.nx [x0,x1,.fz (.int (p*2^its.length)),y3,x4,x5,x6,x7])
 | [],p,x3=>⟨x3,by simp[tM]⟩
 | d::r,p,x3=>by
   obtain⟨y3,ih⟩:=bQ x0 x1 x4 x5 x6 x7 r (p+p) (.fz d)
   refine⟨y3,?_⟩
   rw[wZ (ρ1:=[x0,x1,.fz (.int p),.fz d,x4,x5,x6,x7]) (ρ2:=[x0,x1,.fz (.int (p+p)),.fz d,x4,x5,x6,x7]) rfl rfl,ih]
   rw[Qa,Tq,show p*(2^r.length*2)=(p+p)*2^r.length by rw[Int.add_mul,←Up];omega]
theorem mC {xs ys:List Int}{k d v S:Int}{x1 y3 o7:B}{acc:List D}(ha:acc.length<=1000)
   (e0:vC 7 (mI (eV 0)) [.fz (zQ xs),x1,.fz (.int S),y3,.ow acc,.fz (.int k),.fz (.int d),o7]=some (.nx [.fz (zQ xs),x1,.fz (.int S),y3,.ow acc,.fz (.int k),.fz (.int d),.ow (xs.map .int)]))
   (e1:lV 7 (eV 5) (mG (zYq 7 (eV 5)) (eV 6)) [.fz (zQ xs),x1,.fz (.int S),y3,.ow acc,.fz (.int k),.fz (.int d),.ow (xs.map .int)]=some (.nx [.fz (zQ xs),x1,.fz (.int S),y3,.ow acc,.fz (.int k),.fz (.int d),.ow (ys.map .int)]))
   (e2:zYq 7 (eV 5) [.fz (zQ xs),x1,.fz (.int S),y3,.ow acc,.fz (.int k),.fz (.int d),.ow (ys.map .int)]=some (.int v))
   (e3:yA (eV 7) [.fz (zQ xs),x1,.fz (.int S),y3,.ow acc,.fz (.int k),.fz (.int d),.fz (.lst (ys.map .int))]=some (zQ ys)) :
   ∃z7,xU [.fz (zQ xs),x1,.fz (.int S),y3,.ow acc,.fz (.int k),.fz (.int d),o7]=some (.nx [.fz (zQ xs),x1,.fz (.int S),y3,.ow (acc++(wV S v ys).map zQ),.fz (.int k),.fz (.int d),z7]):=by
 unfold xU
 rw[yU e0]
 unfold tK
 rw[yU e1]
 unfold oF wV
 rw[uT (zQj e2 rfl)]
 cases inS S v with
 | true =>
   refine⟨.fz (.lst (ys.map .int)),?_⟩
   show jZ 4 (yA (eV 7)) [.fz (zQ xs),x1,.fz (.int S),y3,.ow acc,.fz (.int k),.fz (.int d),.fz (.lst (ys.map .int))]=_
   rw[zZQ e3 rfl ha]
   rfl
 | false=>exact⟨.ow (ys.map .int),by simp⟩
theorem dM {xs ys zs:List Int}{k v u S:Int}{x1 y3 y6 o7:B}{acc:List D}(ha:acc.length<=900)
   (h1:∀(o7:B) (acc:List D),acc.length<=1000->∃z7,xU [.fz (zQ xs),x1,.fz (.int S),y3,.ow acc,.fz (.int k),.fz (.int 1),o7]=some (.nx [.fz (zQ xs),x1,.fz (.int S),y3,.ow (acc++(wV S v ys).map zQ),.fz (.int k),.fz (.int 1),z7]))
   (h2:∀(o7:B) (acc:List D),acc.length<=1000->∃z7,xU [.fz (zQ xs),x1,.fz (.int S),y3,.ow acc,.fz (.int k),.fz (.int (-1)),o7]=some (.nx [.fz (zQ xs),x1,.fz (.int S),y3,.ow (acc++(wV S u zs).map zQ),.fz (.int k),.fz (.int (-1)),z7])) :
   ∃z6 z7,wJ [.fz (zQ xs),x1,.fz (.int S),y3,.ow acc,.fz (.int k),y6,o7]=some (.nx [.fz (zQ xs),x1,.fz (.int S),y3,.ow (acc++(wV S v ys++wV S u zs).map zQ),.fz (.int k),z6,z7]):=by
 have l1:(wV S v ys).length<=1:=by unfold wV;split<;>simp
 obtain⟨a7,e1⟩:=h1 o7 acc (by omega)
 obtain⟨b7,e2⟩:=h2 a7 (acc++(wV S v ys).map zQ) (by simp;omega)
 refine⟨.fz (.int (-1)),b7,?_⟩
 show tM (gN 6) xU [.int 1,.int (-1)] [.fz (zQ xs),x1,.fz (.int S),y3,.ow acc,.fz (.int k),y6,o7]=_
 rw[wZ (ρ1:=[.fz (zQ xs),x1,.fz (.int S),y3,.ow acc,.fz (.int k),.fz (.int 1),o7]) rfl e1]
 rw[wZ (ρ1:=[.fz (zQ xs),x1,.fz (.int S),y3,.ow (acc++(wV S v ys).map zQ),.fz (.int k),.fz (.int (-1)),a7]) rfl e2]
 rw[Ew,Td]
 rfl
def bsM (S:Int):List Int->List (List Int)
 | [x,y]=>(wV S (x+1) [x+1,y]++wV S (x + -1) [x + -1,y])++(wV S (y+1) [x,y+1]++wV S (y + -1) [x,y + -1])
 | [x,y,z]=>(wV S (x+1) [x+1,y,z]++wV S (x + -1) [x + -1,y,z])++(wV S (y+1) [x,y+1,z]++wV S (y + -1) [x,y + -1,z])++(wV S (z+1) [x,y,z+1]++wV S (z + -1) [x,y,z + -1])
 | _=>[]
theorem zYj (S v:Int)(c:List Int):(wV S v c).length<=1:=by unfold wV;split<;>simp
theorem zQM {L:Nat}(hL:L<=100)(xs:List Int):∃y3,∀r,((vU (iR (vZ (eV 0))) (gN 5) wJ [.fz (zQ xs),.fz (.int (L:Nat)),.fz (.int (2^L)),y3,.ow [],.no,.no,.no]).bind fun o=>match o with | .nx ρ'=>mO ρ' | o=>some o).bind zZ2=r->sR [zQ xs,.int (L:Nat)]=r:=by
 obtain⟨y3,e⟩:=bQ (.fz (zQ xs)) (.fz (.int (L:Nat))) .no .no .no .no (rO 0 L) 1 .no
 rw[tP,Int.one_mul] at e
 refine⟨y3,fun r h=>?_⟩
 generalize(2:Int)^L=S at e h
 show(uN [.fz (zQ xs),.fz (.int (L:Nat)),.no,.no,.no,.no,.no,.no]).bind zZ2=_
 unfold uN
 rw[vN (d:=.int 1) rfl]
 unfold rT
 dsimp only[List.set]
 rw[yU (ρ':=[.fz (zQ xs),.fz (.int (L:Nat)),.fz (.int S),y3,.no,.no,.no,.no]) (by
   unfold vU
   rw[show iR (eV 1) [.fz (zQ xs),.fz (.int (L:Nat)),.fz (.int 1),.no,.no,.no,.no,.no]=some (rO 0 L) from by
     show(if decide (-1000000<=((L:Nat):Int))&&decide (((L:Nat):Int)<=1000000) then some (rO 0 ((L:Nat):Int).toNat) else none)=_
     rw[Qg (by omega),Qg (by omega),Wb];rfl,Qe]
   exact e)]
 unfold rQ
 rw[yU (ρ':=[.fz (zQ xs),.fz (.int (L:Nat)),.fz (.int S),y3,.ow [],.no,.no,.no]) rfl]
 exact h
theorem zPm (x y S:Int)(x1 y3:B):∃b6 b7,tM (gN 5) wJ [.int 0,.int 1] [.fz (zQ [x,y]),x1,.fz (.int S),y3,.ow [],.no,.no,.no]=some (.nx [.fz (zQ [x,y]),x1,.fz (.int S),y3,.ow ((bsM S [x,y]).map zQ),.fz (.int 1),b6,b7]):=by
 have s0:=zYj S
 obtain⟨a6,a7,f1⟩:=dM (xs:=[x,y]) (x1:=x1) (y3:=y3) (y6:=.no) (o7:=.no) (acc:=[]) (k:=0) (S:=S) (by simp) (fun o7 acc ha=>mC (ys:=[x+1,y]) (v:=x+1) ha rfl rfl rfl rfl) (fun o7 acc ha=>mC (ys:=[x + -1,y]) (v:=x + -1) ha rfl rfl rfl rfl)
 obtain⟨b6,b7,f2⟩:=dM (xs:=[x,y]) (x1:=x1) (y3:=y3) (y6:=a6) (o7:=a7) (acc:=[]++(wV S (x+1) [x+1,y]++wV S (x + -1) [x + -1,y]).map zQ) (k:=1) (S:=S) (by have:=s0 (x+1) [x+1,y];have:=s0 (x + -1) [x + -1,y];simp;omega) (fun o7 acc ha=>mC (ys:=[x,y+1]) (v:=y+1) ha rfl rfl rfl rfl) (fun o7 acc ha=>mC (ys:=[x,y + -1]) (v:=y + -1) ha rfl rfl rfl rfl)
 refine⟨b6,b7,?_⟩
 rw[wZ (ρ1:=[.fz (zQ [x,y]),x1,.fz (.int S),y3,.ow [],.fz (.int 0),.no,.no]) rfl f1]
 rw[wZ (ρ1:=[.fz (zQ [x,y]),x1,.fz (.int S),y3,.ow ([]++(wV S (x+1) [x+1,y]++wV S (x + -1) [x + -1,y]).map zQ),.fz (.int 1),a6,a7]) rfl f2]
 rw[Ev,←Ew]
 rfl
theorem zPy (x y z S:Int)(x1 y3:B):∃b6 b7,tM (gN 5) wJ [.int 0,.int 1,.int 2] [.fz (zQ [x,y,z]),x1,.fz (.int S),y3,.ow [],.no,.no,.no]=some (.nx [.fz (zQ [x,y,z]),x1,.fz (.int S),y3,.ow ((bsM S [x,y,z]).map zQ),.fz (.int 2),b6,b7]):=by
 have s0:=zYj S
 obtain⟨a6,a7,f1⟩:=dM (xs:=[x,y,z]) (x1:=x1) (y3:=y3) (y6:=.no) (o7:=.no) (acc:=[]) (k:=0) (S:=S) (by simp) (fun o7 acc ha=>mC (ys:=[x+1,y,z]) (v:=x+1) ha rfl rfl rfl rfl) (fun o7 acc ha=>mC (ys:=[x + -1,y,z]) (v:=x + -1) ha rfl rfl rfl rfl)
 obtain⟨b6,b7,f2⟩:=dM (xs:=[x,y,z]) (x1:=x1) (y3:=y3) (y6:=a6) (o7:=a7) (acc:=[]++(wV S (x+1) [x+1,y,z]++wV S (x + -1) [x + -1,y,z]).map zQ) (k:=1) (S:=S) (by have:=s0 (x+1) [x+1,y,z];have:=s0 (x + -1) [x + -1,y,z];simp;omega) (fun o7 acc ha=>mC (ys:=[x,y+1,z]) (v:=y+1) ha rfl rfl rfl rfl) (fun o7 acc ha=>mC (ys:=[x,y + -1,z]) (v:=y + -1) ha rfl rfl rfl rfl)
 obtain⟨c6,c7,f3⟩:=dM (xs:=[x,y,z]) (x1:=x1) (y3:=y3) (y6:=b6) (o7:=b7) (acc:=[]++(wV S (x+1) [x+1,y,z]++wV S (x + -1) [x + -1,y,z]).map zQ++(wV S (y+1) [x,y+1,z]++wV S (y + -1) [x,y + -1,z]).map zQ) (k:=2) (S:=S) (by have:=s0 (x+1) [x+1,y,z];have:=s0 (x + -1) [x + -1,y,z];have:=s0 (y+1) [x,y+1,z];have:=s0 (y + -1) [x,y + -1,z];simp;omega) (fun o7 acc ha=>mC (ys:=[x,y,z+1]) (v:=z+1) ha rfl rfl rfl rfl) (fun o7 acc ha=>mC (ys:=[x,y,z + -1]) (v:=z + -1) ha rfl rfl rfl rfl)
 refine⟨c6,c7,?_⟩
 rw[wZ (ρ1:=[.fz (zQ [x,y,z]),x1,.fz (.int S),y3,.ow [],.fz (.int 0),.no,.no]) rfl f1]
 rw[wZ (ρ1:=[.fz (zQ [x,y,z]),x1,.fz (.int S),y3,.ow ([]++(wV S (x+1) [x+1,y,z]++wV S (x + -1) [x + -1,y,z]).map zQ),.fz (.int 1),a6,a7]) rfl f2]
 rw[wZ (ρ1:=[.fz (zQ [x,y,z]),x1,.fz (.int S),y3,.ow ([]++(wV S (x+1) [x+1,y,z]++wV S (x + -1) [x + -1,y,z]).map zQ++(wV S (y+1) [x,y+1,z]++wV S (y + -1) [x,y + -1,z]).map zQ),.fz (.int 2),b6,b7]) rfl f3]
 rw[Ev,←Ew,←Ew]
 rfl
theorem zTu {xs:List Int}(h:xs.length=2):∃x y,xs=[x,y]:=by
 match xs,h with
 | [x,y],_=>exact⟨x,y,rfl⟩
theorem zVa {xs:List Int}(h:xs.length=3):∃x y z,xs=[x,y,z]:=by
 match xs,h with
 | [x,y,z],_=>exact⟨x,y,z,rfl⟩
theorem zV8 {n L:Nat}(hn:n=2∨n=3)(hL:L<=100)(xs:List Int)(hl:xs.length=n):sR [zQ xs,.int (L:Nat)]=some ((bsM (2^L) xs).map zQ):=by
 obtain⟨y3,go⟩:=zQM hL xs
 refine go _ ?_
 generalize(2:Int)^L=S
 rcases hn with rfl | rfl
 · obtain⟨x,y,rfl⟩:=zTu hl
   obtain⟨b6,b7,e⟩:=zPm x y S (.fz (.int (L:Nat))) y3
   unfold vU
   rw[show iR (vZ (eV 0)) [.fz (zQ [x,y]),.fz (.int (L:Nat)),.fz (.int S),y3,.ow [],.no,.no,.no]=some [.int 0,.int 1] from by kernel_rfl,Qe,e]
   rfl
 · obtain⟨x,y,z,rfl⟩:=zVa hl
   obtain⟨b6,b7,e⟩:=zPy x y z S (.fz (.int (L:Nat))) y3
   unfold vU
   rw[show iR (vZ (eV 0)) [.fz (zQ [x,y,z]),.fz (.int (L:Nat)),.fz (.int S),y3,.ow [],.no,.no,.no]=some [.int 0,.int 1,.int 2] from by kernel_rfl,Qe,e]
   rfl
def onF (S:Int)(c:List Int):Bool:=c.all fun x=>decide (0<=x)&&decide (x < S)
def pU (cv:D)(L:Nat)(c:List Int):Int:=match vF [cv,.int (L:Nat),zQ c] with | some (.int a)=>a | _=>0
theorem zR6 {f:List D->Option (List D)}{fa:Ef}{ρ:List B}{x:D}(h1:fa ρ=some x):wE 1 f (zY fa zS) ρ=f [x]:=by unfold wE;rw[yQ h1 rfl,Qe];rfl
theorem iV {α:Type}(f:α->Int):∀l:List α,lG (l.map fun c=>.int (f c))=some (l.map f)
 | []=>rfl
 | c::r=>by
   show(lG (r.map fun c=>.int (f c))).map _=_
   rw[iV f r]
   rfl
theorem zXj (l:List Int):lG (l.map .int)=some l:=by
 have:=iV (fun x:Int=>x) l
 simpa using this
theorem zXw {n:Nat}(hn:n=2∨n=3){xs:List Int}(hl:xs.length=n):(arM xs).length<=6/\∀c∈arM xs,c.length=n:=by
 rcases hn with rfl | rfl
 · obtain⟨x,y,rfl⟩:=zTu hl
   simp[arM]
 · obtain⟨x,y,z,rfl⟩:=zVa hl
   simp[arM]
theorem zTn {n:Nat}(hn:n=2∨n=3){xs:List Int}(hl:xs.length=n):(arM xs).Nodup:=by
 rcases hn with rfl | rfl
 · obtain⟨x,y,rfl⟩:=zTu hl
   simp[arM,Re]
   omega
 · obtain⟨x,y,z,rfl⟩:=zVa hl
   simp[arM,Re]
   omega
theorem zQ9 {n:Nat}(hn:n=2∨n=3){xs:List Int}(hl:xs.length=n):∀c∈arM xs,dst xs c=1:=by
 have a1:∀x:Int,aI (x - (x + -1))=1:=fun x=>by rw[show x - (x + -1)=1 by omega];rfl
 have a2:∀x:Int,aI (x - (x+1))=1:=fun x=>by rw[show x - (x+1) = -1 by omega];rfl
 have a3:∀x:Int,aI (x - x)=0:=fun x=>by rw[Int.sub_self];rfl
 intro c hc
 rcases hn with rfl | rfl
 · obtain⟨x,y,rfl⟩:=zTu hl
   simp only[arM,Qk,We,Rw] at hc
   rcases hc with rfl | rfl | rfl | rfl<;>simp[dst,a1,a2,a3,show aI 0=0 from rfl]
 · obtain⟨x,y,z,rfl⟩:=zVa hl
   simp only[arM,Qk,We,Rw] at hc
   rcases hc with rfl | rfl | rfl | rfl | rfl | rfl<;>simp[dst,a1,a2,a3,show aI 0=0 from rfl]
theorem on2 (S a b:Int):onF S [a,b]=(inS S a&&inS S b):=by simp[onF,inS]
theorem on3 (S a b c:Int):onF S [a,b,c]=(inS S a&&inS S b&&inS S c):=by simp[onF,inS,Bool.and_assoc]
theorem zQv {n:Nat}(hn:n=2∨n=3){xs:List Int}(hl:xs.length=n){S:Int}(hs:onF S xs=true):(bsM S xs).Perm ((arM xs).filter (onF S)):=by
 rcases hn with rfl | rfl
 · obtain⟨x,y,rfl⟩:=zTu hl
   rw[on2,Qh] at hs
   simp only[arM,bsM,List.filter_cons,List.filter_nil,on2,hs.1,hs.2,Bool.and_true,Bool.true_and,wV]
   generalize inS S (x+1)=p1
   generalize inS S (x + -1)=p2
   generalize inS S (y+1)=p3
   generalize inS S (y + -1)=p4
   have sw:∀(a b:List Int) (r:List (List Int)) (p q:Bool),((if p=true then [a] else [])++(if q=true then [b] else [])++r).Perm (if q=true then b::(if p=true then a::r else r) else if p=true then a::r else r):=fun a b r p q=>by
     cases p<;>cases q<;>simp
     exact List.Perm.swap _ _ _
   refine(sw _ _ _ _ _).trans ?_
   have s2:=sw [x,y+1] [x,y + -1] [] p3 p4
   rw[Et] at s2
   cases p1<;>cases p2<;>simp only[Rt,Yu,Wa]
   · exact s2
   · exact s2.cons _
   · exact s2.cons _
   · exact(s2.cons _).cons _
 · obtain⟨x,y,z,rfl⟩:=zVa hl
   rw[on3,Qh,Qh] at hs
   simp only[arM,bsM,List.filter_cons,List.filter_nil,on3,hs.1.1,hs.1.2,hs.2,Bool.and_true,Bool.true_and,wV]
   generalize inS S (x+1)=p1
   generalize inS S (x + -1)=p2
   generalize inS S (y+1)=p3
   generalize inS S (y + -1)=p4
   generalize inS S (z+1)=p5
   generalize inS S (z + -1)=p6
   have sw:∀(a b:List Int) (r t:List (List Int)) (p q:Bool),r.Perm t->((if p=true then [a] else [])++(if q=true then [b] else [])++r).Perm (if q=true then b::(if p=true then a::t else t) else if p=true then a::t else t):=fun a b r t p q h=>by
     cases p<;>cases q<;>simp
     · exact h
     · exact h
     · exact h
     · exact(List.Perm.swap _ _ _).trans ((h.cons _).cons _)
   have s3:=sw [x,y,z+1] [x,y,z + -1] [] [] p5 p6 .nil
   rw[Et] at s3
   have s2:=sw [x,y+1,z] [x,y + -1,z] _ _ p3 p4 s3
   have s1:=sw [x+1,y,z] [x + -1,y,z] _ _ p1 p2 s2
   rw[Td (_++_)]
   exact s1
theorem zRO (l:List Int):eqD 8 (.lst (l.map .int)) (.lst (l.map .int))=some true:=by
 show(if (l.map D.int).length=(l.map D.int).length then kM (eqD 7) (l.map .int) (l.map .int) else some false)=_
 rw[Qc rfl,zZv l l rfl]
 simp
section
variable {n:Nat} (hn:n=2∨n=3) {ps:List Pt} (ok:PtsOk n ps) (j:Bool) {L:Nat} (hL:L<=60)
include hn ok hL
theorem zZ6 {c:List Int}(hc:c.length=n)(ho:onF (2^L) c=true):vF [zB n j ps,.int (L:Nat),zQ c]=some (.int (pU (zB n j ps) L c))/\vG [zB n j ps,.int (L:Nat),.int (pU (zB n j ps) L c)]=some (zQ c):=by
 have hb:∀i < n,0<=c.getD i 0/\c.getD i 0 < 2^L:=fun i hi=>by
   have hm:c.getD i 0∈c:=by
     rw[Wu,Qu (by omega)]
     exact Rc _
   have q:=Ww.mp ho _ hm
   rw[Qh,Qz,Qz] at q
   exact q
 obtain⟨a,ha,e⟩:=zXp hn ok L (fun i=>c.getD i 0) hb
 have ec:(List.range n).map (fun i=>c.getD i 0)=c:=by
   apply Rv
   · simp[hc]
   · intro i p q
     simp[q]
 rw[ec] at e
 have e1:=zVb hn ok j hL ha
 have e2:=zYE hn ok j hL ha
 rw[e] at e1 e2
 have q:pU (zB n j ps) L c=(a:Int):=by unfold pU;rw[e1]
 rw[q]
 exact⟨e1,e2⟩
theorem cO {a:Nat}{xs:List Int}(hx:xs.length=n)(e0:vG [zB n j ps,.int (L:Nat),.int (a:Nat)]=some (zQ xs)) :
   pA [zB n j ps,.int (L:Nat),.int (a:Nat)]=some (.lst ((vT (((arM xs).filter (onF (2^L))).map (pU (zB n j ps) L))).map .int)):=by
 obtain⟨l1,l2⟩:=zXw hn hx
 show(uV [.fz (zB n j ps),.fz (.int (L:Nat)),.fz (.int (a:Nat)),.no]).bind vQ=_
 unfold uV
 refine vS (d:=.lst ((arM xs).map zQ)) (kD ((zR6 ((pO rfl rfl rfl).trans e0)).trans (zVP hn xs hx))) ?_
 dsimp only[List.set]
 have f:yO (iL (eV 3)) 1 [0,1] (gN 0) (tB1 (zF 3 wT (zY (xA "Curve" "dims" (eV 1)) (zY (eV 2) (zY (eV 0) zS))))) (zF 3 vF (zY (eV 1) (zY (eV 2) (zY (eV 0) zS)))) [.fz (zB n j ps),.fz (.int (L:Nat)),.fz (.int (a:Nat)),.fz (.lst ((arM xs).map zQ))]=some (((arM xs).filter (onF (2^L))).map fun c=>.int (pU (zB n j ps) L c)):=by
   unfold yO
   show(okL ((arM xs).map zQ)).bind (fun ds=>uE (gN 0) _ _ ds [.no,.fz (zB n j ps),.fz (.int (L:Nat))] [])=_
   rw[lB (by rw[Qo];omega),Qe]
   rw[dZ (f:=zQ) (p:=onF (2^L)) (h:=fun c=>.int (pU (zB n j ps) L c)) (arM xs) .no [] fun c hc=>⟨?_,fun hp=>(pO rfl rfl rfl).trans (zZ6 hn ok j hL (l2 c hc) hp).1⟩,Ev]
   unfold tB1
   rw[pO (x:=.int (n:Nat)) (y:=.int (L:Nat)) (z:=zQ c) rfl rfl rfl,show wT [.int (n:Nat),.int (L:Nat),zQ c]=_ from zTl hn (by omega) c (l2 c hc)]
   rfl
 unfold nJ xQ eL gF
 rw[f,Qe,iV,Qe,Qc (by
   have h1:=List.length_filter_le (onF (2^L)) (arM xs)
   rw[Qo]
   omega)]
 rfl
theorem zVd {xs:List Int}(hx:xs.length=n):(((arM xs).filter (onF (2^L))).map (pU (zB n j ps) L)).Nodup:=by
 obtain⟨_,l2⟩:=zXw hn hx
 refine List.pairwise_map.mpr (List.Pairwise.imp_of_mem (fun {c d} hc hd ne e=>ne ?_) ((zTn hn hx).sublist List.filter_sublist))
 have q1:=(zZ6 hn ok j hL (l2 c (Er.mp hc).1) (Er.mp hc).2).2
 have q2:=(zZ6 hn ok j hL (l2 d (Er.mp hd).1) (Er.mp hd).2).2
 rw[e,q2] at q1
 have:=Wk q1
 injection this with this
 exact((List.map_inj_right (fun a b e=>by injection e)).mp this).symm
theorem zUg {a:Nat}(ha:a < ps.length^L):mP [zB n j ps,.lst (ps.map zL),.int (L:Nat),.int (a:Nat)]=some (.bl true):=by
 have e1:=zZW hn ok hL (a:=a)
 have e2:=zYE hn ok j hL ha
 have hx:(plW ps n (yL n) false (fun _=>0) (xN ps.length a L).reverse).length=n:=by simp[plW]
 have hB:0 < ps.length:=by rw[ok.len];exact Ro (by decide)
 have hon:onF (2^L) (plW ps n (yL n) false (fun _=>0) (xN ps.length a L).reverse)=true:=Ww.mpr fun x hm=>by
   unfold plW at hm
   obtain⟨i,_,rfl⟩:=Wc.mp hm
   have hlen:(xN ps.length a L).reverse.length=L:=by rw[Ee,dX]
   have:=jJ hn ok i (xN ps.length a L).reverse (yL n) false (sK hn) fun d hd=>jK hB L a d (Rn.mp hd)
   rw[hlen] at this
   rw[Qh,Qz,Qz]
   exact this
 generalize plW ps n (yL n) false (fun _=>0) (xN ps.length a L).reverse=xs at *
 have e3:=cO hn ok j hL hx e2
 have e4:=zV8 hn (show L<=100 by omega) xs hx
 have hp:=zQv hn hx hon
 have nd:=zVd hn ok j hL hx
 obtain⟨l1,l2⟩:=zXw hn hx
 have hd:=zQ9 hn hx
 have hnum:∀c∈(arM xs).filter (onF (2^L)),vG [zB n j ps,.int (L:Nat),.int (pU (zB n j ps) L c)]=some (zQ c):=fun c hc=>(zZ6 hn ok j hL (l2 c (Er.mp hc).1) (Er.mp hc).2).2
 have hlf:=List.length_filter_le (onF (2^L)) (arM xs)
 have hcv:∀ρ:List B,eV 0 ρ=some (zB n j ps)->xA (Str.ofString "Curve") (Str.ofString "dims") (eV 0) ρ=some (.int (n:Nat)):=fun ρ h=>pQ h
 generalize(2:Int)^L=S at *
 generalize zB n j ps=cv at *
 have hfl:(vT (((arM xs).filter (onF S)).map (pU cv L))).length=((arM xs).filter (onF S)).length:=by rw[(wR _).length_eq,Qo]
 have hmem:∀m∈vT (((arM xs).filter (onF S)).map (pU cv L)),∃c∈(arM xs).filter (onF S),m=pU cv L c:=fun m hm=>by
   obtain⟨c,h1,h2⟩:=Wc.mp ((wR _).mem_iff.mp hm)
   exact⟨c,h1,h2.symm⟩
 have hnd:(vT (((arM xs).filter (onF S)).map (pU cv L))).Nodup:=(wR _).nodup_iff.mpr nd
 have hst:vT (vT (((arM xs).filter (onF S)).map (pU cv L)))=vT (((arM xs).filter (onF S)).map (pU cv L)):=kW (wR _) (uY _) (uY _)
 have hlen:=hp.length_eq
 have hin:∀c∈(arM xs).filter (onF S),c∈bsM S xs:=fun c hc=>hp.mem_iff.mpr hc
 have hbl:∀c∈bsM S xs,c.length=n:=fun c hc=>l2 c (Er.mp (hp.mem_iff.mp hc)).1
 generalize vT (((arM xs).filter (onF S)).map (pU cv L))=fs at *
 generalize bsM S xs=du at *
 show(tT [.fz cv,.fz (.lst (ps.map zL)),.fz (.int (L:Nat)),.fz (.int (a:Nat)),.no,.no,.no,.no,.no]).bind vQ=_
 unfold tT
 refine vS ((zSb rfl (hcv _ rfl) rfl rfl).trans e1) ?_
 unfold qS
 refine vS ((pO rfl rfl rfl).trans e3) ?_
 unfold qQ
 refine vS (kD ((iH rfl rfl).trans e4)) ?_
 unfold qK
 dsimp only[List.set]
 refine zSf ?_ ?_
 · have t1:qZ (tB1 (zV3 bI (eV 5))) [.fz cv,.fz (.lst (ps.map zL)),.fz (.int (L:Nat)),.fz (.int (a:Nat)),.fz (zQ xs),.fz (.lst (fs.map .int)),.fz (.lst (du.map zQ)),.no,.no]=some false:=rfl
   have t2:eB2 zXv (vZ (eV 5)) (vZ (eV 6)) [.fz cv,.fz (.lst (ps.map zL)),.fz (.int (L:Nat)),.fz (.int (a:Nat)),.fz (zQ xs),.fz (.lst (fs.map .int)),.fz (.lst (du.map zQ)),.no,.no]=some false:=by
     show zXv (.int (((fs.map D.int).length:Nat):Int)) (.int (((du.map zQ).length:Nat):Int))=_
     rw[Qo,Qo,hfl,hlen]
     show(some (_==_)).map (!·)=_
     simp
   have t3:eB2 zXv (eV 5) (eL (pS (iL (eV 5)))) [.fz cv,.fz (.lst (ps.map zL)),.fz (.int (L:Nat)),.fz (.int (a:Nat)),.fz (zQ xs),.fz (.lst (fs.map .int)),.fz (.lst (du.map zQ)),.no,.no]=some false:=by
     have q:eL (pS (iL (eV 5))) [.fz cv,.fz (.lst (ps.map zL)),.fz (.int (L:Nat)),.fz (.int (a:Nat)),.fz (zQ xs),.fz (.lst (fs.map .int)),.fz (.lst (du.map zQ)),.no,.no]=some (.lst (fs.map .int)):=kD (by
       unfold pS
       show((some (fs.map D.int)).bind fun ds=>(lG ds).bind fun ns=>if ns.Nodup/\ns.length < 64 then some ((vT ns).map D.int) else none)=_
       rw[Qe,zXj,Qe,Qc ⟨hnd,by omega⟩,hst])
     unfold eB2
     rw[q]
     show(eqD 8 (.lst (fs.map .int)) (.lst (fs.map .int))).map (!·)=_
     rw[zRO]
     rfl
   unfold zYn
   rw[t1,t2,t3]
   rfl
 unfold qX
 obtain⟨ρ',q,y7,y8,rfl⟩:=fN (g:=gN 7) (body:=uO) (P:=fun ρ=>∃y7 y8,ρ=[.fz cv,.fz (.lst (ps.map zL)),.fz (.int (L:Nat)),.fz (.int (a:Nat)),.fz (zQ xs),.fz (.lst (fs.map .int)),.fz (.lst (du.map zQ)),y7,y8]) (fs.map .int) (fun d hd' ρ hρ=>by
     obtain⟨m,hm,rfl⟩:=Wc.mp hd'
     obtain⟨y7,y8,rfl⟩:=hρ
     obtain⟨c,hc,rfl⟩:=hmem m hm
     refine⟨[.fz cv,.fz (.lst (ps.map zL)),.fz (.int (L:Nat)),.fz (.int (a:Nat)),.fz (zQ xs),.fz (.lst (fs.map .int)),.fz (.lst (du.map zQ)),.fz (.int (pU cv L c)),y8],[.fz cv,.fz (.lst (ps.map zL)),.fz (.int (L:Nat)),.fz (.int (a:Nat)),.fz (zQ xs),.fz (.lst (fs.map .int)),.fz (.lst (du.map zQ)),.fz (.int (pU cv L c)),.fz (zQ c)],rfl,?_,_,_,rfl⟩
     have hcl:c.length=n:=l2 c (Er.mp hc).1
     unfold uO
     rw[yU ((uT (b:=false) rfl).trans rfl)]
     unfold sI
     rw[vN ((pO rfl rfl rfl).trans (hnum c hc))]
     unfold nM
     dsimp only[List.set]
     refine(uT (b:=false) ?_).trans rfl
     have u1:eB2 gK (eV 8) (eV 6) [.fz cv,.fz (.lst (ps.map zL)),.fz (.int (L:Nat)),.fz (.int (a:Nat)),.fz (zQ xs),.fz (.lst (fs.map .int)),.fz (.lst (du.map zQ)),.fz (.int (pU cv L c)),.fz (zQ c)]=some false:=by
       show(zVW (zQ c) (.lst (du.map zQ))).map (!·)=_
       rw[zQH hcl du hbl,List.any_eq_true.mpr ⟨c,hin c hc,by simp⟩]
       rfl
     have u2:eB2 zW4 (zF 2 pP (zY (eV 4) (zY (eV 8) zS))) (eC (.bl true)) [.fz cv,.fz (.lst (ps.map zL)),.fz (.int (L:Nat)),.fz (.int (a:Nat)),.fz (zQ xs),.fz (.lst (fs.map .int)),.fz (.lst (du.map zQ)),.fz (.int (pU cv L c)),.fz (zQ c)]=some false:=by
       unfold eB2
       rw[uS (x:=zQ xs) (y:=zQ c) rfl rfl,zWG hn xs c hx hcl,hd c (Er.mp hc).1]
       rfl
     unfold zYn
     rw[u1,u2]
     rfl) [.fz cv,.fz (.lst (ps.map zL)),.fz (.int (L:Nat)),.fz (.int (a:Nat)),.fz (zQ xs),.fz (.lst (fs.map .int)),.fz (.lst (du.map zQ)),.no,.no] ⟨_,_,rfl⟩
 refine xY (ρ':=[.fz cv,.fz (.lst (ps.map zL)),.fz (.int (L:Nat)),.fz (.int (a:Nat)),.fz (zQ xs),.fz (.lst (fs.map .int)),.fz (.lst (du.map zQ)),y7,y8]) q ?_
 unfold mB xQ wF eB2
 rw[uS (x:=zQ xs) (y:=zQ xs) rfl rfl,zWG hn xs xs hx hx,zYd]
 rfl
end
theorem zTL (x0:B)(c:Int)(hc:Builtin.Int.intBits c<=1048576)(x2 x3 x4 x5 x6:B):∃y2 y3 y4 y5 y6,pJ [x0,.fz (.int c),x2,x3,x4,x5,x6]=some (.nx [x0,.fz (.int c),y2,y3,y4,y5,y6]):=by
 have e1:=dH c 69621 (by decide) (by decide)
 have r0:0<=zYx c 69621:=by unfold zYx;omega
 generalize zYx c 69621=r at e1 r0
 obtain⟨n,hn,hnn⟩:∃n:Nat,(n=2∨n=3)/\(2+r % 2)=(n:Int):=by
   rcases bit r with h | h
   · exact⟨2,.inl rfl,by omega⟩
   · exact⟨3,.inr rfl,by omega⟩
 obtain⟨L,hL,e2⟩:=zTE (r / 2) (by omega)
 obtain⟨ps,ok,e3⟩:=zUT hn c
 have e4:=zUl n (decide (r / 800 % 2=1)) ps (ok.small hn)
 obtain⟨a,ha,e5⟩:=zZj hn hL c hc
 rw[←ok.len] at ha
 have e6:=zUg hn ok (decide (r / 800 % 2=1)) hL ha
 generalize hj:decide (r / 800 % 2=1)=j at *
 refine⟨.fz (.int r),.fz (.int (n:Nat)),.fz (.int (L:Nat)),.fz (.lst (ps.map zL)),.fz (zB n j ps),?_⟩
 unfold pJ
 rw[vN ((uS rfl rfl).trans e1)]
 unfold fJ
 rw[vN (d:=.int (n:Nat)) (by rw[←hnn];exact yH rfl (yH rfl rfl rfl) rfl)]
 unfold dW
 rw[vN ((bW (x:=.int (r / 2)) (yH rfl rfl rfl)).trans e2)]
 unfold eB
 rw[vN (kD ((iH rfl rfl).trans e3))]
 unfold fE
 rw[vN ((pO (y:=.bl j) rfl (by unfold wF;rw[sA (x:=r / 800 % 2) (yH (yH rfl rfl rfl) rfl rfl),hj];rfl) rfl).trans e4)]
 unfold zZc
 dsimp only[List.set]
 exact(uT (zSe ((zSb rfl rfl rfl ((pO rfl rfl rfl).trans e5)).trans e6))).trans rfl
theorem zU4 (ns:List Int)(h:ns.length<=63)(hb:∀n∈ns,Builtin.Int.intBits n<=1048576):bF [.lst (ns.map .int)]=some (.bl true):=by
 have hc:zZF (ns.map .int) none (some 4)=(ns.take 4).map .int:=by
   unfold zZF
   have z2:∀m:Nat,HT.sIx m m (some (4:Int))=min 4 m:=fun m=>HT.sIx_nat m m 4
   rw[HT.sIx_none,z2,List.drop_zero,Uc,Qo,List.map_take]
   rw[List.take_eq_take_iff,Qo]
   omega
 have src:gM (lD (eV 0) oNo (lQ (eC (.int 4)))) (yE (zY (eC (.int 11)) zS)) [.fz (.lst (ns.map .int)),.no,.no,.no,.no,.no,.no]=some ((ns.take 4++[11]).map .int):=by
   have e2:lD (eV 0) oNo (lQ (eC (.int 4))) [.fz (.lst (ns.map .int)),.no,.no,.no,.no,.no,.no]=some ((ns.take 4).map .int):=by
     simp only[lD,lQ,oNo,eV,eC,sQ,Wo,Qe,hc]
   have e1:yE (zY (eC (.int 11)) zS) [.fz (.lst (ns.map .int)),.no,.no,.no,.no,.no,.no]=some [.int 11]:=rfl
   unfold gM
   rw[e2,e1,Qe,Qe]
   rw[lB (by simp;omega),Ew]
   rfl
 obtain⟨ρ',e,y1,y2,y3,y4,y5,y6,rfl⟩:=fN (g:=gN 1) (body:=pJ) (P:=fun ρ=>∃y1 y2 y3 y4 y5 y6,ρ=[.fz (.lst (ns.map .int)),y1,y2,y3,y4,y5,y6]) ((ns.take 4++[11]).map .int) (fun d hd ρ hρ=>by
     obtain⟨c,hcm,rfl⟩:=Wc.mp hd
     obtain⟨y1,y2,y3,y4,y5,y6,rfl⟩:=hρ
     have hbc:Builtin.Int.intBits c<=1048576:=by
       rcases Tx.mp hcm with z | z
       · exact hb c (List.mem_of_mem_take z)
       · rw[To.mp z];decide
     obtain⟨z2,z3,z4,z5,z6,e⟩:=zTL (.fz (.lst (ns.map .int))) c hbc y2 y3 y4 y5 y6
     exact⟨_,_,rfl,e,_,_,_,_,_,_,rfl⟩) [.fz (.lst (ns.map .int)),.no,.no,.no,.no,.no,.no] ⟨_,_,_,_,_,_,rfl⟩
 have es:vU (gM (lD (eV 0) oNo (lQ (eC (.int 4)))) (yE (zY (eC (.int 11)) zS))) (gN 1) pJ [.fz (.lst (ns.map .int)),.no,.no,.no,.no,.no,.no]=some (.nx [.fz (.lst (ns.map .int)),y1,y2,y3,y4,y5,y6]):=by
   unfold vU;rw[src,Qe];exact e
 exact xY (g:=zWI) es rfl
end My
open PySem PySem.W PyProof.Rows
set_option maxRecDepth 100000 in
set_option maxHeartbeats 0 in
theorem PySem.Challenge.cw_curveyard_k17_neighbours_holds : PySem.Challenge.rw_curveyard_k17_neighbours.Holds := by
 w_on
 refine PySem.W.holds_law My.zS1 fun said=>?_
 refine PySem.W.holds_open (r:=PySem.Challenge.rw_curveyard_k17_neighbours.row) (q:=My.oS) (loose:=My.loose) (XP:=PySem.W.XL My.oS [])
   (YP:=PySem.W.InK My.zZz) My.zTa (PySem.W.InK.of My.zYT) PySem.W.InK.keeps
   (fun s e=>PySem.W.xl_of s (Bool.and_eq_true_iff.mp e).1) PySem.W.XL.keeps (by rfl) (by rfl) (by rfl)
   (fun s e=>PySem.W.recFacts_of (Bool.and_eq_true_iff.mp e).2) (by rfl) (by assumption) (by decide +kernel)
   ⟨rfl,rfl,rfl,rfl,rfl,by decide +kernel⟩ ?hw ?hc
 case hw=>w_witness2
 k_fill
 refine L2.zVl (l:=PySem.Challenge.rw_curveyard_k17_neighbours) (n:=63) (k:=7) (x:="_law_script") (CX:=fun _=>L2.CX0) (sp:=fun w=>L2.spF _ 1 My.bF) rfl (by decide) rfl ⟨rfl,by decide,by decide⟩ (fun w h Y=>Y) ?F (fun w H a ns hl hb hO hS=>My.zRL hS (My.zU4 ns hl hb)) (fun _ _ _ _ _ z=>z)
 case F =>
   intro w mg fa h KX G hmg
   refine' My.zRU KX G hmg ?g0 ?g1 ?g2 ?g3 ?g4 ?g5 ?g6 ?g7 ?g8 ?g9 ?g10 ?g11 ?g12 ?g13 ?g14 ?g15 ?g16 ?g17 ?g18 ?g19 ?g20 ?g21 ?g22 ?g23 ?g24 ?g25 ?g26 ?g27 ?g28 ?g29 ?g30 ?g31 ?g32 ?g33 ?g34 ?g35 ?g36 ?g37 ?ca0 ?ci0 ?cn0 ?cl0 ?cc0 ?ck0 ?cpg0 ?chd0 ?cpo0 ?csa0 ?cmk0 ?ckc0 ?cf0_dims ?cf0_joined ?cf0_name ?cf0_parts ?ca1 ?ci1 ?cn1 ?cl1 ?cc1 ?ck1 ?cpg1 ?chd1 ?cpo1 ?csa1 ?cmk1 ?ckc1 ?cf1_back ?cf1_corner ?cf1_turn ?z_abs ?z_all ?z_bool ?z_int ?z_isinstance ?z_len ?z_list ?z_range ?z_reversed ?z_set ?z_sorted ?z_sum ?z_tuple ?z_zip
   all_goals (try exact⟨_,_,_,_,_,_,_,_,_,_,by k_is,by k_is,by k_is,by k_is⟩)
   all_goals (try k_is)
